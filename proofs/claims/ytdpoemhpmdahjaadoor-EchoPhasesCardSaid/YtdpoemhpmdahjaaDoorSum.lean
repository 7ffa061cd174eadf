/- Contracts: slices that read as lists, products with a conjugate, sums of what a closure gives. -/
import Derived.Test.YtdpoemhpmdahjaaDoorLow
import Derived.Deep.LoopGhost
namespace Go.Proofs.YtdpoemhpmdahjaaDoor
open Go.RowKit
set_option maxHeartbeats 400000
set_option maxRecDepth 100000

/-- the slice at A of n elements of one cell each reads as f -/
def Sl (w : World) (A : Option Addr) (n : Nat) (f : Nat → Value) : Prop := 0 < n → ∃ b off, A = some ⟨b, off, none⟩ ∧ b < w.heap.size ∧ ∀ i, i < n → w.cell? ⟨b, off + i, none⟩ = some (f i)
theorem Sl.below {w w' : World} {A : Option Addr} {n : Nat} {f : Nat → Value} (h : Sl w A n f) (hb : Below w.heap.size w w') : Sl w' A n f := by
  intro hn
  obtain ⟨b, off, e, hlt, hc⟩ := h hn
  exact ⟨b, off, e, Nat.lt_of_lt_of_le hlt hb.size, fun i hi => (hb.cell (p := ⟨b, off + i, none⟩) hlt).trans (hc i hi)⟩
theorem Sl.alloc {w : World} {A : Option Addr} {n : Nat} {f : Nat → Value} (h : Sl w A n f) (o : Obj) : Sl (w.alloc o) A n f := h.below ((Below.refl _ _).alloc (Nat.le_refl _) o)

def sumI (f : Nat → Int) : Nat → Int
  | 0 => 0
  | k + 1 => sumI f k + f k

theorem product_bits {a b c d : Nat} {x y u v : Int} (ha : Is .f64 a x) (hb : Is .f64 b y) (hc : Is .f64 c u) (hd : Is .f64 d v)
    (h1 : (x * u).natAbs < 2 ^ digits .f64) (h2 : (y * v).natAbs < 2 ^ digits .f64) (h3 : (x * u - y * v).natAbs < 2 ^ digits .f64) (h4 : (x * v).natAbs < 2 ^ digits .f64) (h5 : (y * u).natAbs < 2 ^ digits .f64) (h6 : (x * v + y * u).natAbs < 2 ^ digits .f64) :
    ∃ re im, cMulBits a b c d = some (re, im) ∧ Is .f64 re (x * u - y * v) ∧ Is .f64 im (x * v + y * u) := by
  obtain ⟨p, ep, hp⟩ := mul_is ha hc h1
  obtain ⟨q, eq, hq⟩ := mul_is hb hd h2
  obtain ⟨r, er, hr⟩ := sub_is hp hq h3
  obtain ⟨s, es, hs⟩ := mul_is ha hd h4
  obtain ⟨t, et, ht⟩ := mul_is hb hc h5
  obtain ⟨u', eu, hu⟩ := add_is hs ht h6
  refine ⟨r, u', ?_, hr, hu⟩
  simp [cMulBits, ep, eq, er, es, et, eu]

theorem conj_ok (a b c d : Nat) (x y u v : Int) (ha : Is .f64 a x) (hb : Is .f64 b y) (hc : Is .f64 c u) (hd : Is .f64 d v) (hx : x.natAbs ≤ 1000000000) (hy : y.natAbs ≤ 1000000000) (hu : u.natAbs ≤ 2047) (hv : v.natAbs ≤ 2047) (w : World) :
    Calls Tryd.prog 91 #[.complex .f64 a b, .complex .f64 c d] w fun e w' => (∃ re im, e = .returned (.complex .f64 re im) ∧ Is .f64 re (x * u + y * v) ∧ Is .f64 im (y * u - x * v)) ∧ w = w' := by
  have b1 : (x * u).natAbs ≤ 1000000000 * 2047 := by rw [Int.natAbs_mul]; exact Nat.mul_le_mul hx hu
  have b2 : (y * v).natAbs ≤ 1000000000 * 2047 := by rw [Int.natAbs_mul]; exact Nat.mul_le_mul hy hv
  have b3 : (x * v).natAbs ≤ 1000000000 * 2047 := by rw [Int.natAbs_mul]; exact Nat.mul_le_mul hx hv
  have b4 : (y * u).natAbs ≤ 1000000000 * 2047 := by rw [Int.natAbs_mul]; exact Nat.mul_le_mul hy hu
  obtain ⟨re, im, he, hre, him⟩ := product_bits ha hb hc (neg_is hd) (by rw [two53]; omega) (by rw [two53, Int.mul_neg]; omega) (by rw [two53, Int.mul_neg]; omega) (by rw [two53, Int.mul_neg]; omega) (by rw [two53]; omega) (by rw [two53, Int.mul_neg]; omega)
  have e1 : x * u - y * -v = x * u + y * v := by rw [Int.mul_neg]; omega
  have e2 : x * -v + y * u = y * u - x * v := by rw [Int.mul_neg]; omega
  rw [e1] at hre
  rw [e2] at him
  have hop := fun t w => run_complex_mul (P := Tryd.prog) w t a b c (Op.negFloat .f64 d) re im he
  have hneg : ∀ w, (Op.unary .neg (.float .f64 d)).run Tryd.prog w = .ok (.float .f64 (Op.negFloat .f64 d)) w := fun _ => rfl
  have H1 := Lib.hid hre
  have H2 := Lib.hid him
  clear ha hb hc hd hx hy hu hv b1 b2 b3 b4 he hre him e1 e2
  go_enter Tryd.func91, Tryd.ntmps91
  go_wp2_with (simp only [hop])
  go_ret
  exact ⟨⟨re, im, rfl, H1.out, H2.out⟩, rfl⟩

theorem plus_F {c d : Nat} {x y u v : Int} (hx : x.natAbs < 2 ^ digits .f64) (hy : y.natAbs < 2 ^ digits .f64) (hc : Is .f64 c u) (hd : Is .f64 d v) (h1 : (x + u).natAbs < 2 ^ digits .f64) (h2 : (y + v).natAbs < 2 ^ digits .f64) :
    cSumBits .add .f64 (F .f64 x) (F .f64 y) c d = some (F .f64 (x + u), F .f64 (y + v)) := by
  simp [cSumBits, add_F hx hc h1, add_F hy hd h2]

theorem sumOf_ok (q : FuncId) (cap : Array Value) (n : Nat) (X Y : Nat → Int) (w : World) (hn : n ≤ 1000000)
    (hq : ∀ (args : Array Value) (w : World), (callFunc q args).run Tryd.prog w = .ok (.enter q args) w)
    (hterm : ∀ (k : Nat) (w' : World), k < n → Below w.heap.size w w' → Calls Tryd.prog q (#[.int .i64 (k : Int)] ++ cap) w' fun e w'' => (∃ a b, e = .returned (.complex .f64 a b) ∧ Is .f64 a (X k) ∧ Is .f64 b (Y k)) ∧ Below w'.heap.size w' w'')
    (hbd : ∀ k, k ≤ n → (sumI X k).natAbs < 9007199254740992 ∧ (sumI Y k).natAbs < 9007199254740992) :
    Calls Tryd.prog 89 #[.int .i64 (n : Int), .func (.func q) #[] cap] w fun e w' => e = .returned (.complex .f64 (F .f64 (sumI X n)) (F .f64 (sumI Y n))) ∧ Below w.heap.size w w' := by
  have HT := Lib.hid hterm
  have HB := Lib.hid hbd
  clear hterm hbd
  go_enter Tryd.func89, Tryd.ntmps89
  go_wp2
  go_loopg [5, 8] n (fun g s i wr => ∃ k : Nat, k ≤ n ∧ g = n - k ∧ i = .int .i64 (k : Int) ∧ s = .complex .f64 (F .f64 (sumI X k)) (F .f64 (sumI Y k)) ∧ Below w.heap.size w wr)
  case atStart => exact ⟨0, Nat.zero_le _, rfl, rfl, by simp only [sumI, F_zero], Below.refl _ _⟩
  case round =>
    obtain ⟨k, hk, hg, rfl, rfl, hb⟩ := hrel
    have HG := Lib.hid hg
    clear hg
    by_cases hlt : k < n
    · go_wp2_with fail
      refine (HT.out k wr hlt hb).mono ?_
      rintro e w1 ⟨⟨a, b, rfl, ha, hb2⟩, hb1⟩
      have hop := fun t w => run_complex_sum (P := Tryd.prog) w .add (Or.inl rfl) t .f64 _ _ a b _ _ (plus_F (by have := (HB.out k hk).1; rw [two53]; exact this) (by have := (HB.out k hk).2; rw [two53]; exact this) ha hb2 (by have := (HB.out (k + 1) hlt).1; rw [two53]; exact this) (by have := (HB.out (k + 1) hlt).2; rw [two53]; exact this))
      have hw : Below w.heap.size w w1 := hb.trans (hb1.mono hb.size)
      clear ha hb2 hb hb1
      go_wp2
      go_roundg (n - (k + 1))
      case measure => have := HG.out; omega
      case rel => exact ⟨k + 1, hlt, rfl, by go_num, rfl, hw⟩
    · go_wp2
      go_ret
      obtain rfl : k = n := by omega
      exact ⟨rfl, hb⟩
end Go.Proofs.YtdpoemhpmdahjaaDoor
