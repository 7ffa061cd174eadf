/- Contracts of package orbit: the box at a tick. -/
import Derived.Test.YtnaanninmkplfaaOme
import Derived.Deep.DeepCutAuto
namespace Go.Proofs.Ytnaanninmkplfaa
open Go.RowKit
set_option maxHeartbeats 1600000
set_option maxRecDepth 100000

theorem coordinates_eq (x y z : Int) (w : World) : Calls Try.prog 128 #[.agg #[.int .i64 x, .int .i64 y, .int .i64 z]] w fun e w' => e = .returned (.agg #[.int .i64 x, .int .i64 y, .int .i64 z]) ∧ (w.alloc (.cells #[.int .i64 x, .int .i64 y, .int .i64 z] 42)).alloc (.cells #[.int .i64 x, .int .i64 y, .int .i64 z] 84) = w' := by
  go_enter Try.func128, Try.ntmps128
  go_wp2
  refine bodyPost_ret (v := .agg #[.int .i64 x, .int .i64 y, .int .i64 z]) (by simp [results, Try.results128, go_sem, *]) rfl ⟨rfl, ?_⟩
  rfl

/-- a block of three numbers -/
def V3 (w : World) (g : Nat) (a b c : Int) : Prop := w.cell? ⟨g, 0, none⟩ = some (.int .i64 a) ∧ w.cell? ⟨g, 1, none⟩ = some (.int .i64 b) ∧ w.cell? ⟨g, 2, none⟩ = some (.int .i64 c)

theorem v3_drew {w : World} {g : Nat} {a b c : Int} (h : V3 w g a b c) : V3 w.drew g a b c := h
theorem v3_new {w : World} {g : Nat} {t : TypeId} {a b c : Int} (h : g = w.heap.size) : V3 (w.alloc (.cells #[.int .i64 a, .int .i64 b, .int .i64 c] t)) g a b c := by
  have q := at_new (w := w) (t := t) (cs := #[.int .i64 a, .int .i64 b, .int .i64 c]) h
  exact ⟨q.cell 0, q.cell 1, q.cell 2⟩
theorem lt_cell {w : World} {g i : Nat} {v : Value} (h : w.cell? ⟨g, i, none⟩ = some v) : g < w.heap.size := by
  rcases Nat.lt_or_ge g w.heap.size with hl | hl
  · exact hl
  · have : w.heap[g]? = none := Array.getElem?_eq_none hl
    simp [World.cell?, this] at h
theorem v3_below {w w' : World} {g : Nat} {a b c : Int} (h : V3 w g a b c) (hb : Below w.heap.size w w') : V3 w' g a b c := by
  obtain ⟨h0, h1, h2⟩ := h
  have hl := lt_cell h0
  exact ⟨(hb.cell (p := ⟨g, 0, none⟩) hl).trans h0, (hb.cell (p := ⟨g, 1, none⟩) hl).trans h1, (hb.cell (p := ⟨g, 2, none⟩) hl).trans h2⟩
theorem v3_alloc {w : World} {g : Nat} {a b c : Int} {o : Obj} (h : V3 w g a b c) : V3 (w.alloc o) g a b c := v3_below h (below_new (Below.refl _ _) (Nat.le_refl _))
theorem v3_nth {w : World} {g : Nat} {a b c : Int} (h : V3 w g a b c) {k : Nat} (hk : k < 3) : w.cell? ⟨g, k, none⟩ = some (.int .i64 (nth a b c k)) := by
  match k, hk with
  | 0, _ => exact h.1
  | 1, _ => exact h.2.1
  | 2, _ => exact h.2.2

def boxV (S : Nat → Nat → Int) (n : Nat) (b t : Int) : Value :=
  .agg #[.int .i64 (lo S n b t 1), .int .i64 (hi S n b t 1), .int .i64 (lo S n b t 2), .int .i64 (hi S n b t 2), .int .i64 (lo S n b t 3), .int .i64 (hi S n b t 3)]

theorem box_nums {S : Nat → Nat → Int} {n j : Nat} {b t x0 x1 x2 x3 x4 y0 y1 y2 y3 y4 : Int} (hR : Right S n b) (hj : j + 1 < n) (hI : In S j t)
    (hX : (x0 = S j 0 ∧ x1 = S j 1 ∧ x2 = S j 2 ∧ x3 = S j 3 ∧ x4 = S j 4) ∧ y0 = S (j + 1) 0 ∧ y1 = S (j + 1) 1 ∧ y2 = S (j + 1) 2 ∧ y3 = S (j + 1) 3 ∧ y4 = S (j + 1) 4) :
    (0 ≤ y0 - x0 ∧ y0 - x0 ≤ 20000) ∧ (0 ≤ t - x0 ∧ t - x0 ≤ 20000) ∧ (-100000000 ≤ x4 ∧ x4 ≤ 100000000) ∧ (-100000000 ≤ y4 ∧ y4 ≤ 100000000) := by
  obtain ⟨⟨e0, _, _, _, e4⟩, f0, _, _, _, f4⟩ := hX
  obtain ⟨s1, s2⟩ := hR.spn hj
  have h1 := (hR.2.2.2.1 j (by omega)).2.2.2.2
  have h2 := (hR.2.2.2.1 (j + 1) hj).2.2.2.2
  obtain ⟨i1, i2, _⟩ := hI
  unfold Go.Proofs.Ytnaanninmkplfaa.spn at s1 s2
  omega

theorem off_nums {S : Nat → Nat → Int} {n j : Nat} {b t x0 x1 x2 x3 x4 y0 y1 y2 y3 y4 E : Int} (hR : Right S n b) (hj : j + 1 < n) (hI : In S j t)
    (hX : (x0 = S j 0 ∧ x1 = S j 1 ∧ x2 = S j 2 ∧ x3 = S j 3 ∧ x4 = S j 4) ∧ y0 = S (j + 1) 0 ∧ y1 = S (j + 1) 1 ∧ y2 = S (j + 1) 2 ∧ y3 = S (j + 1) 3 ∧ y4 = S (j + 1) 4) (hE : E = x4 * (y0 - x0) + (y4 - x4) * (t - x0)) :
    (0 ≤ E ∧ E ≤ 2000000000) ∧ (0 ≤ b * (y0 - x0) ∧ b * (y0 - x0) ≤ 2000000000) ∧ IntKind.i64.wrap (b * (y0 - x0)) = b * (y0 - x0) ∧ IntKind.i64.wrap (E + b * (y0 - x0)) = E + b * (y0 - x0) ∧ 0 < y0 - x0 := by
  obtain ⟨⟨e0, _, _, _, e4⟩, f0, _, _, _, f4⟩ := hX
  obtain ⟨s1, s2⟩ := hR.spn hj
  have h1 := (hR.2.2.2.1 j (by omega)).2.2.2.2
  have h2 := (hR.2.2.2.1 (j + 1) hj).2.2.2.2
  obtain ⟨g1, g2⟩ := mid_range (c := 4) hI h1 h2
  have hm : mid S j t 4 = E := by rw [hE, e4, f4, e0, f0]; rfl
  rw [hm] at g1 g2
  have hs : Go.Proofs.Ytnaanninmkplfaa.spn S j = y0 - x0 := by rw [e0, f0]; rfl
  rw [hs] at g1 g2 s1 s2
  obtain ⟨hb1, hb2⟩ := hR.2.2.1
  have k1 := Int.mul_nonneg hb1 (show 0 ≤ y0 - x0 by omega)
  have k2 := Int.mul_le_mul hb2 s2 (by omega) (by omega)
  refine ⟨by omega, ⟨k1, by omega⟩, IntWalk.i64_in _ (by omega), IntWalk.i64_in _ (by omega), by omega⟩

def bF (x0 x1 x2 x3 y0 y1 y2 y3 t o : Int) (k : Nat) : Int := (nth x1 x2 x3 k * (y0 - x0) + (nth y1 y2 y3 k - nth x1 x2 x3 k) * (t - x0) - o) / (y0 - x0)
def bG (x0 x1 x2 x3 y0 y1 y2 y3 t o : Int) (k : Nat) : Int := -(-(nth x1 x2 x3 k * (y0 - x0) + (nth y1 y2 y3 k - nth x1 x2 x3 k) * (t - x0) + o) / (y0 - x0))
/-- a box of which the first k sides are laid -/
def bc (F G : Nat → Int) (k : Nat) : Array Value :=
  #[.int .i64 (if 0 < k then F 0 else 0), .int .i64 (if 0 < k then G 0 else 0), .int .i64 (if 1 < k then F 1 else 0), .int .i64 (if 1 < k then G 1 else 0), .int .i64 (if 2 < k then F 2 else 0), .int .i64 (if 2 < k then G 2 else 0)]
theorem bc_get (F G : Nat → Int) {k : Nat} (h : k < 3) : (bc F G k)[k * 2]? = some (.int .i64 0) ∧ (bc F G k)[k * 2 + 1]? = some (.int .i64 0) := by
  match k, h with
  | 0, _ => exact ⟨rfl, rfl⟩
  | 1, _ => exact ⟨rfl, rfl⟩
  | 2, _ => exact ⟨rfl, rfl⟩
theorem bc_put (F G : Nat → Int) {k : Nat} (h : k < 3) : ((bc F G k).setIfInBounds (k * 2) (.int .i64 (F k))).setIfInBounds (k * 2 + 1) (.int .i64 (G k)) = bc F G (k + 1) := by
  match k, h with
  | 0, _ => rfl
  | 1, _ => rfl
  | 2, _ => rfl

/-- the numbers of the three sides: in range; what they come to -/
theorem lo_nums {S : Nat → Nat → Int} {n j : Nat} {b t x0 x1 x2 x3 x4 y0 y1 y2 y3 y4 E o : Int} {p : Bool} (hR : Right S n b) (hT : Has S n t) (hj : j + 1 < n) (hI : In S j t)
    (hX : (x0 = S j 0 ∧ x1 = S j 1 ∧ x2 = S j 2 ∧ x3 = S j 3 ∧ x4 = S j 4) ∧ y0 = S (j + 1) 0 ∧ y1 = S (j + 1) 1 ∧ y2 = S (j + 1) 2 ∧ y3 = S (j + 1) 3 ∧ y4 = S (j + 1) 4) (hE : E = x4 * (y0 - x0) + (y4 - x4) * (t - x0))
    (hp : (t == x0 || t == y0) = p) (ho : o = if p then E else E + b * (y0 - x0)) :
    (∀ k, k < 3 → (-100000000 ≤ nth x1 x2 x3 k ∧ nth x1 x2 x3 k ≤ 100000000) ∧ (-100000000 ≤ nth y1 y2 y3 k ∧ nth y1 y2 y3 k ≤ 100000000) ∧
      (-4611686018427387904 ≤ nth x1 x2 x3 k * (y0 - x0) + (nth y1 y2 y3 k - nth x1 x2 x3 k) * (t - x0) - o ∧ nth x1 x2 x3 k * (y0 - x0) + (nth y1 y2 y3 k - nth x1 x2 x3 k) * (t - x0) - o ≤ 4611686018427387904) ∧
      (-4611686018427387904 ≤ nth x1 x2 x3 k * (y0 - x0) + (nth y1 y2 y3 k - nth x1 x2 x3 k) * (t - x0) + o ∧ nth x1 x2 x3 k * (y0 - x0) + (nth y1 y2 y3 k - nth x1 x2 x3 k) * (t - x0) + o ≤ 4611686018427387904) ∧
      IntKind.i64.wrap (nth x1 x2 x3 k * (y0 - x0) + (nth y1 y2 y3 k - nth x1 x2 x3 k) * (t - x0) - o) = nth x1 x2 x3 k * (y0 - x0) + (nth y1 y2 y3 k - nth x1 x2 x3 k) * (t - x0) - o ∧
      IntKind.i64.wrap (nth x1 x2 x3 k * (y0 - x0) + (nth y1 y2 y3 k - nth x1 x2 x3 k) * (t - x0) + o) = nth x1 x2 x3 k * (y0 - x0) + (nth y1 y2 y3 k - nth x1 x2 x3 k) * (t - x0) + o ∧ 0 < y0 - x0) ∧
    ∀ k, k < 3 → bF x0 x1 x2 x3 y0 y1 y2 y3 t o k = lo S n b t (k + 1) ∧ bG x0 x1 x2 x3 y0 y1 y2 y3 t o k = hi S n b t (k + 1) := by
  obtain ⟨⟨h0, h1, h2, h3, h4⟩, f0, f1, f2, f3, f4⟩ := hX
  have hm4 : mid S j t 4 = E := by rw [hE, h4, f4, h0, f0]; rfl
  have hsp : Go.Proofs.Ytnaanninmkplfaa.spn S j = y0 - x0 := by rw [h0, f0]; rfl
  have hof : off S b j t = o := by
    unfold off
    rw [hm4, hsp, ho]
    by_cases hq : t = S j 0 ∨ t = S (j + 1) 0
    · have : p = true := by rw [← hp, h0, f0]; simpa using hq
      rw [if_pos hq, this]; rfl
    · have : p = false := by rw [← hp, h0, f0]; simpa using hq
      rw [if_neg hq, this]; rfl
  have hmid : ∀ k, k < 3 → mid S j t (k + 1) = nth x1 x2 x3 k * (y0 - x0) + (nth y1 y2 y3 k - nth x1 x2 x3 k) * (t - x0) := by
    intro k hk
    match k, hk with
    | 0, _ => rw [show nth x1 x2 x3 0 = x1 from rfl, show nth y1 y2 y3 0 = y1 from rfl, h1, f1, h0, f0]; rfl
    | 1, _ => rw [show nth x1 x2 x3 1 = x2 from rfl, show nth y1 y2 y3 1 = y2 from rfl, h2, f2, h0, f0]; rfl
    | 2, _ => rw [show nth x1 x2 x3 2 = x3 from rfl, show nth y1 y2 y3 2 = y3 from rfl, h3, f3, h0, f0]; rfl
  obtain ⟨a1, a2⟩ := hR.arc hT
  refine ⟨fun k hk => ?_, fun k hk => ?_⟩
  · obtain ⟨⟨m1, m2⟩, ⟨o1, o2⟩, _⟩ := arc_facts hR hj hI (c := k + 1) (by omega)
    obtain ⟨s1, _⟩ := hR.st (j := j) (c := k + 1) (by omega) (by omega)
    obtain ⟨s2, _⟩ := hR.st (j := j + 1) (c := k + 1) hj (by omega)
    obtain ⟨p1, p2⟩ := hR.spn hj
    rw [hmid k hk] at m1 m2
    rw [hof] at o1 o2
    rw [hsp] at p1
    have e1 : nth x1 x2 x3 k = S j (k + 1) := by
      match k, hk with
      | 0, _ => exact h1
      | 1, _ => exact h2
      | 2, _ => exact h3
    have e2 : nth y1 y2 y3 k = S (j + 1) (k + 1) := by
      match k, hk with
      | 0, _ => exact f1
      | 1, _ => exact f2
      | 2, _ => exact f3
    exact ⟨e1 ▸ s1, e2 ▸ s2, by omega, by omega, IntWalk.i64_in _ (by omega), IntWalk.i64_in _ (by omega), by omega⟩
  · obtain ⟨g1, g2, _⟩ := same_of hR.2.2.2.2.1 hI a1 hj a2 b (k + 1)
    refine ⟨?_, ?_⟩
    · show _ = loJ S b _ t (k + 1)
      rw [← g1]
      unfold loJ bF
      rw [hmid k hk, hof, hsp]
    · show _ = hiJ S b _ t (k + 1)
      rw [← g2]
      unfold hiJ bG
      rw [hmid k hk, hof, hsp]

theorem box_any (s : ByteArray) (b : Int) (A : Option Addr) (n c : Nat) (S : Nat → Nat → Int) (t : Int) (w : World) (hS : St w A n S) (hR : Right S n b) (hT : Has S n t) (hn : n ≤ c) (hc : c ≤ maxLen) :
    Calls Try.prog 88 #[.agg #[.string s, .int .i64 b, .slice A n c], .int .i64 t] w fun e w' => e = .returned (boxV S n b t) ∧ Below w.heap.size w w' := by
  have HS := Lib.hid hS
  have HR := Lib.hid hR
  have HT := Lib.hid hT
  have HN := Lib.hid hn
  have HC := Lib.hid hc
  clear hS hR hT hn hc
  go_enter Try.func88, Try.ntmps88
  go_wp2_with fail
  have hA1 := (At.new w 126 #[.string s, .int .i64 b, .slice A n c]).alloc (.cells #[.int .i64 0, .int .i64 0, .int .i64 0, .int .i64 0, .int .i64 0, .int .i64 0] 47)
  have hA2 := at_new (w := w.alloc (.cells #[.string s, .int .i64 b, .slice A n c] 126)) (g := w.heap.size + 1) (t := 47) (cs := #[.int .i64 0, .int .i64 0, .int .i64 0, .int .i64 0, .int .i64 0, .int .i64 0]) (by simp)
  have hb1 : Below w.heap.size w ((w.alloc (.cells #[.string s, .int .i64 b, .slice A n c] 126)).alloc (.cells #[.int .i64 0, .int .i64 0, .int .i64 0, .int .i64 0, .int .i64 0, .int .i64 0] 47)) := below_new (below_new (Below.refl _ w) (Nat.le_refl _)) (by simp)
  generalize hW1 : (w.alloc (.cells #[.string s, .int .i64 b, .slice A n c] 126)).alloc (.cells #[.int .i64 0, .int .i64 0, .int .i64 0, .int .i64 0, .int .i64 0, .int .i64 0] 47) = W1 at hA1 hA2 hb1 ⊢
  clear hW1
  refine (moment_any s b b A n c S t W1 (HS.out.below hb1) HR.out HT.out HN.out HC.out).mono ?_
  rintro e w1 ⟨j, hj, hin, rfl, hbm⟩
  obtain ⟨x0, hx0⟩ : ∃ x, x = S j 0 := ⟨_, rfl⟩
  obtain ⟨x1, hx1⟩ : ∃ x, x = S j 1 := ⟨_, rfl⟩
  obtain ⟨x2, hx2⟩ : ∃ x, x = S j 2 := ⟨_, rfl⟩
  obtain ⟨x3, hx3⟩ : ∃ x, x = S j 3 := ⟨_, rfl⟩
  obtain ⟨x4, hx4⟩ : ∃ x, x = S j 4 := ⟨_, rfl⟩
  obtain ⟨y0, hy0⟩ : ∃ x, x = S (j + 1) 0 := ⟨_, rfl⟩
  obtain ⟨y1, hy1⟩ : ∃ x, x = S (j + 1) 1 := ⟨_, rfl⟩
  obtain ⟨y2, hy2⟩ : ∃ x, x = S (j + 1) 2 := ⟨_, rfl⟩
  obtain ⟨y3, hy3⟩ : ∃ x, x = S (j + 1) 3 := ⟨_, rfl⟩
  obtain ⟨y4, hy4⟩ : ∃ x, x = S (j + 1) 4 := ⟨_, rfl⟩
  have hm : mV S j t = .agg #[.int .i64 x0, .int .i64 x1, .int .i64 x2, .int .i64 x3, .int .i64 x4, .int .i64 y0, .int .i64 y1, .int .i64 y2, .int .i64 y3, .int .i64 y4, .int .i64 t] := by
    rw [mV, ← hx0, ← hx1, ← hx2, ← hx3, ← hx4, ← hy0, ← hy1, ← hy2, ← hy3, ← hy4]
  rw [hm]
  have HX : Hid ((x0 = S j 0 ∧ x1 = S j 1 ∧ x2 = S j 2 ∧ x3 = S j 3 ∧ x4 = S j 4) ∧ y0 = S (j + 1) 0 ∧ y1 = S (j + 1) 1 ∧ y2 = S (j + 1) 2 ∧ y3 = S (j + 1) 3 ∧ y4 = S (j + 1) 4) := ⟨⟨hx0, hx1, hx2, hx3, hx4⟩, hy0, hy1, hy2, hy3, hy4⟩
  have HI := Lib.hid hin
  clear hm hx0 hx1 hx2 hx3 hx4 hy0 hy1 hy2 hy3 hy4 hin
  have hA1' := hA1.keep hbm
  have hA2' := hA2.keep hbm
  have hb1' : Below w.heap.size w w1 := hb1.trans (hbm.mono hb1.size)
  have hz1 : w.heap.size < W1.heap.size := hA1.lt
  have hz2 : w.heap.size + 1 < W1.heap.size := hA2.lt
  have hz3 : w.heap.size + 1 < w1.heap.size := hA2'.lt
  clear hA1 hA2 hb1 hbm
  have HA1 := Lib.hid hA1'
  have HA2 := Lib.hid hA2'
  have HB1 := Lib.hid hb1'
  clear hA1' hA2' hb1'
  go_wp2_with fail
  have hA3 := At.new w1 162 #[.int .i64 x0, .int .i64 x1, .int .i64 x2, .int .i64 x3, .int .i64 x4, .int .i64 y0, .int .i64 y1, .int .i64 y2, .int .i64 y3, .int .i64 y4, .int .i64 t]
  have hb2 : Below w1.heap.size w1 _ := below_new (Below.refl _ w1) (Nat.le_refl _) (o := .cells #[.int .i64 x0, .int .i64 x1, .int .i64 x2, .int .i64 x3, .int .i64 x4, .int .i64 y0, .int .i64 y1, .int .i64 y2, .int .i64 y3, .int .i64 y4, .int .i64 t] 162)
  generalize hW2 : w1.alloc (.cells #[.int .i64 x0, .int .i64 x1, .int .i64 x2, .int .i64 x3, .int .i64 x4, .int .i64 y0, .int .i64 y1, .int .i64 y2, .int .i64 y3, .int .i64 y4, .int .i64 t] 162) = W2 at hA3 hb2 ⊢
  clear hW2
  have hz4 : w1.heap.size < W2.heap.size := hA3.lt
  have hz4a : w1.heap.size < W2.heap.size + 1 := by omega
  have hz4b : w1.heap.size < W2.heap.size + 1 + 1 := by omega
  have hz4c : w1.heap.size < W2.heap.size + 1 + 1 + 1 := by omega
  have hz4d : w1.heap.size < W2.heap.size + 1 + 1 + 1 + 1 := by omega
  have hz4e : w1.heap.size < W2.heap.size + 1 + 1 + 1 + 1 + 1 := by omega
  have hz4f : w1.heap.size < W2.heap.size + 1 + 1 + 1 + 1 + 1 + 1 := by omega
  have r1 := hA3.cell 1
  have r2 := hA3.cell 2
  have r3 := hA3.cell 3
  have r6 := hA3.cell 6
  have r7 := hA3.cell 7
  have r8 := hA3.cell 8
  simp at r1 r2 r3 r6 r7 r8
  have hSS : ∀ w', Below W2.heap.size W2 w' → w'.cell? ⟨w1.heap.size, 1, none⟩ = some (.int .i64 x1) ∧ w'.cell? ⟨w1.heap.size, 2, none⟩ = some (.int .i64 x2) ∧ w'.cell? ⟨w1.heap.size, 3, none⟩ = some (.int .i64 x3) ∧ w'.cell? ⟨w1.heap.size, 6, none⟩ = some (.int .i64 y1) ∧ w'.cell? ⟨w1.heap.size, 7, none⟩ = some (.int .i64 y2) ∧ w'.cell? ⟨w1.heap.size, 8, none⟩ = some (.int .i64 y3) := fun w' hW => by
    have q := hA3.keep hW
    exact ⟨q.cell 1, q.cell 2, q.cell 3, q.cell 6, q.cell 7, q.cell 8⟩
  have HSS := Lib.hid hSS
  clear hSS
  have HB2 := Lib.hid hb2
  have HA3 := Lib.hid hA3
  clear hb2 hA3
  go_upto_region 2 with fail
  go_cut [6, 7] (fun s6 s7 wx => ∃ g6 g7 : Nat, s6 = .pointer (some ⟨g6, 0, none⟩) ∧ s7 = .pointer (some ⟨g7, 0, none⟩) ∧ V3 wx g6 x1 x2 x3 ∧ V3 wx g7 y1 y2 y3 ∧ Below W2.heap.size W2 wx)
  case first =>
    go_region_held3 (fun w' => w'.cell? ⟨w1.heap.size, 1, none⟩ = some (.int .i64 x1) ∧ w'.cell? ⟨w1.heap.size, 2, none⟩ = some (.int .i64 x2) ∧ w'.cell? ⟨w1.heap.size, 3, none⟩ = some (.int .i64 x3) ∧ w'.cell? ⟨w1.heap.size, 6, none⟩ = some (.int .i64 y1) ∧ w'.cell? ⟨w1.heap.size, 7, none⟩ = some (.int .i64 y2) ∧ w'.cell? ⟨w1.heap.size, 8, none⟩ = some (.int .i64 y3)) (first | (refine HSS.out _ ?_; (repeat (first | (with_reducible exact Below.refl _ _) | (with_reducible refine Below.drew ?_) | (with_reducible refine below_drewNs ?_) | (with_reducible refine below_set ?_ (by first | omega | (simp; omega))) | (with_reducible refine below_new ?_ (by first | omega | (simp; done) | (simp; omega))))); done) | go_keep)
      (first
        | (go_at_call 128; (with_reducible refine (coordinates_eq _ _ _ _).mono ?_); rintro e w' ⟨rfl, rfl⟩))
    all_goals
      go_wp2_with fail
      go_meet
      refine ⟨_, _, rfl, rfl, v3_drew ?_, v3_drew ?_, ?_⟩
      · repeat (first | ((refine v3_new ?_); simp; done) | refine v3_alloc ?_)
      · repeat (first | ((refine v3_new ?_); simp; done) | refine v3_alloc ?_)
      · repeat (first | (with_reducible exact Below.refl _ _) | (with_reducible refine Below.drew ?_) | (with_reducible refine below_new ?_ (by first | omega | (simp; done) | (simp; omega))))
  case rest =>
    obtain ⟨g6, g7, rfl, rfl, hv6, hv7, hbx⟩ := hcut
    have hAm := HA3.out.keep hbx
    have hw1 : Below w1.heap.size w1 wc := HB2.out.trans (hbx.mono HB2.out.size)
    have q0 := hAm.cell 0
    have q1 := hAm.cell 1
    have q2 := hAm.cell 2
    have q3 := hAm.cell 3
    have q4 := hAm.cell 4
    have q5 := hAm.cell 5
    have q6 := hAm.cell 6
    have q7 := hAm.cell 7
    have q8 := hAm.cell 8
    have q9 := hAm.cell 9
    have q10 := hAm.cell 10
    simp at q0 q1 q2 q3 q4 q5 q6 q7 q8 q9 q10
    have HV6 := Lib.hid hv6
    have HV7 := Lib.hid hv7
    have HAM := Lib.hid hAm
    have HW1 := Lib.hid hw1
    clear hv6 hv7 hAm hw1 hbx r1 r2 r3 r6 r7 r8
    have hF := box_nums HR.out hj HI.out HX.out
    obtain ⟨d1, d2, d3, d4⟩ := hF
    go_wp2_with fail
    refine (between_any x0 x1 x2 x3 x4 y0 y1 y2 y3 y4 t x4 y4 _ d1 d2 d3 d4).mono ?_
    rintro e w6 ⟨rfl, hb6⟩
    have hAm6 := HAM.out.keep hb6
    clear q0 q1 q2 q3 q4 q5 q6 q7 q8 q9 q10
    have q0 := hAm6.cell 0
    have q1 := hAm6.cell 1
    have q2 := hAm6.cell 2
    have q3 := hAm6.cell 3
    have q4 := hAm6.cell 4
    have q5 := hAm6.cell 5
    have q6 := hAm6.cell 6
    have q7 := hAm6.cell 7
    have q8 := hAm6.cell 8
    have q9 := hAm6.cell 9
    have q10 := hAm6.cell 10
    simp at q0 q1 q2 q3 q4 q5 q6 q7 q8 q9 q10
    have HAM6 := Lib.hid hAm6
    have HB6 := Lib.hid hb6
    clear hAm6 hb6
    obtain ⟨E, hE⟩ : ∃ E, E = x4 * (y0 - x0) + (y4 - x4) * (t - x0) := ⟨_, rfl⟩
    rw [← hE]
    have HE := Lib.hid hE
    obtain ⟨c1, c2, c3, c4, c5⟩ := off_nums HR.out hj HI.out HX.out HE.out
    clear hE
    have hq1 : w6.cell? ⟨w.heap.size, 1, none⟩ = some (.int .i64 b) := by
      have h1 := (((HA1.out.below HW1.out (by omega)).keep HB6.out).cell 1)
      simpa using h1
    by_cases hp : (t == x0 || t == y0) = true
    · go_wp2_with fail
      refine (isAtState_any x0 x1 x2 x3 x4 y0 y1 y2 y3 y4 t _).mono ?_
      rintro e w8 ⟨rfl, hb8⟩
      rw [hp]
      go_wp2_with fail
      have hAm8 := HAM6.out.keep hb8
      have hb68 : Below wc.heap.size wc w8 := HB6.out.trans (hb8.mono HB6.out.size)
      have hv68 := v3_below HV6.out hb68
      have hv78 := v3_below HV7.out hb68
      have hw8 : Below w1.heap.size w1 w8 := HW1.out.trans (hb68.mono HW1.out.size)
      have hA28 := HA2.out.keep hw8
      have hB8 : Below w.heap.size w w8 := HB1.out.trans (hw8.mono HB1.out.size)
      obtain ⟨o, ho⟩ : ∃ o, o = E := ⟨_, rfl⟩
      have hlo := lo_nums (o := o) HR.out HT.out hj HI.out HX.out HE.out hp (by rw [ho]; rfl)
      rw [← ho]
      have HAM8 := Lib.hid hAm8
      have HV68 := Lib.hid hv68
      have HV78 := Lib.hid hv78
      have HA28 := Lib.hid hA28
      have HB8 := Lib.hid hB8
      have HLO := Lib.hid hlo
      have hz8 : w.heap.size + 1 < w8.heap.size := hA28.lt
      have hz8' : w1.heap.size < w8.heap.size := hAm8.lt
      clear hAm8 hb68 hv68 hv78 hw8 hA28 hB8 hlo ho q0 q1 q2 q3 q4 q5 q6 q7 q8 q9 q10 hq1 hb8 c3 c4 hp
      go_loopw [42] (fun i wr => ∃ k : Nat, k ≤ 3 ∧ i = .int .i64 (k : Int) ∧ At wr w8.heap.size 47 (bc (bF x0 x1 x2 x3 y0 y1 y2 y3 t o) (bG x0 x1 x2 x3 y0 y1 y2 y3 t o) k) ∧ Below w8.heap.size w8 wr) (fun i _ => 3 - (intOf i).toNat)
      case atStart => exact ⟨0, by omega, rfl, at_new rfl, below_new (Below.refl _ _) (Nat.le_refl _)⟩
      case round =>
        obtain ⟨k, hk, rfl, hAr, hwr⟩ := hrel
        have HAR := Lib.hid hAr
        have HWR := Lib.hid hwr
        have hzr : w8.heap.size < wr.heap.size := hAr.lt
        by_cases hlt : k < 3
        · have hAm := HAM8.out.keep hwr
          have e6 := v3_nth (v3_below HV68.out hwr) hlt
          have e7 := v3_nth (v3_below HV78.out hwr) hlt
          have hnum := (HLO.out.1 k hlt)
          obtain ⟨a, ha⟩ : ∃ a, a = nth x1 x2 x3 k := ⟨_, rfl⟩
          obtain ⟨a', ha'⟩ : ∃ a, a = nth y1 y2 y3 k := ⟨_, rfl⟩
          rw [← ha] at e6 hnum
          rw [← ha'] at e7 hnum
          obtain ⟨n1, n2, n3, n4, n5, n6, n7⟩ := hnum
          have hFk : Hid (bF x0 x1 x2 x3 y0 y1 y2 y3 t o k = (a * (y0 - x0) + (a' - a) * (t - x0) - o) / (y0 - x0) ∧ bG x0 x1 x2 x3 y0 y1 y2 y3 t o k = -(-(a * (y0 - x0) + (a' - a) * (t - x0) + o) / (y0 - x0))) := by
            unfold bF bG; rw [← ha, ← ha']; exact ⟨rfl, rfl⟩
          have q0 := hAm.cell 0
          have q1 := hAm.cell 1
          have q2 := hAm.cell 2
          have q3 := hAm.cell 3
          have q4 := hAm.cell 4
          have q5 := hAm.cell 5
          have q6 := hAm.cell 6
          have q7 := hAm.cell 7
          have q8 := hAm.cell 8
          have q9 := hAm.cell 9
          have q10 := hAm.cell 10
          simp at q0 q1 q2 q3 q4 q5 q6 q7 q8 q9 q10
          have u0 : (0 : Int) ≤ (k : Int) := by omega
          have u1 : (k : Int) < 3 := by omega
          have HAM9 := Lib.hid hAm
          clear hAr hwr hAm ha ha'
          have hSS9 : ∀ w', Below wr.heap.size wr w' → w'.cell? ⟨w1.heap.size, 0, none⟩ = some (.int .i64 x0) ∧ w'.cell? ⟨w1.heap.size, 1, none⟩ = some (.int .i64 x1) ∧ w'.cell? ⟨w1.heap.size, 2, none⟩ = some (.int .i64 x2) ∧ w'.cell? ⟨w1.heap.size, 3, none⟩ = some (.int .i64 x3) ∧ w'.cell? ⟨w1.heap.size, 4, none⟩ = some (.int .i64 x4) ∧ w'.cell? ⟨w1.heap.size, 5, none⟩ = some (.int .i64 y0) ∧ w'.cell? ⟨w1.heap.size, 6, none⟩ = some (.int .i64 y1) ∧ w'.cell? ⟨w1.heap.size, 7, none⟩ = some (.int .i64 y2) ∧ w'.cell? ⟨w1.heap.size, 8, none⟩ = some (.int .i64 y3) ∧ w'.cell? ⟨w1.heap.size, 9, none⟩ = some (.int .i64 y4) ∧ w'.cell? ⟨w1.heap.size, 10, none⟩ = some (.int .i64 t) ∧ w'.cell? ⟨g6, k, none⟩ = some (.int .i64 a) ∧ w'.cell? ⟨g7, k, none⟩ = some (.int .i64 a') := fun w' hW => by
            have q := HAM9.out.keep hW
            exact ⟨q.cell 0, q.cell 1, q.cell 2, q.cell 3, q.cell 4, q.cell 5, q.cell 6, q.cell 7, q.cell 8, q.cell 9, q.cell 10, (hW.cell (p := ⟨g6, k, none⟩) (lt_cell e6)).trans e6, (hW.cell (p := ⟨g7, k, none⟩) (lt_cell e7)).trans e7⟩
          have hP9 : ∀ W : World, Below wr.heap.size wr W → Calls Try.prog 130 #[.agg #[.int .i64 x0, .int .i64 x1, .int .i64 x2, .int .i64 x3, .int .i64 x4, .int .i64 y0, .int .i64 y1, .int .i64 y2, .int .i64 y3, .int .i64 y4, .int .i64 t], .int .i64 a, .int .i64 a'] W fun e w' => e = .returned (.int .i64 (a * (y0 - x0) + (a' - a) * (t - x0))) ∧ Below wr.heap.size wr w' ∧ w'.cell? ⟨w1.heap.size, 0, none⟩ = some (.int .i64 x0) ∧ w'.cell? ⟨w1.heap.size, 1, none⟩ = some (.int .i64 x1) ∧ w'.cell? ⟨w1.heap.size, 2, none⟩ = some (.int .i64 x2) ∧ w'.cell? ⟨w1.heap.size, 3, none⟩ = some (.int .i64 x3) ∧ w'.cell? ⟨w1.heap.size, 4, none⟩ = some (.int .i64 x4) ∧ w'.cell? ⟨w1.heap.size, 5, none⟩ = some (.int .i64 y0) ∧ w'.cell? ⟨w1.heap.size, 6, none⟩ = some (.int .i64 y1) ∧ w'.cell? ⟨w1.heap.size, 7, none⟩ = some (.int .i64 y2) ∧ w'.cell? ⟨w1.heap.size, 8, none⟩ = some (.int .i64 y3) ∧ w'.cell? ⟨w1.heap.size, 9, none⟩ = some (.int .i64 y4) ∧ w'.cell? ⟨w1.heap.size, 10, none⟩ = some (.int .i64 t) ∧ w'.cell? ⟨g6, k, none⟩ = some (.int .i64 a) ∧ w'.cell? ⟨g7, k, none⟩ = some (.int .i64 a') := by
            intro W hW
            refine (between_any x0 x1 x2 x3 x4 y0 y1 y2 y3 y4 t a a' W d1 d2 n1 n2).mono ?_
            rintro e w' ⟨rfl, hb⟩
            have hB := hW.trans (hb.mono hW.size)
            exact ⟨rfl, hB, hSS9 _ hB⟩
          have HP9 := Lib.hid hP9
          clear hP9 hSS9
          go_wp2_with fail
          go_region_held3 (fun w' => w'.cell? ⟨w1.heap.size, 0, none⟩ = some (.int .i64 x0) ∧ w'.cell? ⟨w1.heap.size, 1, none⟩ = some (.int .i64 x1) ∧ w'.cell? ⟨w1.heap.size, 2, none⟩ = some (.int .i64 x2) ∧ w'.cell? ⟨w1.heap.size, 3, none⟩ = some (.int .i64 x3) ∧ w'.cell? ⟨w1.heap.size, 4, none⟩ = some (.int .i64 x4) ∧ w'.cell? ⟨w1.heap.size, 5, none⟩ = some (.int .i64 y0) ∧ w'.cell? ⟨w1.heap.size, 6, none⟩ = some (.int .i64 y1) ∧ w'.cell? ⟨w1.heap.size, 7, none⟩ = some (.int .i64 y2) ∧ w'.cell? ⟨w1.heap.size, 8, none⟩ = some (.int .i64 y3) ∧ w'.cell? ⟨w1.heap.size, 9, none⟩ = some (.int .i64 y4) ∧ w'.cell? ⟨w1.heap.size, 10, none⟩ = some (.int .i64 t) ∧ w'.cell? ⟨g6, k, none⟩ = some (.int .i64 a) ∧ w'.cell? ⟨g7, k, none⟩ = some (.int .i64 a')) (go_keep)
            (first
              | (go_at_call 130; (with_reducible refine (HP9.out _ ?_).mono ?_); (repeat (first | assumption | (with_reducible exact Below.refl _ _) | (with_reducible refine Below.drew ?_) | (with_reducible refine below_drewNs ?_))); rintro e w9 ⟨rfl, hb9, z0, z1, z2, z3, z4, z5, z6, z7, z8, z9, z10, z11, z12⟩))
          obtain ⟨m, hm⟩ : ∃ m, m = a * (y0 - x0) + (a' - a) * (t - x0) := ⟨_, rfl⟩
          rw [← hm] at n3 n4 n5 n6 hFk ⊢
          clear hm z0 z1 z2 z3 z4 z5 z6 z7 z8 z9 z10 z11 z12 q0 q1 q2 q3 q4 q5 q6 q7 q8 q9 q10 e6 e7
          have hAm9 := HAM9.out.keep hb9
          have hAr9 := HAR.out.keep hb9
          obtain ⟨b1, b2⟩ := bc_get (bF x0 x1 x2 x3 y0 y1 y2 y3 t o) (bG x0 x1 x2 x3 y0 y1 y2 y3 t o) hlt
          have hSS10 : ∀ w', Below w9.heap.size w9 w' → w'.cell? ⟨w1.heap.size, 0, none⟩ = some (.int .i64 x0) ∧ w'.cell? ⟨w1.heap.size, 1, none⟩ = some (.int .i64 x1) ∧ w'.cell? ⟨w1.heap.size, 2, none⟩ = some (.int .i64 x2) ∧ w'.cell? ⟨w1.heap.size, 3, none⟩ = some (.int .i64 x3) ∧ w'.cell? ⟨w1.heap.size, 4, none⟩ = some (.int .i64 x4) ∧ w'.cell? ⟨w1.heap.size, 5, none⟩ = some (.int .i64 y0) ∧ w'.cell? ⟨w1.heap.size, 6, none⟩ = some (.int .i64 y1) ∧ w'.cell? ⟨w1.heap.size, 7, none⟩ = some (.int .i64 y2) ∧ w'.cell? ⟨w1.heap.size, 8, none⟩ = some (.int .i64 y3) ∧ w'.cell? ⟨w1.heap.size, 9, none⟩ = some (.int .i64 y4) ∧ w'.cell? ⟨w1.heap.size, 10, none⟩ = some (.int .i64 t) ∧ w'.cell? ⟨w8.heap.size, k * 2, none⟩ = some (.int .i64 0) ∧ w'.cell? ⟨w8.heap.size, k * 2 + 1, none⟩ = some (.int .i64 0) ∧ w'.frozen? ⟨w8.heap.size, k * 2, none⟩ = false ∧ w'.frozen? ⟨w8.heap.size, k * 2 + 1, none⟩ = false := fun w' hW => by
            have q := hAm9.keep hW
            have r := hAr9.keep hW
            exact ⟨q.cell 0, q.cell 1, q.cell 2, q.cell 3, q.cell 4, q.cell 5, q.cell 6, q.cell 7, q.cell 8, q.cell 9, q.cell 10, (r.cell _).trans b1, (r.cell _).trans b2, r.free _, r.free _⟩
          have hP10 : ∀ W : World, Below w9.heap.size w9 W → Calls Try.prog 131 #[.agg #[.int .i64 x0, .int .i64 x1, .int .i64 x2, .int .i64 x3, .int .i64 x4, .int .i64 y0, .int .i64 y1, .int .i64 y2, .int .i64 y3, .int .i64 y4, .int .i64 t]] W fun e w' => e = .returned (.int .i64 (y0 - x0)) ∧ Below w9.heap.size w9 w' ∧ w'.cell? ⟨w1.heap.size, 0, none⟩ = some (.int .i64 x0) ∧ w'.cell? ⟨w1.heap.size, 1, none⟩ = some (.int .i64 x1) ∧ w'.cell? ⟨w1.heap.size, 2, none⟩ = some (.int .i64 x2) ∧ w'.cell? ⟨w1.heap.size, 3, none⟩ = some (.int .i64 x3) ∧ w'.cell? ⟨w1.heap.size, 4, none⟩ = some (.int .i64 x4) ∧ w'.cell? ⟨w1.heap.size, 5, none⟩ = some (.int .i64 y0) ∧ w'.cell? ⟨w1.heap.size, 6, none⟩ = some (.int .i64 y1) ∧ w'.cell? ⟨w1.heap.size, 7, none⟩ = some (.int .i64 y2) ∧ w'.cell? ⟨w1.heap.size, 8, none⟩ = some (.int .i64 y3) ∧ w'.cell? ⟨w1.heap.size, 9, none⟩ = some (.int .i64 y4) ∧ w'.cell? ⟨w1.heap.size, 10, none⟩ = some (.int .i64 t) ∧ w'.cell? ⟨w8.heap.size, k * 2, none⟩ = some (.int .i64 0) ∧ w'.cell? ⟨w8.heap.size, k * 2 + 1, none⟩ = some (.int .i64 0) ∧ w'.frozen? ⟨w8.heap.size, k * 2, none⟩ = false ∧ w'.frozen? ⟨w8.heap.size, k * 2 + 1, none⟩ = false := by
            intro W hW
            refine (span_any x0 x1 x2 x3 x4 y0 y1 y2 y3 y4 t W ⟨d1.1, by omega⟩).mono ?_
            rintro e w' ⟨rfl, hb⟩
            have hB := hW.trans (hb.mono hW.size)
            exact ⟨rfl, hB, hSS10 _ hB⟩
          obtain ⟨q0, q1, q2, q3, q4, q5, q6, q7, q8, q9, q10, _, _, _, _⟩ := hSS10 w9 (Below.refl _ _)
          have HP10 := Lib.hid hP10
          have HB9 := Lib.hid hb9
          clear hP10 hSS10 hAm9 hAr9 b1 b2 hb9
          have hD2 : y0 - x0 ≤ 4611686018427387904 := by omega
          have v5 : IntKind.i64.wrap (m - o) = m - o := n5
          have v6 : IntKind.i64.wrap (m + o) = m + o := n6
          have HFAR : Hid (∀ (W : World) (i i' j : Nat) (u u' : Value), ((W.setCell ⟨w8.heap.size, i, none⟩ u).setCell ⟨w8.heap.size, i', none⟩ u').cell? ⟨w1.heap.size, j, none⟩ = W.cell? ⟨w1.heap.size, j, none⟩) := fun W i i' j u u' =>
            (World.cell?_setCell_other _ _ _ _ (by intro e; injection e with e1; omega)).trans (World.cell?_setCell_other _ _ _ _ (by intro e; injection e with e1; omega))
          go_wp2_with fail
          go_region_held3 (fun w' => w'.cell? ⟨w1.heap.size, 0, none⟩ = some (.int .i64 x0) ∧ w'.cell? ⟨w1.heap.size, 1, none⟩ = some (.int .i64 x1) ∧ w'.cell? ⟨w1.heap.size, 2, none⟩ = some (.int .i64 x2) ∧ w'.cell? ⟨w1.heap.size, 3, none⟩ = some (.int .i64 x3) ∧ w'.cell? ⟨w1.heap.size, 4, none⟩ = some (.int .i64 x4) ∧ w'.cell? ⟨w1.heap.size, 5, none⟩ = some (.int .i64 y0) ∧ w'.cell? ⟨w1.heap.size, 6, none⟩ = some (.int .i64 y1) ∧ w'.cell? ⟨w1.heap.size, 7, none⟩ = some (.int .i64 y2) ∧ w'.cell? ⟨w1.heap.size, 8, none⟩ = some (.int .i64 y3) ∧ w'.cell? ⟨w1.heap.size, 9, none⟩ = some (.int .i64 y4) ∧ w'.cell? ⟨w1.heap.size, 10, none⟩ = some (.int .i64 t)) (first | go_keep | (refine ⟨?_, ?_, ?_, ?_, ?_, ?_, ?_, ?_, ?_, ?_, ?_⟩ <;> (refine (HFAR.out _ _ _ _ _ _).trans ?_; assumption)))
            (first
              | (go_at_call 131; (with_reducible refine (HP10.out _ ?_).mono ?_); (repeat (first | assumption | (with_reducible exact Below.refl _ _) | (with_reducible refine Below.drew ?_) | (with_reducible refine below_drewNs ?_))); rintro e w10 ⟨rfl, hb10, z0, z1, z2, z3, z4, z5, z6, z7, z8, z9, z10, z11, z12, z13, z14⟩)
              | (go_at_call 129; (with_reducible refine (divideDown_any _ _ _ n7 hD2 n3).mono ?_); rintro e w' ⟨rfl, rfl⟩)
              | (go_at_call 133; (with_reducible refine (divideUp_any _ _ _ n7 hD2 n4).mono ?_); rintro e w' ⟨rfl, rfl⟩))
          rw [← hFk.out.1, ← hFk.out.2]
          have hE1 := HAR.out.keep (HB9.out.trans (hb10.mono HB9.out.size))
          have hE2 := (hE1.put (k * 2) (.int .i64 (bF x0 x1 x2 x3 y0 y1 y2 y3 t o k))).put (k * 2 + 1) (.int .i64 (bG x0 x1 x2 x3 y0 y1 y2 y3 t o k))
          rw [bc_put _ _ hlt] at hE2
          have hE3 := below_set (g := w8.heap.size) (i := k * 2 + 1) (u := .int .i64 (bG x0 x1 x2 x3 y0 y1 y2 y3 t o k)) (below_set (g := w8.heap.size) (i := k * 2) (u := .int .i64 (bF x0 x1 x2 x3 y0 y1 y2 y3 t o k)) (HWR.out.trans ((HB9.out.trans (hb10.mono HB9.out.size)).mono HWR.out.size)) (Nat.le_refl _)) (Nat.le_refl _)
          have HE2 := Lib.hid hE2
          have HE3 := Lib.hid hE3
          clear hE1 hE2 hE3 hb10 z0 z1 z2 z3 z4 z5 z6 z7 z8 z9 z10 z11 z12 z13 z14 q0 q1 q2 q3 q4 q5 q6 q7 q8 q9 q10
          go_wp2
          go_roundw
          case rel => exact ⟨k + 1, by omega, by go_num, by first | exact HE2.out | exact HE2.out, by first | exact HE3.out | exact HE3.out.drew⟩
          case measure => simp [intOf]; omega
        · obtain rfl : k = 3 := by omega
          have hfin := HLO.out.2
          obtain ⟨v1, v1'⟩ := hfin 0 (by omega)
          obtain ⟨v2, v2'⟩ := hfin 1 (by omega)
          obtain ⟨v3, v3'⟩ := hfin 2 (by omega)
          have hbc : bc (bF x0 x1 x2 x3 y0 y1 y2 y3 t o) (bG x0 x1 x2 x3 y0 y1 y2 y3 t o) 3 = #[.int .i64 (lo S n b t 1), .int .i64 (hi S n b t 1), .int .i64 (lo S n b t 2), .int .i64 (hi S n b t 2), .int .i64 (lo S n b t 3), .int .i64 (hi S n b t 3)] := by
            rw [← v1, ← v1', ← v2, ← v2', ← v3, ← v3']; rfl
          have hA := HAR.out
          rw [hbc] at hA
          have q0 := hA.cell 0
          have q1 := hA.cell 1
          have q2 := hA.cell 2
          have q3 := hA.cell 3
          have q4 := hA.cell 4
          have q5 := hA.cell 5
          simp at q0 q1 q2 q3 q4 q5
          have hR2 := HA28.out.keep HWR.out
          have t0 := hR2.cell 0
          have t1 := hR2.cell 1
          have t2 := hR2.cell 2
          have t3 := hR2.cell 3
          have t4 := hR2.cell 4
          have t5 := hR2.cell 5
          simp at t0 t1 t2 t3 t4 t5
          have f0 := hR2.free 0
          have f1 := hR2.free 1
          have f2 := hR2.free 2
          have f3 := hR2.free 3
          have f4 := hR2.free 4
          have f5 := hR2.free 5
          have HBf := Lib.hid (HB8.out.trans (HWR.out.mono HB8.out.size))
          clear hA hR2 hbc hfin v1 v1' v2 v2' v3 v3' hAr hwr
          go_wp2
          refine bodyPost_ret (v := boxV S n b t) ?h1 rfl ⟨rfl, ?_⟩
          case h1 => simp [results, Try.results88, go_sem, boxV, *]
          have HBB := HBf.out
          repeat (first | (with_reducible exact HBB) | (with_reducible refine below_set ?_ (by omega)))
    · have hp : (t == x0 || t == y0) = false := by simpa using hp
      go_wp2_with fail
      refine (isAtState_any x0 x1 x2 x3 x4 y0 y1 y2 y3 y4 t _).mono ?_
      rintro e w7 ⟨rfl, hb7⟩
      rw [hp]
      have hAm7 := HAM6.out.keep hb7
      have hb77 := hb7
      have hq17 := (hb7.cell (p := ⟨w.heap.size, 1, none⟩) (lt_cell hq1)).trans hq1
      have hSS7 : ∀ w', Below w7.heap.size w7 w' → w'.cell? ⟨w1.heap.size, 0, none⟩ = some (.int .i64 x0) ∧ w'.cell? ⟨w1.heap.size, 1, none⟩ = some (.int .i64 x1) ∧ w'.cell? ⟨w1.heap.size, 2, none⟩ = some (.int .i64 x2) ∧ w'.cell? ⟨w1.heap.size, 3, none⟩ = some (.int .i64 x3) ∧ w'.cell? ⟨w1.heap.size, 4, none⟩ = some (.int .i64 x4) ∧ w'.cell? ⟨w1.heap.size, 5, none⟩ = some (.int .i64 y0) ∧ w'.cell? ⟨w1.heap.size, 6, none⟩ = some (.int .i64 y1) ∧ w'.cell? ⟨w1.heap.size, 7, none⟩ = some (.int .i64 y2) ∧ w'.cell? ⟨w1.heap.size, 8, none⟩ = some (.int .i64 y3) ∧ w'.cell? ⟨w1.heap.size, 9, none⟩ = some (.int .i64 y4) ∧ w'.cell? ⟨w1.heap.size, 10, none⟩ = some (.int .i64 t) ∧ w'.cell? ⟨w.heap.size, 1, none⟩ = some (.int .i64 b) := fun w' hW => by
        have q := hAm7.keep hW
        exact ⟨q.cell 0, q.cell 1, q.cell 2, q.cell 3, q.cell 4, q.cell 5, q.cell 6, q.cell 7, q.cell 8, q.cell 9, q.cell 10, (hW.cell (p := ⟨w.heap.size, 1, none⟩) (lt_cell hq17)).trans hq17⟩
      have hP7 : ∀ W : World, Below w7.heap.size w7 W → Calls Try.prog 131 #[.agg #[.int .i64 x0, .int .i64 x1, .int .i64 x2, .int .i64 x3, .int .i64 x4, .int .i64 y0, .int .i64 y1, .int .i64 y2, .int .i64 y3, .int .i64 y4, .int .i64 t]] W fun e w' => e = .returned (.int .i64 (y0 - x0)) ∧ Below w7.heap.size w7 w' ∧ w'.cell? ⟨w1.heap.size, 0, none⟩ = some (.int .i64 x0) ∧ w'.cell? ⟨w1.heap.size, 1, none⟩ = some (.int .i64 x1) ∧ w'.cell? ⟨w1.heap.size, 2, none⟩ = some (.int .i64 x2) ∧ w'.cell? ⟨w1.heap.size, 3, none⟩ = some (.int .i64 x3) ∧ w'.cell? ⟨w1.heap.size, 4, none⟩ = some (.int .i64 x4) ∧ w'.cell? ⟨w1.heap.size, 5, none⟩ = some (.int .i64 y0) ∧ w'.cell? ⟨w1.heap.size, 6, none⟩ = some (.int .i64 y1) ∧ w'.cell? ⟨w1.heap.size, 7, none⟩ = some (.int .i64 y2) ∧ w'.cell? ⟨w1.heap.size, 8, none⟩ = some (.int .i64 y3) ∧ w'.cell? ⟨w1.heap.size, 9, none⟩ = some (.int .i64 y4) ∧ w'.cell? ⟨w1.heap.size, 10, none⟩ = some (.int .i64 t) ∧ w'.cell? ⟨w.heap.size, 1, none⟩ = some (.int .i64 b) := by
        intro W hW
        refine (span_any x0 x1 x2 x3 x4 y0 y1 y2 y3 y4 t W ⟨d1.1, by omega⟩).mono ?_
        rintro e w' ⟨rfl, hb⟩
        have hB := hW.trans (hb.mono hW.size)
        exact ⟨rfl, hB, hSS7 _ hB⟩
      obtain ⟨p0, p1, p2, p3, p4, p5, p6, p7, p8, p9, p10, p11⟩ := hSS7 w7 (Below.refl _ _)
      have HP7 := Lib.hid hP7
      have HB7 := Lib.hid hb7
      have HAM7 := Lib.hid hAm7
      have HSS7 := Lib.hid hSS7
      clear hP7 hb7 hAm7 hSS7 hb77 q0 q1 q2 q3 q4 q5 q6 q7 q8 q9 q10 hq1 hq17
      go_wp2_with fail
      go_region_held3 (fun w' => w'.cell? ⟨w1.heap.size, 0, none⟩ = some (.int .i64 x0) ∧ w'.cell? ⟨w1.heap.size, 1, none⟩ = some (.int .i64 x1) ∧ w'.cell? ⟨w1.heap.size, 2, none⟩ = some (.int .i64 x2) ∧ w'.cell? ⟨w1.heap.size, 3, none⟩ = some (.int .i64 x3) ∧ w'.cell? ⟨w1.heap.size, 4, none⟩ = some (.int .i64 x4) ∧ w'.cell? ⟨w1.heap.size, 5, none⟩ = some (.int .i64 y0) ∧ w'.cell? ⟨w1.heap.size, 6, none⟩ = some (.int .i64 y1) ∧ w'.cell? ⟨w1.heap.size, 7, none⟩ = some (.int .i64 y2) ∧ w'.cell? ⟨w1.heap.size, 8, none⟩ = some (.int .i64 y3) ∧ w'.cell? ⟨w1.heap.size, 9, none⟩ = some (.int .i64 y4) ∧ w'.cell? ⟨w1.heap.size, 10, none⟩ = some (.int .i64 t) ∧ w'.cell? ⟨w.heap.size, 1, none⟩ = some (.int .i64 b)) (go_keep)
        (first
          | (go_at_call 131; (with_reducible refine (HP7.out _ ?_).mono ?_); (repeat (first | assumption | (with_reducible exact Below.refl _ _) | (with_reducible refine Below.drew ?_) | (with_reducible refine below_drewNs ?_))); rintro e w8 ⟨rfl, hb8, z0, z1, z2, z3, z4, z5, z6, z7, z8, z9, z10, z11⟩))
      go_wp2_with fail
      have hAm8 := HAM7.out.keep hb8
      have hb68 : Below wc.heap.size wc w8 := (HB6.out.trans (HB7.out.mono HB6.out.size)).trans (hb8.mono (by have := HB6.out.size; have := HB7.out.size; omega))
      have hv68 := v3_below HV6.out hb68
      have hv78 := v3_below HV7.out hb68
      have hw8 : Below w1.heap.size w1 w8 := HW1.out.trans (hb68.mono HW1.out.size)
      have hA28 := HA2.out.keep hw8
      have hB8 : Below w.heap.size w w8 := HB1.out.trans (hw8.mono HB1.out.size)
      obtain ⟨o, ho⟩ : ∃ o, o = E + b * (y0 - x0) := ⟨_, rfl⟩
      have hlo := lo_nums (o := o) HR.out HT.out hj HI.out HX.out HE.out hp (by rw [ho]; rfl)
      rw [← ho]
      have HAM8 := Lib.hid hAm8
      have HV68 := Lib.hid hv68
      have HV78 := Lib.hid hv78
      have HA28 := Lib.hid hA28
      have HB8 := Lib.hid hB8
      have HLO := Lib.hid hlo
      have hz8 : w.heap.size + 1 < w8.heap.size := hA28.lt
      have hz8' : w1.heap.size < w8.heap.size := hAm8.lt
      clear hAm8 hb68 hv68 hv78 hw8 hA28 hB8 hlo ho p0 p1 p2 p3 p4 p5 p6 p7 p8 p9 p10 p11 z0 z1 z2 z3 z4 z5 z6 z7 z8 z9 z10 z11 hb8 c3 c4 hp HP7 HSS7
      go_loopw [42] (fun i wr => ∃ k : Nat, k ≤ 3 ∧ i = .int .i64 (k : Int) ∧ At wr w8.heap.size 47 (bc (bF x0 x1 x2 x3 y0 y1 y2 y3 t o) (bG x0 x1 x2 x3 y0 y1 y2 y3 t o) k) ∧ Below w8.heap.size w8 wr) (fun i _ => 3 - (intOf i).toNat)
      case atStart => exact ⟨0, by omega, rfl, at_new rfl, below_new (Below.refl _ _) (Nat.le_refl _)⟩
      case round =>
        obtain ⟨k, hk, rfl, hAr, hwr⟩ := hrel
        have HAR := Lib.hid hAr
        have HWR := Lib.hid hwr
        have hzr : w8.heap.size < wr.heap.size := hAr.lt
        by_cases hlt : k < 3
        · have hAm := HAM8.out.keep hwr
          have e6 := v3_nth (v3_below HV68.out hwr) hlt
          have e7 := v3_nth (v3_below HV78.out hwr) hlt
          have hnum := (HLO.out.1 k hlt)
          obtain ⟨a, ha⟩ : ∃ a, a = nth x1 x2 x3 k := ⟨_, rfl⟩
          obtain ⟨a', ha'⟩ : ∃ a, a = nth y1 y2 y3 k := ⟨_, rfl⟩
          rw [← ha] at e6 hnum
          rw [← ha'] at e7 hnum
          obtain ⟨n1, n2, n3, n4, n5, n6, n7⟩ := hnum
          have hFk : Hid (bF x0 x1 x2 x3 y0 y1 y2 y3 t o k = (a * (y0 - x0) + (a' - a) * (t - x0) - o) / (y0 - x0) ∧ bG x0 x1 x2 x3 y0 y1 y2 y3 t o k = -(-(a * (y0 - x0) + (a' - a) * (t - x0) + o) / (y0 - x0))) := by
            unfold bF bG; rw [← ha, ← ha']; exact ⟨rfl, rfl⟩
          have q0 := hAm.cell 0
          have q1 := hAm.cell 1
          have q2 := hAm.cell 2
          have q3 := hAm.cell 3
          have q4 := hAm.cell 4
          have q5 := hAm.cell 5
          have q6 := hAm.cell 6
          have q7 := hAm.cell 7
          have q8 := hAm.cell 8
          have q9 := hAm.cell 9
          have q10 := hAm.cell 10
          simp at q0 q1 q2 q3 q4 q5 q6 q7 q8 q9 q10
          have u0 : (0 : Int) ≤ (k : Int) := by omega
          have u1 : (k : Int) < 3 := by omega
          have HAM9 := Lib.hid hAm
          clear hAr hwr hAm ha ha'
          have hSS9 : ∀ w', Below wr.heap.size wr w' → w'.cell? ⟨w1.heap.size, 0, none⟩ = some (.int .i64 x0) ∧ w'.cell? ⟨w1.heap.size, 1, none⟩ = some (.int .i64 x1) ∧ w'.cell? ⟨w1.heap.size, 2, none⟩ = some (.int .i64 x2) ∧ w'.cell? ⟨w1.heap.size, 3, none⟩ = some (.int .i64 x3) ∧ w'.cell? ⟨w1.heap.size, 4, none⟩ = some (.int .i64 x4) ∧ w'.cell? ⟨w1.heap.size, 5, none⟩ = some (.int .i64 y0) ∧ w'.cell? ⟨w1.heap.size, 6, none⟩ = some (.int .i64 y1) ∧ w'.cell? ⟨w1.heap.size, 7, none⟩ = some (.int .i64 y2) ∧ w'.cell? ⟨w1.heap.size, 8, none⟩ = some (.int .i64 y3) ∧ w'.cell? ⟨w1.heap.size, 9, none⟩ = some (.int .i64 y4) ∧ w'.cell? ⟨w1.heap.size, 10, none⟩ = some (.int .i64 t) ∧ w'.cell? ⟨g6, k, none⟩ = some (.int .i64 a) ∧ w'.cell? ⟨g7, k, none⟩ = some (.int .i64 a') := fun w' hW => by
            have q := HAM9.out.keep hW
            exact ⟨q.cell 0, q.cell 1, q.cell 2, q.cell 3, q.cell 4, q.cell 5, q.cell 6, q.cell 7, q.cell 8, q.cell 9, q.cell 10, (hW.cell (p := ⟨g6, k, none⟩) (lt_cell e6)).trans e6, (hW.cell (p := ⟨g7, k, none⟩) (lt_cell e7)).trans e7⟩
          have hP9 : ∀ W : World, Below wr.heap.size wr W → Calls Try.prog 130 #[.agg #[.int .i64 x0, .int .i64 x1, .int .i64 x2, .int .i64 x3, .int .i64 x4, .int .i64 y0, .int .i64 y1, .int .i64 y2, .int .i64 y3, .int .i64 y4, .int .i64 t], .int .i64 a, .int .i64 a'] W fun e w' => e = .returned (.int .i64 (a * (y0 - x0) + (a' - a) * (t - x0))) ∧ Below wr.heap.size wr w' ∧ w'.cell? ⟨w1.heap.size, 0, none⟩ = some (.int .i64 x0) ∧ w'.cell? ⟨w1.heap.size, 1, none⟩ = some (.int .i64 x1) ∧ w'.cell? ⟨w1.heap.size, 2, none⟩ = some (.int .i64 x2) ∧ w'.cell? ⟨w1.heap.size, 3, none⟩ = some (.int .i64 x3) ∧ w'.cell? ⟨w1.heap.size, 4, none⟩ = some (.int .i64 x4) ∧ w'.cell? ⟨w1.heap.size, 5, none⟩ = some (.int .i64 y0) ∧ w'.cell? ⟨w1.heap.size, 6, none⟩ = some (.int .i64 y1) ∧ w'.cell? ⟨w1.heap.size, 7, none⟩ = some (.int .i64 y2) ∧ w'.cell? ⟨w1.heap.size, 8, none⟩ = some (.int .i64 y3) ∧ w'.cell? ⟨w1.heap.size, 9, none⟩ = some (.int .i64 y4) ∧ w'.cell? ⟨w1.heap.size, 10, none⟩ = some (.int .i64 t) ∧ w'.cell? ⟨g6, k, none⟩ = some (.int .i64 a) ∧ w'.cell? ⟨g7, k, none⟩ = some (.int .i64 a') := by
            intro W hW
            refine (between_any x0 x1 x2 x3 x4 y0 y1 y2 y3 y4 t a a' W d1 d2 n1 n2).mono ?_
            rintro e w' ⟨rfl, hb⟩
            have hB := hW.trans (hb.mono hW.size)
            exact ⟨rfl, hB, hSS9 _ hB⟩
          have HP9 := Lib.hid hP9
          clear hP9 hSS9
          go_wp2_with fail
          go_region_held3 (fun w' => w'.cell? ⟨w1.heap.size, 0, none⟩ = some (.int .i64 x0) ∧ w'.cell? ⟨w1.heap.size, 1, none⟩ = some (.int .i64 x1) ∧ w'.cell? ⟨w1.heap.size, 2, none⟩ = some (.int .i64 x2) ∧ w'.cell? ⟨w1.heap.size, 3, none⟩ = some (.int .i64 x3) ∧ w'.cell? ⟨w1.heap.size, 4, none⟩ = some (.int .i64 x4) ∧ w'.cell? ⟨w1.heap.size, 5, none⟩ = some (.int .i64 y0) ∧ w'.cell? ⟨w1.heap.size, 6, none⟩ = some (.int .i64 y1) ∧ w'.cell? ⟨w1.heap.size, 7, none⟩ = some (.int .i64 y2) ∧ w'.cell? ⟨w1.heap.size, 8, none⟩ = some (.int .i64 y3) ∧ w'.cell? ⟨w1.heap.size, 9, none⟩ = some (.int .i64 y4) ∧ w'.cell? ⟨w1.heap.size, 10, none⟩ = some (.int .i64 t) ∧ w'.cell? ⟨g6, k, none⟩ = some (.int .i64 a) ∧ w'.cell? ⟨g7, k, none⟩ = some (.int .i64 a')) (go_keep)
            (first
              | (go_at_call 130; (with_reducible refine (HP9.out _ ?_).mono ?_); (repeat (first | assumption | (with_reducible exact Below.refl _ _) | (with_reducible refine Below.drew ?_) | (with_reducible refine below_drewNs ?_))); rintro e w9 ⟨rfl, hb9, z0, z1, z2, z3, z4, z5, z6, z7, z8, z9, z10, z11, z12⟩))
          obtain ⟨m, hm⟩ : ∃ m, m = a * (y0 - x0) + (a' - a) * (t - x0) := ⟨_, rfl⟩
          rw [← hm] at n3 n4 n5 n6 hFk ⊢
          clear hm z0 z1 z2 z3 z4 z5 z6 z7 z8 z9 z10 z11 z12 q0 q1 q2 q3 q4 q5 q6 q7 q8 q9 q10 e6 e7
          have hAm9 := HAM9.out.keep hb9
          have hAr9 := HAR.out.keep hb9
          obtain ⟨b1, b2⟩ := bc_get (bF x0 x1 x2 x3 y0 y1 y2 y3 t o) (bG x0 x1 x2 x3 y0 y1 y2 y3 t o) hlt
          have hSS10 : ∀ w', Below w9.heap.size w9 w' → w'.cell? ⟨w1.heap.size, 0, none⟩ = some (.int .i64 x0) ∧ w'.cell? ⟨w1.heap.size, 1, none⟩ = some (.int .i64 x1) ∧ w'.cell? ⟨w1.heap.size, 2, none⟩ = some (.int .i64 x2) ∧ w'.cell? ⟨w1.heap.size, 3, none⟩ = some (.int .i64 x3) ∧ w'.cell? ⟨w1.heap.size, 4, none⟩ = some (.int .i64 x4) ∧ w'.cell? ⟨w1.heap.size, 5, none⟩ = some (.int .i64 y0) ∧ w'.cell? ⟨w1.heap.size, 6, none⟩ = some (.int .i64 y1) ∧ w'.cell? ⟨w1.heap.size, 7, none⟩ = some (.int .i64 y2) ∧ w'.cell? ⟨w1.heap.size, 8, none⟩ = some (.int .i64 y3) ∧ w'.cell? ⟨w1.heap.size, 9, none⟩ = some (.int .i64 y4) ∧ w'.cell? ⟨w1.heap.size, 10, none⟩ = some (.int .i64 t) ∧ w'.cell? ⟨w8.heap.size, k * 2, none⟩ = some (.int .i64 0) ∧ w'.cell? ⟨w8.heap.size, k * 2 + 1, none⟩ = some (.int .i64 0) ∧ w'.frozen? ⟨w8.heap.size, k * 2, none⟩ = false ∧ w'.frozen? ⟨w8.heap.size, k * 2 + 1, none⟩ = false := fun w' hW => by
            have q := hAm9.keep hW
            have r := hAr9.keep hW
            exact ⟨q.cell 0, q.cell 1, q.cell 2, q.cell 3, q.cell 4, q.cell 5, q.cell 6, q.cell 7, q.cell 8, q.cell 9, q.cell 10, (r.cell _).trans b1, (r.cell _).trans b2, r.free _, r.free _⟩
          have hP10 : ∀ W : World, Below w9.heap.size w9 W → Calls Try.prog 131 #[.agg #[.int .i64 x0, .int .i64 x1, .int .i64 x2, .int .i64 x3, .int .i64 x4, .int .i64 y0, .int .i64 y1, .int .i64 y2, .int .i64 y3, .int .i64 y4, .int .i64 t]] W fun e w' => e = .returned (.int .i64 (y0 - x0)) ∧ Below w9.heap.size w9 w' ∧ w'.cell? ⟨w1.heap.size, 0, none⟩ = some (.int .i64 x0) ∧ w'.cell? ⟨w1.heap.size, 1, none⟩ = some (.int .i64 x1) ∧ w'.cell? ⟨w1.heap.size, 2, none⟩ = some (.int .i64 x2) ∧ w'.cell? ⟨w1.heap.size, 3, none⟩ = some (.int .i64 x3) ∧ w'.cell? ⟨w1.heap.size, 4, none⟩ = some (.int .i64 x4) ∧ w'.cell? ⟨w1.heap.size, 5, none⟩ = some (.int .i64 y0) ∧ w'.cell? ⟨w1.heap.size, 6, none⟩ = some (.int .i64 y1) ∧ w'.cell? ⟨w1.heap.size, 7, none⟩ = some (.int .i64 y2) ∧ w'.cell? ⟨w1.heap.size, 8, none⟩ = some (.int .i64 y3) ∧ w'.cell? ⟨w1.heap.size, 9, none⟩ = some (.int .i64 y4) ∧ w'.cell? ⟨w1.heap.size, 10, none⟩ = some (.int .i64 t) ∧ w'.cell? ⟨w8.heap.size, k * 2, none⟩ = some (.int .i64 0) ∧ w'.cell? ⟨w8.heap.size, k * 2 + 1, none⟩ = some (.int .i64 0) ∧ w'.frozen? ⟨w8.heap.size, k * 2, none⟩ = false ∧ w'.frozen? ⟨w8.heap.size, k * 2 + 1, none⟩ = false := by
            intro W hW
            refine (span_any x0 x1 x2 x3 x4 y0 y1 y2 y3 y4 t W ⟨d1.1, by omega⟩).mono ?_
            rintro e w' ⟨rfl, hb⟩
            have hB := hW.trans (hb.mono hW.size)
            exact ⟨rfl, hB, hSS10 _ hB⟩
          obtain ⟨q0, q1, q2, q3, q4, q5, q6, q7, q8, q9, q10, _, _, _, _⟩ := hSS10 w9 (Below.refl _ _)
          have HP10 := Lib.hid hP10
          have HB9 := Lib.hid hb9
          clear hP10 hSS10 hAm9 hAr9 b1 b2 hb9
          have hD2 : y0 - x0 ≤ 4611686018427387904 := by omega
          have v5 : IntKind.i64.wrap (m - o) = m - o := n5
          have v6 : IntKind.i64.wrap (m + o) = m + o := n6
          have HFAR : Hid (∀ (W : World) (i i' j : Nat) (u u' : Value), ((W.setCell ⟨w8.heap.size, i, none⟩ u).setCell ⟨w8.heap.size, i', none⟩ u').cell? ⟨w1.heap.size, j, none⟩ = W.cell? ⟨w1.heap.size, j, none⟩) := fun W i i' j u u' =>
            (World.cell?_setCell_other _ _ _ _ (by intro e; injection e with e1; omega)).trans (World.cell?_setCell_other _ _ _ _ (by intro e; injection e with e1; omega))
          go_wp2_with fail
          go_region_held3 (fun w' => w'.cell? ⟨w1.heap.size, 0, none⟩ = some (.int .i64 x0) ∧ w'.cell? ⟨w1.heap.size, 1, none⟩ = some (.int .i64 x1) ∧ w'.cell? ⟨w1.heap.size, 2, none⟩ = some (.int .i64 x2) ∧ w'.cell? ⟨w1.heap.size, 3, none⟩ = some (.int .i64 x3) ∧ w'.cell? ⟨w1.heap.size, 4, none⟩ = some (.int .i64 x4) ∧ w'.cell? ⟨w1.heap.size, 5, none⟩ = some (.int .i64 y0) ∧ w'.cell? ⟨w1.heap.size, 6, none⟩ = some (.int .i64 y1) ∧ w'.cell? ⟨w1.heap.size, 7, none⟩ = some (.int .i64 y2) ∧ w'.cell? ⟨w1.heap.size, 8, none⟩ = some (.int .i64 y3) ∧ w'.cell? ⟨w1.heap.size, 9, none⟩ = some (.int .i64 y4) ∧ w'.cell? ⟨w1.heap.size, 10, none⟩ = some (.int .i64 t)) (first | go_keep | (refine ⟨?_, ?_, ?_, ?_, ?_, ?_, ?_, ?_, ?_, ?_, ?_⟩ <;> (refine (HFAR.out _ _ _ _ _ _).trans ?_; assumption)))
            (first
              | (go_at_call 131; (with_reducible refine (HP10.out _ ?_).mono ?_); (repeat (first | assumption | (with_reducible exact Below.refl _ _) | (with_reducible refine Below.drew ?_) | (with_reducible refine below_drewNs ?_))); rintro e w10 ⟨rfl, hb10, z0, z1, z2, z3, z4, z5, z6, z7, z8, z9, z10, z11, z12, z13, z14⟩)
              | (go_at_call 129; (with_reducible refine (divideDown_any _ _ _ n7 hD2 n3).mono ?_); rintro e w' ⟨rfl, rfl⟩)
              | (go_at_call 133; (with_reducible refine (divideUp_any _ _ _ n7 hD2 n4).mono ?_); rintro e w' ⟨rfl, rfl⟩))
          rw [← hFk.out.1, ← hFk.out.2]
          have hE1 := HAR.out.keep (HB9.out.trans (hb10.mono HB9.out.size))
          have hE2 := (hE1.put (k * 2) (.int .i64 (bF x0 x1 x2 x3 y0 y1 y2 y3 t o k))).put (k * 2 + 1) (.int .i64 (bG x0 x1 x2 x3 y0 y1 y2 y3 t o k))
          rw [bc_put _ _ hlt] at hE2
          have hE3 := below_set (g := w8.heap.size) (i := k * 2 + 1) (u := .int .i64 (bG x0 x1 x2 x3 y0 y1 y2 y3 t o k)) (below_set (g := w8.heap.size) (i := k * 2) (u := .int .i64 (bF x0 x1 x2 x3 y0 y1 y2 y3 t o k)) (HWR.out.trans ((HB9.out.trans (hb10.mono HB9.out.size)).mono HWR.out.size)) (Nat.le_refl _)) (Nat.le_refl _)
          have HE2 := Lib.hid hE2
          have HE3 := Lib.hid hE3
          clear hE1 hE2 hE3 hb10 z0 z1 z2 z3 z4 z5 z6 z7 z8 z9 z10 z11 z12 z13 z14 q0 q1 q2 q3 q4 q5 q6 q7 q8 q9 q10
          go_wp2
          go_roundw
          case rel => exact ⟨k + 1, by omega, by go_num, by first | exact HE2.out | exact HE2.out, by first | exact HE3.out | exact HE3.out.drew⟩
          case measure => simp [intOf]; omega
        · obtain rfl : k = 3 := by omega
          have hfin := HLO.out.2
          obtain ⟨v1, v1'⟩ := hfin 0 (by omega)
          obtain ⟨v2, v2'⟩ := hfin 1 (by omega)
          obtain ⟨v3, v3'⟩ := hfin 2 (by omega)
          have hbc : bc (bF x0 x1 x2 x3 y0 y1 y2 y3 t o) (bG x0 x1 x2 x3 y0 y1 y2 y3 t o) 3 = #[.int .i64 (lo S n b t 1), .int .i64 (hi S n b t 1), .int .i64 (lo S n b t 2), .int .i64 (hi S n b t 2), .int .i64 (lo S n b t 3), .int .i64 (hi S n b t 3)] := by
            rw [← v1, ← v1', ← v2, ← v2', ← v3, ← v3']; rfl
          have hA := HAR.out
          rw [hbc] at hA
          have q0 := hA.cell 0
          have q1 := hA.cell 1
          have q2 := hA.cell 2
          have q3 := hA.cell 3
          have q4 := hA.cell 4
          have q5 := hA.cell 5
          simp at q0 q1 q2 q3 q4 q5
          have hR2 := HA28.out.keep HWR.out
          have t0 := hR2.cell 0
          have t1 := hR2.cell 1
          have t2 := hR2.cell 2
          have t3 := hR2.cell 3
          have t4 := hR2.cell 4
          have t5 := hR2.cell 5
          simp at t0 t1 t2 t3 t4 t5
          have f0 := hR2.free 0
          have f1 := hR2.free 1
          have f2 := hR2.free 2
          have f3 := hR2.free 3
          have f4 := hR2.free 4
          have f5 := hR2.free 5
          have HBf := Lib.hid (HB8.out.trans (HWR.out.mono HB8.out.size))
          clear hA hR2 hbc hfin v1 v1' v2 v2' v3 v3' hAr hwr
          go_wp2
          refine bodyPost_ret (v := boxV S n b t) ?h1 rfl ⟨rfl, ?_⟩
          case h1 => simp [results, Try.results88, go_sem, boxV, *]
          have HBB := HBf.out
          repeat (first | (with_reducible exact HBB) | (with_reducible refine below_set ?_ (by omega)))
end Go.Proofs.Ytnaanninmkplfaa
