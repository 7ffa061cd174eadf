/- Contracts: a field is made; a product for the compressed field; the compressed field of an image and a code that have their form. -/
import Derived.Test.YtdpoemhpmdahjaaDoorChk
import Derived.Deep.OwnRows
import Derived.Deep.RegionHeld3
import Derived.BigRegion
import Derived.Deep.DeepCutAuto
namespace Go.Proofs.YtdpoemhpmdahjaaDoor
open Go.RowKit
set_option maxHeartbeats 400000
set_option maxRecDepth 100000

theorem quiet_left {P : Program} {f : FuncId} {args : Array Value} {w : World} {n : Nat} {v : Value}
    (h : Calls P f args (w.drewN n) fun e w' => e = .returned v ∧ w.drewN n = w') : Calls P f args (w.drewN n) fun e w'' => e = .returned v ∧ ∃ m, w'' = w.drewN m :=
  h.mono fun _ _ ⟨he, hm⟩ => ⟨he, n, hm.symm⟩

theorem conj_run (a b c d re im : Nat) (h : cMulBits a b c (Op.negFloat .f64 d) = some (re, im)) (w : World) :
    Calls Tryd.prog 91 #[.complex .f64 a b, .complex .f64 c d] w fun e w' => e = .returned (.complex .f64 re im) ∧ w = w' := by
  have hop := fun t w => run_complex_mul (P := Tryd.prog) w t a b c (Op.negFloat .f64 d) re im h
  have hneg : ∀ w, (Op.unary .neg (.float .f64 d)).run Tryd.prog w = .ok (.float .f64 (Op.negFloat .f64 d)) w := fun _ => rfl
  clear h
  go_enter Tryd.func91, Tryd.ntmps91
  go_wp2
  go_ret
  exact ⟨rfl, rfl⟩

theorem conj_bits {a b c d : Nat} {x y u v : Int} (ha : Is .f64 a x) (hb : Is .f64 b y) (hc : Is .f64 c u) (hd : Is .f64 d v) (hx : x.natAbs ≤ 1000000000) (hy : y.natAbs ≤ 1000000000) (hu : u.natAbs ≤ 2047) (hv : v.natAbs ≤ 2047) :
    ∃ re im, cMulBits a b c (Op.negFloat .f64 d) = some (re, im) ∧ Is .f64 re (x * u + y * v) ∧ Is .f64 im (y * u - x * v) := by
  have b1 : (x * u).natAbs ≤ 1000000000 * 2047 := by rw [Int.natAbs_mul]; exact Nat.mul_le_mul hx hu
  have b2 : (y * v).natAbs ≤ 1000000000 * 2047 := by rw [Int.natAbs_mul]; exact Nat.mul_le_mul hy hv
  have b3 : (x * v).natAbs ≤ 1000000000 * 2047 := by rw [Int.natAbs_mul]; exact Nat.mul_le_mul hx hv
  have b4 : (y * u).natAbs ≤ 1000000000 * 2047 := by rw [Int.natAbs_mul]; exact Nat.mul_le_mul hy hu
  obtain ⟨re, im, he, hre, him⟩ := product_bits ha hb hc (neg_is hd) (by rw [two53]; omega) (by rw [two53, Int.mul_neg]; omega) (by rw [two53, Int.mul_neg]; omega) (by rw [two53, Int.mul_neg]; omega) (by rw [two53]; omega) (by rw [two53, Int.mul_neg]; omega)
  have e1 : x * u - y * -v = x * u + y * v := by rw [Int.mul_neg]; omega
  have e2 : x * -v + y * u = y * u - x * v := by rw [Int.mul_neg]; omega
  rw [e1] at hre
  rw [e2] at him
  exact ⟨re, im, he, hre, him⟩

theorem closC_ok (g1 g2 g3 : Nat) (L S n c n' c' first k : Nat) (A A' : Option Addr) (re im re' im' : Nat → Nat) (X Y U V : Nat → Int) (w : World)
    (h1 : At w g1 32 #[.int .i64 (L : Int), .int .i64 (S : Int), .slice A n c]) (h2 : At w g2 3 #[.int .i64 (first : Int)]) (h3 : At w g3 30 #[.slice A' n' c'])
    (hs : Sl w A n (cx .f32 re im)) (hs' : Sl w A' n' (cx .f32 re' im')) (hw : Wh .f32 re im X Y n 2047) (hw' : Wh .f32 re' im' U V n' 2047) (hk : k < n') (hf : first + k < n) (hn : n ≤ 4096) :
    Calls Tryd.prog 90 #[.int .i64 (k : Int), .pointer (some ⟨g1, 0, none⟩), .pointer (some ⟨g2, 0, none⟩), .pointer (some ⟨g3, 0, none⟩)] w fun e w' =>
      (∃ a b, e = .returned (.complex .f64 a b) ∧ Is .f64 a (X (first + k) * U k + Y (first + k) * V k) ∧ Is .f64 b (Y (first + k) * U k - X (first + k) * V k)) ∧ Below w.heap.size w w' := by
  obtain ⟨b, off, rfl, _, hc⟩ := hs (by omega)
  obtain ⟨b', off', rfl, _, hc'⟩ := hs' (by omega)
  have k1 := h1.cell 2
  have k2 := h2.cell 0
  have k3 := h3.cell 0
  simp at k1 k2 k3
  have k4 := hc (first + k) hf
  have k5 := hc' k hk
  unfold cx at k4 k5
  obtain ⟨a1, a2, a3, a4⟩ := hw (first + k) hf
  obtain ⟨a5, a6, a7, a8⟩ := hw' k hk
  obtain ⟨r1, s1, q1, i1, i2⟩ := widen_run _ _ _ _ a1 a2 (by omega) (by omega)
  obtain ⟨r2, s2, q2, i3, i4⟩ := widen_run _ _ _ _ a5 a6 (by omega) (by omega)
  obtain ⟨p, q, hm, j1, j2⟩ := conj_bits i1 i2 i3 i4 (by omega) (by omega) a7 a8
  have HM := Lib.hid hm
  have J1 := Lib.hid j1
  have J2 := Lib.hid j2
  have u1 : 0 ≤ (first : Int) + (k : Int) := by omega
  have u2 : (first : Int) + (k : Int) < (n : Int) := by omega
  have u3 : (k : Int) < (n' : Int) := by omega
  have u4 : (first : Int) + (k : Int) ≤ 4096 := by omega
  have u5 : IntKind.i64.wrap ((first : Int) + (k : Int)) = (first : Int) + (k : Int) := IntWalk.i64_in _ (by omega)
  have u6 : ((first : Int) + (k : Int)).toNat = first + k := by omega
  clear h1 h2 h3 hs hs' hw hw' hc hc' a1 a2 a3 a4 a5 a6 a7 a8 i1 i2 i3 i4 hm j1 j2
  go_enter Tryd.func90, Tryd.ntmps90
  go_wp2
  go_quiet ((go_at_call 91; exact quiet_left (conj_run r1 s1 r2 s2 p q HM.out _)))
  clear u5 u6
  go_wp2
  go_ret
  exact ⟨⟨p, q, rfl, J1.out, J2.out⟩, below_drewNs (Below.refl _ _)⟩

theorem infoC : (Tryd.prog.info? 88).map (fun i => (i.zero, i.size, i.bytes)) = some (some (.complex .f64 0 0), 1, 16) := by kernel_rfl

theorem row_made {w : World} {g n : Nat} {z : Value} {t : TypeId} (hg : g = w.heap.size) : (w.alloc (.cells (madeCells #[z] n) t)).rowIs g t n (fun _ => z) := by
  subst hg; exact World.rowIs_made _ _ _ _
theorem row_below {w w' : World} {b B n : Nat} {t : TypeId} {f : Nat → Value} (h : w.rowIs b t n f) (hb : Below B w w') (hlt : b < B) : w'.rowIs b t n f := h.of_block (hb.block b hlt)

theorem newField_ok (L F : Nat) (b : Int) (hb : b = (F : Int)) (hL : 1 ≤ L ∧ L ≤ 64) (hF : 1 ≤ F ∧ F ≤ 64) (w : World) :
    Calls Tryd.prog 88 #[.int .i64 (L : Int), .int .i64 b] w fun e w' => e = .returned (.agg #[.int .i64 (L : Int), .int .i64 (F : Int), .slice (some ⟨w.heap.size + 1, 0, none⟩) (L * F) (L * F)]) ∧
      w'.rowIs (w.heap.size + 1) 88 (L * F) (fun _ => .complex .f64 0 0) ∧ Below w.heap.size w w' := by
  subst hb
  have hp : L * F ≤ 64 * 64 := Nat.mul_le_mul hL.2 hF.2
  have hp2 : (L : Int) * (F : Int) ≤ 4096 := by
    have : ((L * F : Nat) : Int) = (L : Int) * (F : Int) := Int.natCast_mul L F
    omega
  have hp3 : 0 ≤ (L : Int) * (F : Int) := Int.mul_nonneg (by omega) (by omega)
  have hmk : ∀ w, (Instr.makeSlice 47 (.int .i64 ((L : Int) * (F : Int))) (.int .i64 ((L : Int) * (F : Int)))).run Tryd.prog w = .ok (.slice (some ⟨w.heap.size, 0, none⟩) (L * F) (L * F)) (w.alloc (.cells (madeCells #[.complex .f64 0 0] (L * F)) 88)) := by
    intro w
    have h := run_make_row' (P := Tryd.prog) 47 88 (.complex .f64 0 0) 16 Tryd.underlying47 infoC rfl .i64 .i64 (L * F) (by omega) (by omega) w
    rw [Int.natCast_mul] at h
    exact h
  clear hp
  go_enter Tryd.func88, Tryd.ntmps88
  go_wp2
  refine bodyPost_ret (v := .agg #[.int .i64 (L : Int), .int .i64 (F : Int), .slice (some ⟨w.heap.size + 1, 0, none⟩) (L * F) (L * F)]) (by simp [results, Tryd.results88, go_sem]) rfl ⟨rfl, ?_, ?_⟩
  · exact row_made (by simp)
  · exact ((Below.refl _ _).alloc (Nat.le_refl _) _).alloc (by simp) _

theorem sumI_bound {f : Nat → Int} {M : Nat} {n : Nat} (h : ∀ i, i < n → (f i).natAbs ≤ M) : ∀ k, k ≤ n → (sumI f k).natAbs ≤ k * M := by
  intro k
  induction k with
  | zero => intro _; simp [sumI]
  | succ k ih =>
    intro hk
    have a := ih (by omega)
    have b := h k (by omega)
    have c := Int.natAbs_add_le (sumI f k) (f k)
    rw [sumI, Nat.succ_mul]
    omega

def tRe (X Y U V : Nat → Int) (first k : Nat) : Int := X (first + k) * U k + Y (first + k) * V k
def tIm (X Y U V : Nat → Int) (first k : Nat) : Int := Y (first + k) * U k - X (first + k) * V k
def firstOf (S F j : Nat) : Nat := j / F * S + j % F
def cRe (X Y U V : Nat → Int) (S F m j : Nat) : Int := sumI (tRe X Y U V (firstOf S F j)) m
def cIm (X Y U V : Nat → Int) (S F m j : Nat) : Int := sumI (tIm X Y U V (firstOf S F j)) m

theorem t_bound {x y u v : Int} (hx : x.natAbs ≤ 2047) (hy : y.natAbs ≤ 2047) (hu : u.natAbs ≤ 2047) (hv : v.natAbs ≤ 2047) : (x * u + y * v).natAbs ≤ 8380418 ∧ (y * u - x * v).natAbs ≤ 8380418 := by
  have b1 : (x * u).natAbs ≤ 2047 * 2047 := by rw [Int.natAbs_mul]; exact Nat.mul_le_mul hx hu
  have b2 : (y * v).natAbs ≤ 2047 * 2047 := by rw [Int.natAbs_mul]; exact Nat.mul_le_mul hy hv
  have b3 : (x * v).natAbs ≤ 2047 * 2047 := by rw [Int.natAbs_mul]; exact Nat.mul_le_mul hx hv
  have b4 : (y * u).natAbs ≤ 2047 * 2047 := by rw [Int.natAbs_mul]; exact Nat.mul_le_mul hy hu
  omega

theorem first_lt {L S F m j k : Nat} (hS : S + 1 = F + m) (hF : 1 ≤ F) (hj : j < L * F) (hk : k < m) : firstOf S F j + k < L * S := by
  unfold firstOf
  have h1 : j / F < L := by
    rw [Nat.div_lt_iff_lt_mul (by omega)]; exact hj
  have h2 : j % F < F := Nat.mod_lt _ (by omega)
  have h3 : (j / F + 1) * S ≤ L * S := Nat.mul_le_mul_right _ h1
  rw [Nat.add_mul] at h3
  omega

def partC (X Y U V : Nat → Int) (S F m k j : Nat) : Value := if j < k then .complex .f64 (Go.Proofs.YtdpoemhpmdahjaaDoor.F .f64 (cRe X Y U V S F m j)) (Go.Proofs.YtdpoemhpmdahjaaDoor.F .f64 (cIm X Y U V S F m j)) else .complex .f64 0 0

theorem partC_step (X Y U V : Nat → Int) (S F m k j : Nat) : (if j = k then .complex .f64 (Go.Proofs.YtdpoemhpmdahjaaDoor.F .f64 (cRe X Y U V S F m k)) (Go.Proofs.YtdpoemhpmdahjaaDoor.F .f64 (cIm X Y U V S F m k)) else partC X Y U V S F m k j) = partC X Y U V S F m (k + 1) j := by
  unfold partC
  by_cases h : j = k
  · subst h
    rw [if_pos rfl, if_pos (by omega)]
  · rw [if_neg h]
    by_cases h2 : j < k
    · rw [if_pos h2, if_pos (by omega)]
    · rw [if_neg h2, if_neg (by omega)]

theorem enter_closC (args : Array Value) (w : World) : (callFunc 90 args).run Tryd.prog w = .ok (.enter 90 args) w := by
  go_simp

theorem first_int (S F k : Nat) : (k : Int) / (F : Int) * (S : Int) + (k : Int) % (F : Int) = ((firstOf S F k : Nat) : Int) := by
  unfold firstOf
  push_cast
  rfl

theorem div_facts {L S F k : Nat} (hF : 1 ≤ F) (hk : k < L * F) (hL : L ≤ 64) (hS : S ≤ 64) (hFS : F ≤ 64) : 0 ≤ (k : Int) / (F : Int) ∧ (k : Int) / (F : Int) ≤ 63 ∧ 0 ≤ (k : Int) % (F : Int) ∧ (k : Int) % (F : Int) ≤ 63 ∧ 0 ≤ (k : Int) / (F : Int) * (S : Int) ∧ (k : Int) / (F : Int) * (S : Int) ≤ 4032 := by
  have h1 : k / F < L := by
    rw [Nat.div_lt_iff_lt_mul (by omega)]; exact hk
  have h2 : k % F < F := Nat.mod_lt _ (by omega)
  have e1 : (k : Int) / (F : Int) = ((k / F : Nat) : Int) := rfl
  have e2 : (k : Int) % (F : Int) = ((k % F : Nat) : Int) := rfl
  have h3 : k / F * S ≤ 63 * 64 := Nat.mul_le_mul (by omega) hS
  rw [e1, e2, ← Int.natCast_mul]
  generalize k / F = q at *
  generalize k % F = r at *
  generalize q * S = t at *
  omega

theorem compress_ok (L S n c n' c' F : Nat) (A A' : Option Addr) (re im re' im' : Nat → Nat) (X Y U V : Nat → Int) (w : World)
    (hs : Sl w A n (cx .f32 re im)) (hs' : Sl w A' n' (cx .f32 re' im')) (hw : Wh .f32 re im X Y n 2047) (hw' : Wh .f32 re' im' U V n' 3)
    (hL : 1 ≤ L ∧ L ≤ 64) (hS : 1 ≤ S ∧ S ≤ 64) (hn : n = L * S) (hn' : 1 ≤ n' ∧ n' ≤ 32) (hz : zAll U V n' = false) (hF : S + 1 = F + n') (hF1 : 1 ≤ F) :
    Calls Tryd.prog 36 #[.agg #[.int .i64 (L : Int), .int .i64 (S : Int), .slice A n c], .slice A' n' c'] w fun e w' =>
      ∃ g : Nat, e = .returned (.tuple #[.agg #[.int .i64 (L : Int), .int .i64 (F : Int), .slice (some ⟨g, 0, none⟩) (L * F) (L * F)], .int .i64 0]) ∧ w.heap.size ≤ g ∧
        w'.rowIs g 88 (L * F) (fun j => .complex .f64 (Go.Proofs.YtdpoemhpmdahjaaDoor.F .f64 (cRe X Y U V S F n' j)) (Go.Proofs.YtdpoemhpmdahjaaDoor.F .f64 (cIm X Y U V S F n' j))) ∧ Below w.heap.size w w' := by
  have hn4 : n ≤ 4096 := by
    have : L * S ≤ 64 * 64 := Nat.mul_le_mul hL.2 hS.2
    omega
  have HS := Lib.hid hs
  have HS' := Lib.hid hs'
  have HW := Lib.hid hw
  have HW' := Lib.hid hw'
  have HN := Lib.hid hn
  have HZ := Lib.hid hz
  have HFF := Lib.hid hF
  clear hs hs' hw hw' hn hz hF
  go_enter Tryd.func36, Tryd.ntmps36
  go_wp2_with fail
  have b0 : Below w.heap.size w (((w.alloc (.cells #[.int .i64 (L : Int), .int .i64 (S : Int), .slice A n c] 32)).alloc (.cells #[.slice A' n' c'] 30)).alloc (.cells #[.int .i64 0, .int .i64 0, .slice none 0 0] 49)) :=
    (((Below.refl _ _).alloc (Nat.le_refl _) _).alloc (by simp) _).alloc (by simp; omega) _
  refine (checkImage_ok A L S n c re im X Y _ (HS.out.below b0) HW.out hL hS HN.out).mono ?_
  rintro e w1 ⟨rfl, hb1⟩
  have A1 := (((At.new w 32 #[.int .i64 (L : Int), .int .i64 (S : Int), .slice A n c]).alloc (.cells #[.slice A' n' c'] 30)).alloc (.cells #[.int .i64 0, .int .i64 0, .slice none 0 0] 49)).below hb1 (by simp; omega)
  have A2 := ((at_new (w := w.alloc (.cells #[.int .i64 (L : Int), .int .i64 (S : Int), .slice A n c] 32)) (g := w.heap.size + 1) (t := 30) (cs := #[.slice A' n' c']) (by simp)).alloc (.cells #[.int .i64 0, .int .i64 0, .slice none 0 0] 49)).below hb1 (by simp)
  have A3 := (at_new (w := (w.alloc (.cells #[.int .i64 (L : Int), .int .i64 (S : Int), .slice A n c] 32)).alloc (.cells #[.slice A' n' c'] 30)) (g := w.heap.size + 1 + 1) (t := 49) (cs := #[.int .i64 0, .int .i64 0, .slice none 0 0]) (by simp)).below hb1 (by simp)
  have hw1 : Below w.heap.size w w1 := b0.trans (hb1.mono (by simp; omega))
  have z1 := hb1.size
  simp at z1
  have c10 := A1.cell 0
  have c11 := A1.cell 1
  have c12 := A1.cell 2
  have c20 := A2.cell 0
  simp at c10 c11 c12 c20
  have HA1 := Lib.hid A1
  have HA2 := Lib.hid A2
  have HA3 := Lib.hid A3
  clear A1 A2 A3 hb1 b0
  go_wp2_with fail
  refine (checkCode_ok A' n' c' re' im' U V _ (HS'.out.below hw1) HW'.out hn'.1 hn'.2 HZ.out).mono ?_
  rintro e w' ⟨rfl, rfl⟩
  have hle : ¬ (S : Int) < (n' : Int) := by have := HFF.out; omega
  have hbs : (S : Int) - (n' : Int) + 1 ≤ 64 := by omega
  go_wp2_with fail
  refine (newField_ok L F _ (by have := HFF.out; omega) hL (by have := HFF.out; omega) _).mono ?_
  rintro e w2 ⟨rfl, hrow, hb2⟩
  have z2 := hb2.size
  have A1 := HA1.out.below hb2 HA1.out.lt
  have A2 := HA2.out.below hb2 HA2.out.lt
  have A3 := HA3.out.below hb2 HA3.out.lt
  have hw2 : Below w.heap.size w w2 := hw1.trans (hb2.mono hw1.size)
  have hrl := hrow.lt
  have HR := Lib.hid hrow
  have HG1 := Lib.hid A1
  have HG2 := Lib.hid A2
  have HG3 := Lib.hid A3
  clear c10 c11 c12 c20 hb2 hrow A1 A2 A3 HA1 HA2 HA3
  have hp : L * F ≤ 64 * 64 := Nat.mul_le_mul hL.2 (by have := HFF.out; omega)
  have R0 := (HR.out.congr (g := partC X Y U V S F n' 0) (fun i hi => by simp [partC])).alloc (.cells #[.int .i64 (L : Int), .int .i64 (F : Int), .slice (some ⟨w1.heap.size + 1, 0, none⟩) (L * F) (L * F)] 49)
  have HR0 := Lib.hid R0
  clear R0 HR
  go_wp2
  go_loopg [49] (L * F) (fun gk i wr => ∃ k : Nat, k ≤ L * F ∧ gk = L * F - k ∧ i = .int .i64 (k : Int) ∧ wr.rowIs (w1.heap.size + 1) 88 (L * F) (partC X Y U V S F n' k) ∧
    At wr w.heap.size 32 #[.int .i64 (L : Int), .int .i64 (S : Int), .slice A n c] ∧ At wr (w.heap.size + 1) 30 #[.slice A' n' c'] ∧ At wr (w.heap.size + 1 + 1) 49 #[.int .i64 0, .int .i64 0, .slice none 0 0] ∧
    At wr w2.heap.size 49 #[.int .i64 (L : Int), .int .i64 (F : Int), .slice (some ⟨w1.heap.size + 1, 0, none⟩) (L * F) (L * F)] ∧ Below w.heap.size w wr)
  case atStart => exact ⟨0, Nat.zero_le _, rfl, rfl, HR0.out, HG1.out.alloc _, HG2.out.alloc _, HG3.out.alloc _, At.new _ _ _, hw2.alloc hw2.size _⟩
  case round =>
    obtain ⟨k, hk, hg, rfl, hrow, hA1, hA2, hA3, hA4, hbel⟩ := hrel
    have HGK := Lib.hid hg
    have H1 := Lib.hid hA1
    have H2 := Lib.hid hA2
    have H3 := Lib.hid hA3
    have H4 := Lib.hid hA4
    have HRW := Lib.hid hrow
    have c11 := hA1.cell 1
    have c20 := hA2.cell 0
    have c41 := hA4.cell 1
    have c42 := hA4.cell 2
    simp at c11 c20 c41 c42
    have hwsz := hbel.size
    have hl4 := hA4.lt
    have hl1 := hA1.lt
    have hl2 := hA2.lt
    have hl3 := hA3.lt
    have hlr := hrow.lt
    clear hg hA1 hA2 hA3 hA4 hrow HR0 HG1 HG2 HG3
    by_cases hlt : k < L * F
    · obtain ⟨d0, d1, m0, m1, p0, p1⟩ := div_facts hF1 hlt hL.2 hS.2 (by have := HFF.out; omega)
      go_wp2
      go_region
      simp only [first_int]
      obtain ⟨W1, hW1⟩ : ∃ W1, W1 = wr.alloc (.cells #[.int .i64 ((firstOf S F k : Nat) : Int)] 3) := ⟨_, rfl⟩
      have hsum : ∀ W, Below W1.heap.size W1 W → Calls Tryd.prog 89 #[.int .i64 (n' : Int), .func (.func 90) #[] #[.pointer (some ⟨w.heap.size, 0, none⟩), .pointer (some ⟨wr.heap.size, 0, none⟩), .pointer (some ⟨w.heap.size + 1, 0, none⟩)]] W fun e w' =>
          e = .returned (.complex .f64 (Go.Proofs.YtdpoemhpmdahjaaDoor.F .f64 (cRe X Y U V S F n' k)) (Go.Proofs.YtdpoemhpmdahjaaDoor.F .f64 (cIm X Y U V S F n' k))) ∧ Below W.heap.size W w' ∧
          w'.cell? ⟨w2.heap.size, 2, none⟩ = some (.slice (some ⟨w1.heap.size + 1, 0, none⟩) (L * F) (L * F)) ∧ w'.cell? ⟨w.heap.size + 1, 0, none⟩ = some (.slice A' n' c') ∧ w'.cell? ⟨w1.heap.size + 1, k, none⟩ = some (partC X Y U V S F n' k k) ∧ w'.frozen? ⟨w1.heap.size + 1, k, none⟩ = false ∧ Below wr.heap.size wr w' := by
        intro W hbW
        have hsz : W1.heap.size = wr.heap.size + 1 := by rw [hW1]; simp
        have hb1 : Below wr.heap.size wr W := ((Below.refl _ _).alloc (Nat.le_refl _) _).trans (by rw [← hW1]; exact hbW.mono (by omega))
        have hWsz := hbW.size
        have t1 := H1.out.below hb1 hl1
        have t2 := H2.out.below hb1 hl2
        have t4 := H4.out.below hb1 hl4
        have t3 : At W wr.heap.size 3 #[.int .i64 ((firstOf S F k : Nat) : Int)] := by
          have h := At.new wr 3 #[.int .i64 ((firstOf S F k : Nat) : Int)]
          rw [← hW1] at h
          exact h.below hbW (by omega)
        have sA : Sl W A n (cx .f32 re im) := HS.out.below (hbel.trans (hb1.mono hbel.size))
        have sA' : Sl W A' n' (cx .f32 re' im') := HS'.out.below (hbel.trans (hb1.mono hbel.size))
        have wU : Wh .f32 re' im' U V n' 2047 := fun i hi => by
          obtain ⟨x1, x2, x3, x4⟩ := HW'.out i hi
          exact ⟨x1, x2, by omega, by omega⟩
        have hfl : ∀ j, j < n' → firstOf S F k + j < n := fun j hj => by
          rw [HN.out]
          exact first_lt HFF.out hF1 hlt hj
        have hsm := sumOf_ok 90 #[.pointer (some ⟨w.heap.size, 0, none⟩), .pointer (some ⟨wr.heap.size, 0, none⟩), .pointer (some ⟨w.heap.size + 1, 0, none⟩)] n' (tRe X Y U V (firstOf S F k)) (tIm X Y U V (firstOf S F k)) W (by omega)
          (fun args w => enter_closC args w)
          (fun j w' hj hb => closC_ok w.heap.size wr.heap.size (w.heap.size + 1) L S n c n' c' (firstOf S F k) j A A' re im re' im' X Y U V w' (t1.below hb t1.lt) (t3.below hb t3.lt) (t2.below hb t2.lt) (sA.below hb) (sA'.below hb) HW.out wU hj (hfl j hj) hn4)
          (fun j hj => by
            have hb : ∀ i, i < n' → (tRe X Y U V (firstOf S F k) i).natAbs ≤ 8380418 ∧ (tIm X Y U V (firstOf S F k) i).natAbs ≤ 8380418 := fun i hi => by
              obtain ⟨_, _, x3, x4⟩ := HW.out _ (hfl i hi)
              obtain ⟨_, _, y3, y4⟩ := wU i hi
              exact t_bound x3 x4 y3 y4
            have q1 := sumI_bound (fun i hi => (hb i hi).1) j hj
            have q2 := sumI_bound (fun i hi => (hb i hi).2) j hj
            have q3 : j * 8380418 ≤ 32 * 8380418 := Nat.mul_le_mul_right _ (by omega)
            omega)
        refine hsm.mono ?_
        rintro e w' ⟨rfl, hb2⟩
        have hb3 : Below wr.heap.size wr w' := hb1.trans (hb2.mono (by omega))
        have q4 := (H4.out.below hb3 hl4).cell 2
        have q2 := (H2.out.below hb3 hl2).cell 0
        have qr := row_below HRW.out hb3 hlr
        simp at q4 q2
        exact ⟨rfl, hb2, q4, q2, qr.cell hlt, qr.frozen k, hb3⟩
      have HSUM := Lib.hid hsum
      clear hsum
      have HW1 := Lib.hid hW1
      clear hW1 d0 d1 m0 m1 p0 p1
      go_wp2
      go_region_held3 (fun w' => w'.cell? ⟨w2.heap.size, 2, none⟩ = some (.slice (some ⟨w1.heap.size + 1, 0, none⟩) (L * F) (L * F)) ∧ w'.cell? ⟨w.heap.size + 1, 0, none⟩ = some (.slice A' n' c')) (first | exact ⟨(World.cell?_setCell_other _ _ _ _ (by intro e; injection e with e1; omega)).trans hs31, (World.cell?_setCell_other _ _ _ _ (by intro e; injection e with e1; omega)).trans hs32⟩ | go_keep)
        (first | (go_at_call 89; refine (HSUM.out _ ?_).mono ?_; (rw [HW1.out]; repeat (first | (with_reducible exact Below.refl _ _) | (with_reducible refine Below.drew ?_) | (with_reducible refine below_drewNs ?_))); rintro e w3 ⟨rfl, _, hs31, hs32, hs33, hs34, hb3⟩))
      have Q1 := H1.out.below hb3 hl1
      have Q2 := H2.out.below hb3 hl2
      have Q3 := H3.out.below hb3 hl3
      have Q4 := H4.out.below hb3 hl4
      have QR := row_below HRW.out hb3 hlr
      have HQ1 := Lib.hid Q1
      have HQ2 := Lib.hid Q2
      have HQ3 := Lib.hid Q3
      have HQ4 := Lib.hid Q4
      have HQR := Lib.hid QR
      clear Q1 Q2 Q3 Q4 QR hs31 hs32 hs33 hs34
      go_wp2
      go_roundg (L * F - (k + 1))
      case measure => have := HGK.out; omega
      case rel =>
        refine ⟨k + 1, hlt, rfl, by go_num, (HQR.out.set k _).congr (fun j _ => partC_step _ _ _ _ _ _ _ k j), HQ1.out.far (by simp; omega) _, HQ2.out.far (by simp; omega) _, HQ3.out.far (by simp; omega) _, HQ4.out.far (by simp; omega) _, ?_⟩
        exact below_set (hbel.trans (hb3.mono hbel.size)) (by omega)
    · obtain rfl : k = L * F := by omega
      have HC := Lib.hid (HRW.out.congr (g := fun j => .complex .f64 (Go.Proofs.YtdpoemhpmdahjaaDoor.F .f64 (cRe X Y U V S F n' j)) (Go.Proofs.YtdpoemhpmdahjaaDoor.F .f64 (cIm X Y U V S F n' j))) (fun j hj => if_pos hj))
      have c40 := H4.out.cell 0
      have c30 := H3.out.cell 0
      have c31 := H3.out.cell 1
      have c32 := H3.out.cell 2
      simp at c40 c30 c31 c32
      have f30 := H3.out.free 0
      have f31 := H3.out.free 1
      have f32 := H3.out.free 2
      go_wp2
      refine bodyPost_ret (v := .tuple #[.agg #[.int .i64 (L : Int), .int .i64 (F : Int), .slice (some ⟨w1.heap.size + 1, 0, none⟩) (L * F) (L * F)], .int .i64 0]) (by simp [results, Tryd.results36, go_sem, *]) rfl ⟨w1.heap.size + 1, rfl, by omega, ?_, ?_⟩
      · exact ((HC.out.setOther (by simp; omega) _).setOther (by simp; omega) _).setOther (by simp; omega) _
      · exact below_set (below_set (below_set hbel (by omega)) (by omega)) (by omega)
end Go.Proofs.YtdpoemhpmdahjaaDoor
