/- Contracts of package orbit: the nearest tick. -/
import Derived.Test.YtnaanninmkplfaaOlf
import Derived.Test.YtnaanninmkplfaaOsa
import Derived.Deep.DeepCutAuto
namespace Go.Proofs.Ytnaanninmkplfaa
open Go.RowKit Go.Shelf
set_option maxHeartbeats 1600000
set_option maxRecDepth 100000

/-- the closure that Nearest hands on -/
theorem nearestTell_any (s : ByteArray) (b bb : Int) (A : Option Addr) (n c : Nat) (S : Nat → Nat → Int) (t p1 p2 p3 : Int) (g2 g3 : Nat) (w : World) (hS : St w A n S) (hR : Right S n bb) (hT : Has S n t) (hn : n ≤ c) (hc : c ≤ maxLen) (hp : Sm p1 ∧ Sm p2 ∧ Sm p3) (hbb : b = bb)
    (hA : At w g2 126 #[.string s, .int .i64 b, .slice A n c]) (hL : At w g3 42 #[.int .i64 p1, .int .i64 p2, .int .i64 p3]) :
    Calls Try.prog 102 #[.int .i64 t, .pointer (some ⟨g2, 0, none⟩), .pointer (some ⟨g3, 0, none⟩)] w fun e w' => e = .returned (.int .i64 (sqN S n t (P3 p1 p2 p3))) ∧ Below w.heap.size w w' := by
  have q0 := hA.cell 0
  have q1 := hA.cell 1
  have q2 := hA.cell 2
  have r0 := hL.cell 0
  have r1 := hL.cell 1
  have r2 := hL.cell 2
  simp at q0 q1 q2 r0 r1 r2
  have hC := nominalSquare_any s b bb A n c S t p1 p2 p3 w hS hR hT hn hc hp hbb
  have HC := Lib.hid hC
  clear hC hA hL hS hR hT hn hc hp hbb
  go_enter Try.func102, Try.ntmps102
  go_wp2_with fail
  refine HC.out.mono ?_
  rintro e w1 ⟨rfl, hb1⟩
  go_wp2
  go_ret
  exact ⟨rfl, hb1⟩

/-- the error of an orbit and a place -/
def eP (nm : Bool) (b : Int) (n : Nat) (S : Nat → Nat → Int) (p1 p2 p3 : Int) : Int := fe (l2 (oce nm b n S).2 (pe p1 p2 p3)) 2

theorem eP_zero {nm : Bool} {b : Int} {n : Nat} {S : Nat → Nat → Int} {p1 p2 p3 : Int} (h : eP nm b n S p1 p2 p3 = 0) :
    nm = true ∧ Right S n b ∧ (-100000000 ≤ p1 ∧ p1 ≤ 100000000) ∧ (-100000000 ≤ p2 ∧ p2 ≤ 100000000) ∧ (-100000000 ≤ p3 ∧ p3 ≤ 100000000) := by
  unfold eP at h
  rw [fe_two] at h
  split at h
  · rename_i h0
    obtain ⟨a1, a2⟩ := oce_zero h0
    exact ⟨a1, a2, pe_zero h⟩
  · contradiction
/-- what Nearest returns -/
def NR (nm : Bool) (b : Int) (n : Nat) (S : Nat → Nat → Int) (p1 p2 p3 : Int) (e : Ending) : Prop :=
  (eP nm b n S p1 p2 p3 ≠ 0 ∧ e = .returned (.tuple #[.int .i64 0, .int .i64 0, .int .i64 (eP nm b n S p1 p2 p3)])) ∨
  (eP nm b n S p1 p2 p3 = 0 ∧ ∃ t, Least S n (fun t => sqN S n t (P3 p1 p2 p3)) t ∧ e = .returned (.tuple #[.int .i64 t, .int .i64 (sqN S n t (P3 p1 p2 p3)), .int .i64 0]))

theorem nearest_any (s : ByteArray) (b : Int) (A : Option Addr) (n c : Nat) (S : Nat → Nat → Int) (p1 p2 p3 : Int) (w : World) (hS : St w A n S) (hs : s.size ≤ maxLen) (hn : n ≤ c) (hc : c ≤ maxLen) :
    Calls Try.prog 40 #[.agg #[.string s, .int .i64 b, .slice A n c], .agg #[.int .i64 p1, .int .i64 p2, .int .i64 p3]] w fun e w' => NR (nmB s) b n S p1 p2 p3 e ∧ Below w.heap.size w w' := by
  have HS := Lib.hid hS
  have H1 := Lib.hid hs
  have HN := Lib.hid hn
  have HC := Lib.hid hc
  clear hS hs hn hc
  go_enter Try.func40, Try.ntmps40
  go_wp2_with fail
  have hA : At (((w.alloc (.cells #[.string s, .int .i64 b, .slice A n c] 24)).alloc (.cells #[.int .i64 p1, .int .i64 p2, .int .i64 p3] 42)).alloc (.cells #[.string s, .int .i64 b, .slice A n c] 126)) (w.heap.size + 1 + 1) 126 #[.string s, .int .i64 b, .slice A n c] := at_new (by simp)
  have hL : At (((w.alloc (.cells #[.string s, .int .i64 b, .slice A n c] 24)).alloc (.cells #[.int .i64 p1, .int .i64 p2, .int .i64 p3] 42)).alloc (.cells #[.string s, .int .i64 b, .slice A n c] 126)) (w.heap.size + 1) 42 #[.int .i64 p1, .int .i64 p2, .int .i64 p3] := (at_new (by simp)).alloc _
  have hb1 : Below w.heap.size w (((w.alloc (.cells #[.string s, .int .i64 b, .slice A n c] 24)).alloc (.cells #[.int .i64 p1, .int .i64 p2, .int .i64 p3] 42)).alloc (.cells #[.string s, .int .i64 b, .slice A n c] 126)) := by
    repeat (first | (with_reducible exact Below.refl _ _) | (with_reducible refine below_new ?_ (by first | omega | (simp; done) | (simp; omega))))
  generalize hW1 : ((w.alloc (.cells #[.string s, .int .i64 b, .slice A n c] 24)).alloc (.cells #[.int .i64 p1, .int .i64 p2, .int .i64 p3] 42)).alloc (.cells #[.string s, .int .i64 b, .slice A n c] 126) = W1 at hA hL hb1 ⊢
  clear hW1
  have hS1 := HS.out.below hb1
  have hSS : ∀ w', Below W1.heap.size W1 w' → w'.cell? ⟨w.heap.size + 1 + 1, 0, none⟩ = some (.string s) ∧ w'.cell? ⟨w.heap.size + 1 + 1, 1, none⟩ = some (.int .i64 b) ∧ w'.cell? ⟨w.heap.size + 1 + 1, 2, none⟩ = some (.slice A n c) ∧ w'.cell? ⟨w.heap.size + 1, 0, none⟩ = some (.int .i64 p1) ∧ w'.cell? ⟨w.heap.size + 1, 1, none⟩ = some (.int .i64 p2) ∧ w'.cell? ⟨w.heap.size + 1, 2, none⟩ = some (.int .i64 p3) := fun w' hW => by
    have q := hA.keep hW
    have r := hL.keep hW
    exact ⟨q.cell 0, q.cell 1, q.cell 2, r.cell 0, r.cell 1, r.cell 2⟩
  have hP1 : ∀ W : World, Below W1.heap.size W1 W → Calls Try.prog 76 #[.agg #[.string s, .int .i64 b, .slice A n c]] W fun e w' => e = .returned (.int .i64 (oce (nmB s) b n S).2) ∧ Below W1.heap.size W1 w' ∧ w'.cell? ⟨w.heap.size + 1 + 1, 0, none⟩ = some (.string s) ∧ w'.cell? ⟨w.heap.size + 1 + 1, 1, none⟩ = some (.int .i64 b) ∧ w'.cell? ⟨w.heap.size + 1 + 1, 2, none⟩ = some (.slice A n c) ∧ w'.cell? ⟨w.heap.size + 1, 0, none⟩ = some (.int .i64 p1) ∧ w'.cell? ⟨w.heap.size + 1, 1, none⟩ = some (.int .i64 p2) ∧ w'.cell? ⟨w.heap.size + 1, 2, none⟩ = some (.int .i64 p3) := by
    intro W hW
    refine (check_any s b A n c S W (hS1.below hW) H1.out HN.out HC.out).mono ?_
    rintro e w' ⟨rfl, hb⟩
    have hB := hW.trans (hb.mono hW.size)
    exact ⟨rfl, hB, hSS _ hB⟩
  have hP3 : ∀ W : World, Below W1.heap.size W1 W → Calls Try.prog 92 #[.agg #[.int .i64 p1, .int .i64 p2, .int .i64 p3]] W fun e w' => e = .returned (.int .i64 (pe p1 p2 p3)) ∧ Below W1.heap.size W1 w' ∧ w'.cell? ⟨w.heap.size + 1 + 1, 0, none⟩ = some (.string s) ∧ w'.cell? ⟨w.heap.size + 1 + 1, 1, none⟩ = some (.int .i64 b) ∧ w'.cell? ⟨w.heap.size + 1 + 1, 2, none⟩ = some (.slice A n c) ∧ w'.cell? ⟨w.heap.size + 1, 0, none⟩ = some (.int .i64 p1) ∧ w'.cell? ⟨w.heap.size + 1, 1, none⟩ = some (.int .i64 p2) ∧ w'.cell? ⟨w.heap.size + 1, 2, none⟩ = some (.int .i64 p3) := by
    intro W hW
    refine (checkPlace_any p1 p2 p3 W).mono ?_
    rintro e w' ⟨rfl, hb⟩
    have hB := hW.trans (hb.mono hW.size)
    exact ⟨rfl, hB, hSS _ hB⟩
  obtain ⟨s0, s1, s2, s3, s4, s5⟩ := hSS W1 (Below.refl _ _)
  have HP1 := Lib.hid hP1
  have HP3 := Lib.hid hP3
  have HB1 := Lib.hid hb1
  have HA := Lib.hid hA
  have HL := Lib.hid hL
  have HS1 := Lib.hid hS1
  clear hP1 hP3 hb1 hA hL hS1 hSS
  go_region_held3 (fun w' => w'.cell? ⟨w.heap.size + 1 + 1, 0, none⟩ = some (.string s) ∧ w'.cell? ⟨w.heap.size + 1 + 1, 1, none⟩ = some (.int .i64 b) ∧ w'.cell? ⟨w.heap.size + 1 + 1, 2, none⟩ = some (.slice A n c) ∧ w'.cell? ⟨w.heap.size + 1, 0, none⟩ = some (.int .i64 p1) ∧ w'.cell? ⟨w.heap.size + 1, 1, none⟩ = some (.int .i64 p2) ∧ w'.cell? ⟨w.heap.size + 1, 2, none⟩ = some (.int .i64 p3)) (go_keep)
    (first
      | (go_at_call 76; (with_reducible refine (HP1.out _ ?_).mono ?_); (repeat (first | assumption | (with_reducible exact Below.refl _ _) | (with_reducible refine Below.drew ?_) | (with_reducible refine below_drewNs ?_))); rintro e w4 ⟨rfl, hb4, hs0, hs1, hs2, hs3, hs4, hs5⟩)
      | (go_at_call 92; (with_reducible refine (HP3.out _ ?_).mono ?_); (repeat (first | assumption | (with_reducible exact Below.refl _ _) | (with_reducible refine Below.drew ?_) | (with_reducible refine below_drewNs ?_))); rintro e w6 ⟨rfl, hb6, hu0, hu1, hu2, hu3, hu4, hu5⟩)
      | (go_at_call 70; (with_reducible refine (firstError_any _ 2 2 (l2 _ _) _ (sl_new (by simp) (get_l2 _ _)) (by omega)).mono ?_); rintro e w' ⟨rfl, rfl⟩)
      | (go_at_call 70; (with_reducible refine (firstError_any _ 2 2 (l2 _ _) _ (sl_newd (by simp) (get_l2 _ _)) (by omega)).mono ?_); rintro e w' ⟨rfl, rfl⟩))
  rw [show fe (l2 (oce (nmB s) b n S).2 (pe p1 p2 p3)) 2 = eP (nmB s) b n S p1 p2 p3 from rfl]
  have hw : Below W1.heap.size W1 (w6.alloc (.cells #[.int .i64 (oce (nmB s) b n S).2, .int .i64 (pe p1 p2 p3)] 27)) := below_new hb6 hb6.size
  generalize hW2 : w6.alloc (.cells #[.int .i64 (oce (nmB s) b n S).2, .int .i64 (pe p1 p2 p3)] 27) = W2 at hw ⊢
  clear hW2 hb6 hu0 hu1 hu2 hu3 hu4 hu5 s0 s1 s2 s3 s4 s5
  have hA2 := HA.out.keep hw
  have hL2 := HL.out.keep hw
  have s0 := hA2.cell 0
  have s1 := hA2.cell 1
  have s2 := hA2.cell 2
  simp at s0 s1 s2
  have HW2 := Lib.hid hw
  have HA2 := Lib.hid hA2
  have HL2 := Lib.hid hL2
  have HBf := Lib.hid (HB1.out.trans (hw.mono HB1.out.size))
  clear hA2 hL2 hw
  by_cases he : eP (nmB s) b n S p1 p2 p3 = 0
  · have d1 : (eP (nmB s) b n S p1 p2 p3 != 0) = false := by rw [he]; rfl
    obtain ⟨hnm, hR, hp⟩ := eP_zero he
    have HE := Lib.hid he
    have HR := Lib.hid hR
    have HPP := Lib.hid hp
    clear he hR hp hnm
    go_wp2_with fail
    refine (leastOf_any s b A n c S b (fun t => sqN S n t (P3 p1 p2 p3)) 102 (.pointer (some ⟨w.heap.size + 1 + 1, 0, none⟩)) (.pointer (some ⟨w.heap.size + 1, 0, none⟩)) _ (HS1.out.below HW2.out) HR.out HN.out HC.out (enters_of Try.func102 rfl rfl)
      (fun t W hT hW => nearestTell_any s b b A n c S t p1 p2 p3 _ _ W ((HS1.out.below HW2.out).below hW) HR.out hT HN.out HC.out HPP.out rfl (HA2.out.keep hW) (HL2.out.keep hW))).mono ?_
    rintro e w7 ⟨t, rfl, hlt, hb7⟩
    have HLT := Lib.hid hlt
    have HB7 := Lib.hid (HBf.out.trans (hb7.mono HBf.out.size))
    clear hlt hb7
    go_wp2
    have hrs : Func.results Try.f40 = #[.tmp 4, .tmp 5, .tmp 6] := rfl
    exact bodyPost_ret (results_tmp3 hrs _ _ _) rfl ⟨.inr ⟨HE.out, t, HLT.out, rfl⟩, HB7.out⟩
  · have d1 : (eP (nmB s) b n S p1 p2 p3 != 0) = true := by simpa using he
    have HE := Lib.hid he
    clear he
    go_wp2
    have hrs : Func.results Try.f40 = #[.tmp 4, .tmp 5, .tmp 6] := rfl
    exact bodyPost_ret (results_tmp3 hrs _ _ _) rfl ⟨.inl ⟨HE.out, rfl⟩, HBf.out⟩
end Go.Proofs.Ytnaanninmkplfaa
