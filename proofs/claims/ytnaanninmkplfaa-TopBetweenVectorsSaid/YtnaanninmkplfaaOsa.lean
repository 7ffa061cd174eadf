/- Contracts of package orbit: SquareAt. -/
import Derived.Test.YtnaanninmkplfaaOba
namespace Go.Proofs.Ytnaanninmkplfaa
open Go.RowKit
set_option maxHeartbeats 400000
set_option maxRecDepth 100000

/-- the error of an orbit, a tick and a place -/
def e3 (nm : Bool) (b : Int) (n : Nat) (S : Nat → Nat → Int) (t p1 p2 p3 : Int) : Int := fe (l3 (oce nm b n S).2 (eif (!hasB S n t) 2) (pe p1 p2 p3)) 3
theorem pe_zero {x y z : Int} (h : pe x y z = 0) : (-100000000 ≤ x ∧ x ≤ 100000000) ∧ (-100000000 ≤ y ∧ y ≤ 100000000) ∧ (-100000000 ≤ z ∧ z ≤ 100000000) := by
  unfold pe at h
  split at h
  · assumption
  · cases h
theorem e3_zero {nm : Bool} {b : Int} {n : Nat} {S : Nat → Nat → Int} {t p1 p2 p3 : Int} (h : e3 nm b n S t p1 p2 p3 = 0) :
    nm = true ∧ Right S n b ∧ Has S n t ∧ (-100000000 ≤ p1 ∧ p1 ≤ 100000000) ∧ (-100000000 ≤ p2 ∧ p2 ≤ 100000000) ∧ (-100000000 ≤ p3 ∧ p3 ≤ 100000000) := by
  unfold e3 at h
  rw [fe_three] at h
  split at h
  · rename_i h0
    split at h
    · rename_i h1
      obtain ⟨a1, a2, a3⟩ := e2_zero (nm := nm) (b := b) (n := n) (S := S) (t := t) (by unfold e2; rw [fe_two, if_pos h0]; exact h1)
      exact ⟨a1, a2, a3, pe_zero h⟩
    · contradiction
  · contradiction
theorem pe_right {x y z : Int} (h : (-100000000 ≤ x ∧ x ≤ 100000000) ∧ (-100000000 ≤ y ∧ y ≤ 100000000) ∧ (-100000000 ≤ z ∧ z ≤ 100000000)) : pe x y z = 0 := if_pos h
theorem e3_right {b : Int} {n : Nat} {S : Nat → Nat → Int} {t p1 p2 p3 : Int} (h : Right S n b) (ht : Has S n t) (hp : pe p1 p2 p3 = 0) : e3 true b n S t p1 p2 p3 = 0 := by
  have h2 := e2_right h ht
  unfold e2 at h2
  rw [fe_two] at h2
  unfold e3
  rw [fe_three, hp]
  rw [oce_right h] at h2 ⊢
  rw [if_pos rfl] at h2 ⊢
  rw [if_pos h2]
def P3 (p1 p2 p3 : Int) (i : Nat) : Int := if i = 1 then p1 else if i = 2 then p2 else p3
theorem P3_pl {p1 p2 p3 : Int} (h : (-100000000 ≤ p1 ∧ p1 ≤ 100000000) ∧ (-100000000 ≤ p2 ∧ p2 ≤ 100000000) ∧ (-100000000 ≤ p3 ∧ p3 ≤ 100000000)) : Pl (P3 p1 p2 p3) := h
def sqR (nm : Bool) (b : Int) (n : Nat) (S : Nat → Nat → Int) (t p1 p2 p3 : Int) : Value :=
  if e3 nm b n S t p1 p2 p3 = 0 then .tuple #[sqV S n b t (P3 p1 p2 p3), .int .i64 0] else .tuple #[.agg #[.int .i64 0, .int .i64 0], .int .i64 (e3 nm b n S t p1 p2 p3)]

theorem squareAt_any (s : ByteArray) (b : Int) (A : Option Addr) (n c : Nat) (S : Nat → Nat → Int) (t p1 p2 p3 : Int) (w : World) (hS : St w A n S) (hs : s.size ≤ maxLen) (hn : n ≤ c) (hc : c ≤ maxLen) :
    Calls Try.prog 30 #[.agg #[.string s, .int .i64 b, .slice A n c], .int .i64 t, .agg #[.int .i64 p1, .int .i64 p2, .int .i64 p3]] w fun e w' => e = .returned (sqR (nmB s) b n S t p1 p2 p3) ∧ Below w.heap.size w w' := by
  have HS := Lib.hid hS
  have H1 := Lib.hid hs
  have HN := Lib.hid hn
  have HC := Lib.hid hc
  clear hS hs hn hc
  go_enter Try.func30, Try.ntmps30
  go_wp2_with fail
  have hA : At ((((w.alloc (.cells #[.string s, .int .i64 b, .slice A n c] 24)).alloc (.cells #[.int .i64 p1, .int .i64 p2, .int .i64 p3] 42)).alloc (.cells #[.int .i64 0, .int .i64 0] 46)).alloc (.cells #[.string s, .int .i64 b, .slice A n c] 126)) (w.heap.size + 1 + 1 + 1) 126 #[.string s, .int .i64 b, .slice A n c] := at_new (by simp)
  have hQ : At ((((w.alloc (.cells #[.string s, .int .i64 b, .slice A n c] 24)).alloc (.cells #[.int .i64 p1, .int .i64 p2, .int .i64 p3] 42)).alloc (.cells #[.int .i64 0, .int .i64 0] 46)).alloc (.cells #[.string s, .int .i64 b, .slice A n c] 126)) (w.heap.size + 1 + 1) 46 #[.int .i64 0, .int .i64 0] := (at_new (by simp)).alloc _
  have hL : At ((((w.alloc (.cells #[.string s, .int .i64 b, .slice A n c] 24)).alloc (.cells #[.int .i64 p1, .int .i64 p2, .int .i64 p3] 42)).alloc (.cells #[.int .i64 0, .int .i64 0] 46)).alloc (.cells #[.string s, .int .i64 b, .slice A n c] 126)) (w.heap.size + 1) 42 #[.int .i64 p1, .int .i64 p2, .int .i64 p3] := ((at_new (by simp)).alloc _).alloc _
  have hb1 : Below w.heap.size w ((((w.alloc (.cells #[.string s, .int .i64 b, .slice A n c] 24)).alloc (.cells #[.int .i64 p1, .int .i64 p2, .int .i64 p3] 42)).alloc (.cells #[.int .i64 0, .int .i64 0] 46)).alloc (.cells #[.string s, .int .i64 b, .slice A n c] 126)) := by
    repeat (first | (with_reducible exact Below.refl _ _) | (with_reducible refine below_new ?_ (by first | omega | (simp; done) | (simp; omega))))
  generalize hW1 : (((w.alloc (.cells #[.string s, .int .i64 b, .slice A n c] 24)).alloc (.cells #[.int .i64 p1, .int .i64 p2, .int .i64 p3] 42)).alloc (.cells #[.int .i64 0, .int .i64 0] 46)).alloc (.cells #[.string s, .int .i64 b, .slice A n c] 126) = W1 at hA hQ hL hb1 ⊢
  clear hW1
  have hS1 := HS.out.below hb1
  have hSS : ∀ w', Below W1.heap.size W1 w' → w'.cell? ⟨w.heap.size + 1 + 1 + 1, 0, none⟩ = some (.string s) ∧ w'.cell? ⟨w.heap.size + 1 + 1 + 1, 1, none⟩ = some (.int .i64 b) ∧ w'.cell? ⟨w.heap.size + 1 + 1 + 1, 2, none⟩ = some (.slice A n c) ∧ w'.cell? ⟨w.heap.size + 1, 0, none⟩ = some (.int .i64 p1) ∧ w'.cell? ⟨w.heap.size + 1, 1, none⟩ = some (.int .i64 p2) ∧ w'.cell? ⟨w.heap.size + 1, 2, none⟩ = some (.int .i64 p3) := fun w' hW => by
    have q := hA.keep hW
    have r := hL.keep hW
    exact ⟨q.cell 0, q.cell 1, q.cell 2, r.cell 0, r.cell 1, r.cell 2⟩
  have hP1 : ∀ W : World, Below W1.heap.size W1 W → Calls Try.prog 76 #[.agg #[.string s, .int .i64 b, .slice A n c]] W fun e w' => e = .returned (.int .i64 (oce (nmB s) b n S).2) ∧ Below W1.heap.size W1 w' ∧ w'.cell? ⟨w.heap.size + 1 + 1 + 1, 0, none⟩ = some (.string s) ∧ w'.cell? ⟨w.heap.size + 1 + 1 + 1, 1, none⟩ = some (.int .i64 b) ∧ w'.cell? ⟨w.heap.size + 1 + 1 + 1, 2, none⟩ = some (.slice A n c) ∧ w'.cell? ⟨w.heap.size + 1, 0, none⟩ = some (.int .i64 p1) ∧ w'.cell? ⟨w.heap.size + 1, 1, none⟩ = some (.int .i64 p2) ∧ w'.cell? ⟨w.heap.size + 1, 2, none⟩ = some (.int .i64 p3) := by
    intro W hW
    refine (check_any s b A n c S W (hS1.below hW) H1.out HN.out HC.out).mono ?_
    rintro e w' ⟨rfl, hb⟩
    have hB := hW.trans (hb.mono hW.size)
    exact ⟨rfl, hB, hSS _ hB⟩
  have hP2 : ∀ W : World, Below W1.heap.size W1 W → Calls Try.prog 86 #[.agg #[.string s, .int .i64 b, .slice A n c], .int .i64 t] W fun e w' => e = .returned (.int .i64 (eif (!hasB S n t) 2)) ∧ Below W1.heap.size W1 w' ∧ w'.cell? ⟨w.heap.size + 1 + 1 + 1, 0, none⟩ = some (.string s) ∧ w'.cell? ⟨w.heap.size + 1 + 1 + 1, 1, none⟩ = some (.int .i64 b) ∧ w'.cell? ⟨w.heap.size + 1 + 1 + 1, 2, none⟩ = some (.slice A n c) ∧ w'.cell? ⟨w.heap.size + 1, 0, none⟩ = some (.int .i64 p1) ∧ w'.cell? ⟨w.heap.size + 1, 1, none⟩ = some (.int .i64 p2) ∧ w'.cell? ⟨w.heap.size + 1, 2, none⟩ = some (.int .i64 p3) := by
    intro W hW
    refine (checkTick_any s b A n c S t W (hS1.below hW) (Nat.le_trans HN.out HC.out)).mono ?_
    rintro e w' ⟨rfl, hb⟩
    have hB := hW.trans (hb.mono hW.size)
    exact ⟨rfl, hB, hSS _ hB⟩
  have hP3 : ∀ W : World, Below W1.heap.size W1 W → Calls Try.prog 92 #[.agg #[.int .i64 p1, .int .i64 p2, .int .i64 p3]] W fun e w' => e = .returned (.int .i64 (pe p1 p2 p3)) ∧ Below W1.heap.size W1 w' ∧ w'.cell? ⟨w.heap.size + 1 + 1 + 1, 0, none⟩ = some (.string s) ∧ w'.cell? ⟨w.heap.size + 1 + 1 + 1, 1, none⟩ = some (.int .i64 b) ∧ w'.cell? ⟨w.heap.size + 1 + 1 + 1, 2, none⟩ = some (.slice A n c) ∧ w'.cell? ⟨w.heap.size + 1, 0, none⟩ = some (.int .i64 p1) ∧ w'.cell? ⟨w.heap.size + 1, 1, none⟩ = some (.int .i64 p2) ∧ w'.cell? ⟨w.heap.size + 1, 2, none⟩ = some (.int .i64 p3) := by
    intro W hW
    refine (checkPlace_any p1 p2 p3 W).mono ?_
    rintro e w' ⟨rfl, hb⟩
    have hB := hW.trans (hb.mono hW.size)
    exact ⟨rfl, hB, hSS _ hB⟩
  obtain ⟨s0, s1, s2, s3, s4, s5⟩ := hSS W1 (Below.refl _ _)
  have HP1 := Lib.hid hP1
  have HP2 := Lib.hid hP2
  have HP3 := Lib.hid hP3
  have HB1 := Lib.hid hb1
  have HA := Lib.hid hA
  have HQ := Lib.hid hQ
  have HL := Lib.hid hL
  have HS1 := Lib.hid hS1
  clear hP1 hP2 hP3 hb1 hA hQ hL hS1 hSS
  go_region_held3 (fun w' => w'.cell? ⟨w.heap.size + 1 + 1 + 1, 0, none⟩ = some (.string s) ∧ w'.cell? ⟨w.heap.size + 1 + 1 + 1, 1, none⟩ = some (.int .i64 b) ∧ w'.cell? ⟨w.heap.size + 1 + 1 + 1, 2, none⟩ = some (.slice A n c) ∧ w'.cell? ⟨w.heap.size + 1, 0, none⟩ = some (.int .i64 p1) ∧ w'.cell? ⟨w.heap.size + 1, 1, none⟩ = some (.int .i64 p2) ∧ w'.cell? ⟨w.heap.size + 1, 2, none⟩ = some (.int .i64 p3)) (go_keep)
    (first
      | (go_at_call 76; (with_reducible refine (HP1.out _ ?_).mono ?_); (repeat (first | assumption | (with_reducible exact Below.refl _ _) | (with_reducible refine Below.drew ?_) | (with_reducible refine below_drewNs ?_))); rintro e w4 ⟨rfl, hb4, hs0, hs1, hs2, hs3, hs4, hs5⟩)
      | (go_at_call 86; (with_reducible refine (HP2.out _ ?_).mono ?_); (repeat (first | assumption | (with_reducible exact Below.refl _ _) | (with_reducible refine Below.drew ?_) | (with_reducible refine below_drewNs ?_))); rintro e w5 ⟨rfl, hb5, ht0, ht1, ht2, ht3, ht4, ht5⟩)
      | (go_at_call 92; (with_reducible refine (HP3.out _ ?_).mono ?_); (repeat (first | assumption | (with_reducible exact Below.refl _ _) | (with_reducible refine Below.drew ?_) | (with_reducible refine below_drewNs ?_))); rintro e w6 ⟨rfl, hb6, hu0, hu1, hu2, hu3, hu4, hu5⟩)
      | (go_at_call 70; (with_reducible refine (firstError_any _ 3 3 (l3 _ _ _) _ (sl_new (by simp) (get_l3 _ _ _)) (by omega)).mono ?_); rintro e w' ⟨rfl, rfl⟩)
      | (go_at_call 70; (with_reducible refine (firstError_any _ 3 3 (l3 _ _ _) _ (sl_newd (by simp) (get_l3 _ _ _)) (by omega)).mono ?_); rintro e w' ⟨rfl, rfl⟩))
  rw [show fe (l3 (oce (nmB s) b n S).2 (eif (!hasB S n t) 2) (pe p1 p2 p3)) 3 = e3 (nmB s) b n S t p1 p2 p3 from rfl]
  have hw : Below W1.heap.size W1 (w6.alloc (.cells #[.int .i64 (oce (nmB s) b n S).2, .int .i64 (eif (!hasB S n t) 2), .int .i64 (pe p1 p2 p3)] 27)) := below_new hb6 hb6.size
  generalize hW2 : w6.alloc (.cells #[.int .i64 (oce (nmB s) b n S).2, .int .i64 (eif (!hasB S n t) 2), .int .i64 (pe p1 p2 p3)] 27) = W2 at hw ⊢
  clear hW2 hb6 hu0 hu1 hu2 hu3 hu4 hu5 s0 s1 s2 s3 s4 s5
  have hA2 := HA.out.keep hw
  have hQ2 := HQ.out.keep hw
  have hL2 := HL.out.keep hw
  have s0 := hA2.cell 0
  have s1 := hA2.cell 1
  have s2 := hA2.cell 2
  have s3 := hL2.cell 0
  have s4 := hL2.cell 1
  have s5 := hL2.cell 2
  simp at s0 s1 s2 s3 s4 s5
  have HW2 := Lib.hid hw
  have HQ2 := Lib.hid hQ2
  clear hA2 hQ2 hL2 hw
  by_cases he : e3 (nmB s) b n S t p1 p2 p3 = 0
  · have d1 : (e3 (nmB s) b n S t p1 p2 p3 != 0) = false := by rw [he]; rfl
    have HE := Lib.hid (show sqR (nmB s) b n S t p1 p2 p3 = .tuple #[sqV S n b t (P3 p1 p2 p3), .int .i64 0] from if_pos he)
    obtain ⟨hnm, hR, hT, hp⟩ := e3_zero he
    have HR := Lib.hid hR
    have HT := Lib.hid hT
    have HPP := Lib.hid (P3_pl hp)
    clear he hR hT hnm hp
    go_wp2_with fail
    refine (squares_any s b A n c S t p1 p2 p3 (P3 p1 p2 p3) _ ((HS1.out.below HW2.out)) HR.out HT.out HN.out HC.out HPP.out ⟨rfl, rfl, rfl⟩).mono ?_
    rintro e w7 ⟨rfl, hb7⟩
    have hb7' : Below W2.heap.size W2 w7 := hb7
    have hQ6 := HQ2.out.keep hb7'
    have t0 := hQ6.cell 0
    have t1 := hQ6.cell 1
    simp at t0 t1
    have f0 := hQ6.free 0
    have f1 := hQ6.free 1
    have HBf := Lib.hid (HB1.out.trans ((HW2.out.trans (hb7'.mono HW2.out.size)).mono HB1.out.size))
    unfold sqV
    clear hb7 hb7' hQ6
    go_wp2
    refine bodyPost_ret (v := .tuple #[sqV S n b t (P3 p1 p2 p3), .int .i64 0]) ?h1 rfl ⟨by rw [HE.out], ?_⟩
    case h1 => simp [results, Try.results30, go_sem, sqV, *]
    have HBB := HBf.out
    repeat (first | (with_reducible exact HBB) | (with_reducible refine below_set ?_ (by omega)))
  · have d1 : (e3 (nmB s) b n S t p1 p2 p3 != 0) = true := by simpa using he
    have HE := Lib.hid (show sqR (nmB s) b n S t p1 p2 p3 = .tuple #[.agg #[.int .i64 0, .int .i64 0], .int .i64 (e3 (nmB s) b n S t p1 p2 p3)] from if_neg he)
    clear he
    have hQ6 := HQ2.out
    have t0 := hQ6.cell 0
    have t1 := hQ6.cell 1
    simp at t0 t1
    have f0 := hQ6.free 0
    have f1 := hQ6.free 1
    have HBf := Lib.hid (HB1.out.trans (HW2.out.mono HB1.out.size))
    clear hQ6
    go_wp2
    refine bodyPost_ret (v := .tuple #[.agg #[.int .i64 0, .int .i64 0], .int .i64 (e3 (nmB s) b n S t p1 p2 p3)]) ?h2 rfl ⟨by rw [HE.out], ?_⟩
    case h2 => simp [results, Try.results30, go_sem, *]
    have HBB := HBf.out
    repeat (first | (with_reducible exact HBB) | (with_reducible refine below_set ?_ (by omega)) | (with_reducible refine Below.drew ?_))
end Go.Proofs.Ytnaanninmkplfaa
