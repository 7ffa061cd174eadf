/- Contracts of package orbit: Nominal. -/
import Derived.Test.YtnaanninmkplfaaOba
import Derived.Test.YtnaanninmkplfaaObn
namespace Go.Proofs.Ytnaanninmkplfaa
open Go.RowKit
set_option maxHeartbeats 400000
set_option maxRecDepth 100000

def zPl : Value := .agg #[.int .i64 0, .int .i64 0, .int .i64 0]
def noR (nm : Bool) (b : Int) (n : Nat) (S : Nat → Nat → Int) (t : Int) : Value := if e2 nm b n S t = 0 then .tuple #[noV S n t, .int .i64 0] else .tuple #[zPl, .int .i64 (e2 nm b n S t)]

theorem nominalAt_any (s : ByteArray) (b : Int) (A : Option Addr) (n c : Nat) (S : Nat → Nat → Int) (t : Int) (w : World) (hS : St w A n S) (hs : s.size ≤ maxLen) (hn : n ≤ c) (hc : c ≤ maxLen) :
    Calls Try.prog 24 #[.agg #[.string s, .int .i64 b, .slice A n c], .int .i64 t] w fun e w' => e = .returned (noR (nmB s) b n S t) ∧ Below w.heap.size w w' := by
  have HS := Lib.hid hS
  have H1 := Lib.hid hs
  have HN := Lib.hid hn
  have HC := Lib.hid hc
  clear hS hs hn hc
  go_enter Try.func24, Try.ntmps24
  go_wp2_with fail
  have hA := at_new (w := (w.alloc (.cells #[.string s, .int .i64 b, .slice A n c] 24)).alloc (.cells #[.int .i64 0, .int .i64 0, .int .i64 0] 42)) (g := w.heap.size + 1 + 1) (t := 126) (cs := #[.string s, .int .i64 b, .slice A n c]) (by simp)
  have hQ := (at_new (w := w.alloc (.cells #[.string s, .int .i64 b, .slice A n c] 24)) (g := w.heap.size + 1) (t := 42) (cs := #[.int .i64 0, .int .i64 0, .int .i64 0]) (by simp)).alloc (.cells #[.string s, .int .i64 b, .slice A n c] 126)
  have hb1 : Below w.heap.size w (((w.alloc (.cells #[.string s, .int .i64 b, .slice A n c] 24)).alloc (.cells #[.int .i64 0, .int .i64 0, .int .i64 0] 42)).alloc (.cells #[.string s, .int .i64 b, .slice A n c] 126)) := by
    repeat (first | (with_reducible exact Below.refl _ _) | (with_reducible refine below_new ?_ (by first | omega | (simp; done) | (simp; omega))))
  generalize hW1 : ((w.alloc (.cells #[.string s, .int .i64 b, .slice A n c] 24)).alloc (.cells #[.int .i64 0, .int .i64 0, .int .i64 0] 42)).alloc (.cells #[.string s, .int .i64 b, .slice A n c] 126) = W1 at hA hQ hb1 ⊢
  clear hW1
  have hS1 := HS.out.below hb1
  have hSS : ∀ w', Below W1.heap.size W1 w' → w'.cell? ⟨w.heap.size + 1 + 1, 0, none⟩ = some (.string s) ∧ w'.cell? ⟨w.heap.size + 1 + 1, 1, none⟩ = some (.int .i64 b) ∧ w'.cell? ⟨w.heap.size + 1 + 1, 2, none⟩ = some (.slice A n c) := fun w' hW => by
    have q := hA.keep hW
    exact ⟨q.cell 0, q.cell 1, q.cell 2⟩
  have hP1 : ∀ W : World, Below W1.heap.size W1 W → Calls Try.prog 76 #[.agg #[.string s, .int .i64 b, .slice A n c]] W fun e w' => e = .returned (.int .i64 (oce (nmB s) b n S).2) ∧ Below W1.heap.size W1 w' ∧
      w'.cell? ⟨w.heap.size + 1 + 1, 0, none⟩ = some (.string s) ∧ w'.cell? ⟨w.heap.size + 1 + 1, 1, none⟩ = some (.int .i64 b) ∧ w'.cell? ⟨w.heap.size + 1 + 1, 2, none⟩ = some (.slice A n c) := by
    intro W hW
    refine (check_any s b A n c S W (hS1.below hW) H1.out HN.out HC.out).mono ?_
    rintro e w' ⟨rfl, hb⟩
    have hB := hW.trans (hb.mono hW.size)
    exact ⟨rfl, hB, hSS _ hB⟩
  have hP2 : ∀ W : World, Below W1.heap.size W1 W → Calls Try.prog 86 #[.agg #[.string s, .int .i64 b, .slice A n c], .int .i64 t] W fun e w' => e = .returned (.int .i64 (eif (!hasB S n t) 2)) ∧ Below W1.heap.size W1 w' ∧
      w'.cell? ⟨w.heap.size + 1 + 1, 0, none⟩ = some (.string s) ∧ w'.cell? ⟨w.heap.size + 1 + 1, 1, none⟩ = some (.int .i64 b) ∧ w'.cell? ⟨w.heap.size + 1 + 1, 2, none⟩ = some (.slice A n c) := by
    intro W hW
    refine (checkTick_any s b A n c S t W (hS1.below hW) (Nat.le_trans HN.out HC.out)).mono ?_
    rintro e w' ⟨rfl, hb⟩
    have hB := hW.trans (hb.mono hW.size)
    exact ⟨rfl, hB, hSS _ hB⟩
  obtain ⟨s0, s1, s2⟩ := hSS W1 (Below.refl _ _)
  have HP1 := Lib.hid hP1
  have HP2 := Lib.hid hP2
  have HB1 := Lib.hid hb1
  have HA := Lib.hid hA
  have HQ := Lib.hid hQ
  have HS1 := Lib.hid hS1
  clear hP1 hP2 hb1 hA hQ hS1 hSS
  go_region_held3 (fun w' => w'.cell? ⟨w.heap.size + 1 + 1, 0, none⟩ = some (.string s) ∧ w'.cell? ⟨w.heap.size + 1 + 1, 1, none⟩ = some (.int .i64 b) ∧ w'.cell? ⟨w.heap.size + 1 + 1, 2, none⟩ = some (.slice A n c)) (go_keep)
    (first
      | (go_at_call 76; (with_reducible refine (HP1.out _ ?_).mono ?_); (repeat (first | assumption | (with_reducible exact Below.refl _ _) | (with_reducible refine Below.drew ?_) | (with_reducible refine below_drewNs ?_))); rintro e w4 ⟨rfl, hb4, hs0, hs1, hs2⟩)
      | (go_at_call 86; (with_reducible refine (HP2.out _ ?_).mono ?_); (repeat (first | assumption | (with_reducible exact Below.refl _ _) | (with_reducible refine Below.drew ?_) | (with_reducible refine below_drewNs ?_))); rintro e w5 ⟨rfl, hb5, ht0, ht1, ht2⟩)
      | (go_at_call 70; (with_reducible refine (firstError_any _ 2 2 (l2 _ _) _ (sl_new (by simp) (get_l2 _ _)) (by omega)).mono ?_); rintro e w' ⟨rfl, rfl⟩)
      | (go_at_call 70; (with_reducible refine (firstError_any _ 2 2 (l2 _ _) _ (sl_newd (by simp) (get_l2 _ _)) (by omega)).mono ?_); rintro e w' ⟨rfl, rfl⟩))
  rw [show fe (l2 (oce (nmB s) b n S).2 (eif (!hasB S n t) 2)) 2 = e2 (nmB s) b n S t from rfl]
  have hw : Below W1.heap.size W1 (w5.alloc (.cells #[.int .i64 (oce (nmB s) b n S).2, .int .i64 (eif (!hasB S n t) 2)] 27)) := below_new hb5 hb5.size
  generalize hW2 : w5.alloc (.cells #[.int .i64 (oce (nmB s) b n S).2, .int .i64 (eif (!hasB S n t) 2)] 27) = W2 at hw ⊢
  clear hW2 hb5 ht0 ht1 ht2 s0 s1 s2
  have hA2 := HA.out.keep hw
  have hQ2 := HQ.out.keep hw
  have s0 := hA2.cell 0
  have s1 := hA2.cell 1
  have s2 := hA2.cell 2
  simp at s0 s1 s2
  have HW2 := Lib.hid hw
  have HQ2 := Lib.hid hQ2
  clear hA2 hQ2 hw
  by_cases he : e2 (nmB s) b n S t = 0
  · have d1 : (e2 (nmB s) b n S t != 0) = false := by rw [he]; rfl
    have HE := Lib.hid (show noR (nmB s) b n S t = .tuple #[noV S n t, .int .i64 0] from if_pos he)
    obtain ⟨hnm, hR, hT⟩ := e2_zero he
    have HR := Lib.hid hR
    have HT := Lib.hid hT
    clear he hR hT hnm
    go_wp2_with fail
    refine (nominal_any s b A n c S t _ ((HS1.out.below HW2.out)) HR.out HT.out HN.out HC.out).mono ?_
    rintro e w6 ⟨rfl, hb6⟩
    have hb6' : Below W2.heap.size W2 w6 := hb6
    have hQ6 := HQ2.out.keep hb6'
    have t0 := hQ6.cell 0
    have t1 := hQ6.cell 1
    have t2 := hQ6.cell 2
    simp at t0 t1 t2
    have f0 := hQ6.free 0
    have f1 := hQ6.free 1
    have f2 := hQ6.free 2
    have HBf := Lib.hid (HB1.out.trans ((HW2.out.trans (hb6'.mono HW2.out.size)).mono HB1.out.size))
    unfold noV
    clear hb6 hb6' hQ6
    go_wp2
    refine bodyPost_ret (v := .tuple #[noV S n t, .int .i64 0]) ?h1 rfl ⟨by rw [HE.out], ?_⟩
    case h1 => simp [results, Try.results24, go_sem, noV, *]
    have HBB := HBf.out
    repeat (first | (with_reducible exact HBB) | (with_reducible refine below_set ?_ (by omega)))
  · have d1 : (e2 (nmB s) b n S t != 0) = true := by simpa using he
    have HE := Lib.hid (show noR (nmB s) b n S t = .tuple #[zPl, .int .i64 (e2 (nmB s) b n S t)] from if_neg he)
    clear he
    have hQ6 := HQ2.out
    have t0 := hQ6.cell 0
    have t1 := hQ6.cell 1
    have t2 := hQ6.cell 2
    simp at t0 t1 t2
    have f0 := hQ6.free 0
    have f1 := hQ6.free 1
    have f2 := hQ6.free 2
    have HBf := Lib.hid (HB1.out.trans (HW2.out.mono HB1.out.size))
    clear hQ6
    go_wp2
    refine bodyPost_ret (v := .tuple #[zPl, .int .i64 (e2 (nmB s) b n S t)]) ?h2 rfl ⟨by rw [HE.out], ?_⟩
    case h2 => simp [results, Try.results24, go_sem, zPl, *]
    have HBB := HBf.out
    repeat (first | (with_reducible exact HBB) | (with_reducible exact HBB.drew) | (with_reducible refine below_set ?_ (by omega)) | (with_reducible refine Below.drew ?_))
end Go.Proofs.Ytnaanninmkplfaa
