/- Contracts of package orbit: the side on which a place lies. -/
import Derived.Test.YtegmjanpeaibcaaOnq
import Derived.Test.YtegmjanpeaibcaaOps
namespace Go.Proofs.Ytegmjanpeaibcaa
open Go.RowKit
set_option maxHeartbeats 1600000
set_option maxRecDepth 100000

theorem checkArc_any (s : ByteArray) (b : Int) (A : Option Addr) (n c : Nat) (a : Int) (w : World) (hm : n ≤ maxLen) :
    Calls Try.prog 74 #[.agg #[.string s, .int .i64 b, .slice A n c], .int .i64 a] w fun e w' => e = .returned (.int .i64 (eif (!inB a 0 ((n : Int) - 2)) 6)) ∧ Below w.heap.size w w' := by
  have u1 : IntKind.i64.wrap ((n : Int) - 2) = (n : Int) - 2 := IntWalk.i64_in _ (by unfold maxLen at hm; omega)
  go_enter Try.func74, Try.ntmps74
  go_wp2_with (first
    | (go_at_call 103; refine (within_any _ _ _ _).mono ?_; rintro e w' ⟨rfl, rfl⟩)
    | (go_at_call 68; refine (errorIf_any _ _ _).mono ?_; rintro e w' ⟨rfl, rfl⟩))
  go_ret
  exact ⟨rfl, below_new (Below.refl _ w) (Nat.le_refl _)⟩

def eA (nm : Bool) (b : Int) (n : Nat) (S : Nat → Nat → Int) (a p1 p2 p3 : Int) : Int := fe (l3 (oce nm b n S).2 (eif (!inB a 0 ((n : Int) - 2)) 6) (pe p1 p2 p3)) 3
theorem eif_zero {q : Bool} {x : Int} (h : eif (!q) x = 0) (hx : x ≠ 0) : q = true := by
  cases q with
  | true => rfl
  | false => exact absurd h (by simpa [eif] using hx)
theorem eA_zero {nm : Bool} {b : Int} {n : Nat} {S : Nat → Nat → Int} {a p1 p2 p3 : Int} (h : eA nm b n S a p1 p2 p3 = 0) :
    nm = true ∧ Right S n b ∧ (0 ≤ a ∧ a ≤ (n : Int) - 2) ∧ (-100000000 ≤ p1 ∧ p1 ≤ 100000000) ∧ (-100000000 ≤ p2 ∧ p2 ≤ 100000000) ∧ (-100000000 ≤ p3 ∧ p3 ≤ 100000000) := by
  unfold eA at h
  rw [fe_three] at h
  split at h
  · rename_i h0
    split at h
    · rename_i h1
      exact ⟨(oce_zero h0).1, (oce_zero h0).2, inB_iff.1 (eif_zero h1 (by decide)), pe_zero h⟩
    · contradiction
  · contradiction
def turnV (S : Nat → Nat → Int) (k : Nat) (p1 p2 : Int) : Int := (S (k + 1) 1 - S k 1) * (p2 - S k 2) - (S (k + 1) 2 - S k 2) * (p1 - S k 1)
def sideQ (q : Int) : Int := if 0 < q then 1 else if q < 0 then 2 else 0
def sdR (nm : Bool) (b : Int) (n : Nat) (S : Nat → Nat → Int) (a p1 p2 p3 : Int) : Value :=
  if eA nm b n S a p1 p2 p3 = 0 then .tuple #[.int .i64 (sideQ (turnV S a.toNat p1 p2)), .int .i64 0] else .tuple #[.int .i64 0, .int .i64 (eA nm b n S a p1 p2 p3)]
theorem prod_small {a b : Int} (ha : -200000000 ≤ a ∧ a ≤ 200000000) (hb : -200000000 ≤ b ∧ b ≤ 200000000) : -40000000000000000 ≤ a * b ∧ a * b ≤ 40000000000000000 := by
  have h := Int.natAbs_mul a b
  have h1 : a.natAbs ≤ 200000000 := by omega
  have h2 : b.natAbs ≤ 200000000 := by omega
  have h3 : a.natAbs * b.natAbs ≤ 200000000 * 200000000 := Nat.mul_le_mul h1 h2
  rw [← h] at h3
  omega
theorem side_nums {x1 x2 y1 y2 p1 p2 : Int} (h1 : Sm x1) (h2 : Sm x2) (h3 : Sm y1) (h4 : Sm y2) (h5 : Sm p1) (h6 : Sm p2) :
    IntKind.i64.wrap (y1 - x1) = y1 - x1 ∧ IntKind.i64.wrap (y2 - x2) = y2 - x2 ∧ IntKind.i64.wrap (p1 - x1) = p1 - x1 ∧ IntKind.i64.wrap (p2 - x2) = p2 - x2 ∧
    IntKind.i64.wrap ((y1 - x1) * (p2 - x2)) = (y1 - x1) * (p2 - x2) ∧ IntKind.i64.wrap ((y2 - x2) * (p1 - x1)) = (y2 - x2) * (p1 - x1) ∧
    IntKind.i64.wrap ((y1 - x1) * (p2 - x2) - (y2 - x2) * (p1 - x1)) = (y1 - x1) * (p2 - x2) - (y2 - x2) * (p1 - x1) := by
  unfold Sm at *
  have q1 := prod_small (a := y1 - x1) (b := p2 - x2) (by omega) (by omega)
  have q2 := prod_small (a := y2 - x2) (b := p1 - x1) (by omega) (by omega)
  refine ⟨IntWalk.i64_in _ (by omega), IntWalk.i64_in _ (by omega), IntWalk.i64_in _ (by omega), IntWalk.i64_in _ (by omega), IntWalk.i64_in _ (by omega), IntWalk.i64_in _ (by omega), IntWalk.i64_in _ (by omega)⟩

theorem difference_eq (a1 a2 a3 b1 b2 b3 : Int) (w : World) (ha : Sm a1 ∧ Sm a2 ∧ Sm a3) (hb : Sm b1 ∧ Sm b2 ∧ Sm b3) :
    Calls Try.prog 75 #[.agg #[.int .i64 a1, .int .i64 a2, .int .i64 a3], .agg #[.int .i64 b1, .int .i64 b2, .int .i64 b3]] w fun e w' =>
      e = .returned (.agg #[.int .i64 (a1 - b1), .int .i64 (a2 - b2), .int .i64 (a3 - b3)]) ∧ ((w.alloc (.cells #[.int .i64 a1, .int .i64 a2, .int .i64 a3] 42)).alloc (.cells #[.int .i64 b1, .int .i64 b2, .int .i64 b3] 42)).alloc (.cells #[.int .i64 (a1 - b1), .int .i64 (a2 - b2), .int .i64 (a3 - b3)] 84) = w' := by
  unfold Sm at ha hb
  have w1 : IntKind.i64.wrap (a1 - b1) = a1 - b1 := IntWalk.i64_in _ (by omega)
  have w2 : IntKind.i64.wrap (a2 - b2) = a2 - b2 := IntWalk.i64_in _ (by omega)
  have w3 : IntKind.i64.wrap (a3 - b3) = a3 - b3 := IntWalk.i64_in _ (by omega)
  go_enter Try.func75, Try.ntmps75
  go_wp2
  refine bodyPost_ret (v := .agg #[.int .i64 (a1 - b1), .int .i64 (a2 - b2), .int .i64 (a3 - b3)]) ?h1 rfl ⟨rfl, ?_⟩
  case h1 => simp [results, Try.results75, go_sem, *]
  rfl

theorem sideOf_any (s : ByteArray) (b : Int) (A : Option Addr) (n c : Nat) (S : Nat → Nat → Int) (a p1 p2 p3 : Int) (w : World) (hS : St w A n S) (hs : s.size ≤ maxLen) (hn : n ≤ c) (hc : c ≤ maxLen) :
    Calls Try.prog 35 #[.agg #[.string s, .int .i64 b, .slice A n c], .int .i64 a, .agg #[.int .i64 p1, .int .i64 p2, .int .i64 p3]] w fun e w' => e = .returned (sdR (nmB s) b n S a p1 p2 p3) ∧ Below w.heap.size w w' := by
  have HS := Lib.hid hS
  have H1 := Lib.hid hs
  have HN := Lib.hid hn
  have HC := Lib.hid hc
  clear hS hs hn hc
  go_enter Try.func35, Try.ntmps35
  go_wp2_with fail
  have hA : At (((w.alloc (.cells #[.string s, .int .i64 b, .slice A n c] 24)).alloc (.cells #[.int .i64 p1, .int .i64 p2, .int .i64 p3] 42)).alloc (.cells #[.string s, .int .i64 b, .slice A n c] 124)) (w.heap.size + 1 + 1) 124 #[.string s, .int .i64 b, .slice A n c] := at_new (by simp)
  have hL : At (((w.alloc (.cells #[.string s, .int .i64 b, .slice A n c] 24)).alloc (.cells #[.int .i64 p1, .int .i64 p2, .int .i64 p3] 42)).alloc (.cells #[.string s, .int .i64 b, .slice A n c] 124)) (w.heap.size + 1) 42 #[.int .i64 p1, .int .i64 p2, .int .i64 p3] := (at_new (by simp)).alloc _
  have hb1 : Below w.heap.size w (((w.alloc (.cells #[.string s, .int .i64 b, .slice A n c] 24)).alloc (.cells #[.int .i64 p1, .int .i64 p2, .int .i64 p3] 42)).alloc (.cells #[.string s, .int .i64 b, .slice A n c] 124)) := by
    repeat (first | (with_reducible exact Below.refl _ _) | (with_reducible refine below_new ?_ (by first | omega | (simp; done) | (simp; omega))))
  generalize hW1 : (((w.alloc (.cells #[.string s, .int .i64 b, .slice A n c] 24)).alloc (.cells #[.int .i64 p1, .int .i64 p2, .int .i64 p3] 42)).alloc (.cells #[.string s, .int .i64 b, .slice A n c] 124)) = W1 at hA hL hb1 ⊢
  clear hW1
  have hS1 := HS.out.below hb1
  have hSS : ∀ w', Below W1.heap.size W1 w' → w'.cell? ⟨w.heap.size + 1 + 1, 0, none⟩ = some (.string s) ∧ w'.cell? ⟨w.heap.size + 1 + 1, 1, none⟩ = some (.int .i64 b) ∧ w'.cell? ⟨w.heap.size + 1 + 1, 2, none⟩ = some (.slice A n c) ∧ w'.cell? ⟨w.heap.size + 1, 0, none⟩ = some (.int .i64 p1) ∧ w'.cell? ⟨w.heap.size + 1, 1, none⟩ = some (.int .i64 p2) ∧ w'.cell? ⟨w.heap.size + 1, 2, none⟩ = some (.int .i64 p3) := fun w' hW => by
    have q := hA.keep hW
    have r := hL.keep hW
    exact ⟨q.cell 0, q.cell 1, q.cell 2, r.cell 0, r.cell 1, r.cell 2⟩
  have hP1 : ∀ W : World, Below W1.heap.size W1 W → Calls Try.prog 73 #[.agg #[.string s, .int .i64 b, .slice A n c]] W fun e w' => e = .returned (.int .i64 ((oce (nmB s) b n S).2)) ∧ Below W1.heap.size W1 w' ∧ w'.cell? ⟨w.heap.size + 1 + 1, 0, none⟩ = some (.string s) ∧ w'.cell? ⟨w.heap.size + 1 + 1, 1, none⟩ = some (.int .i64 b) ∧ w'.cell? ⟨w.heap.size + 1 + 1, 2, none⟩ = some (.slice A n c) ∧ w'.cell? ⟨w.heap.size + 1, 0, none⟩ = some (.int .i64 p1) ∧ w'.cell? ⟨w.heap.size + 1, 1, none⟩ = some (.int .i64 p2) ∧ w'.cell? ⟨w.heap.size + 1, 2, none⟩ = some (.int .i64 p3) := by
    intro W hW
    refine (check_any s b A n c S W (hS1.below hW) H1.out HN.out HC.out).mono ?_
    rintro e w' ⟨rfl, hb⟩
    have hB := hW.trans (hb.mono hW.size)
    exact ⟨rfl, hB, hSS _ hB⟩
  have hP2 : ∀ W : World, Below W1.heap.size W1 W → Calls Try.prog 74 #[.agg #[.string s, .int .i64 b, .slice A n c], .int .i64 a] W fun e w' => e = .returned (.int .i64 (eif (!inB a 0 ((n : Int) - 2)) 6)) ∧ Below W1.heap.size W1 w' ∧ w'.cell? ⟨w.heap.size + 1 + 1, 0, none⟩ = some (.string s) ∧ w'.cell? ⟨w.heap.size + 1 + 1, 1, none⟩ = some (.int .i64 b) ∧ w'.cell? ⟨w.heap.size + 1 + 1, 2, none⟩ = some (.slice A n c) ∧ w'.cell? ⟨w.heap.size + 1, 0, none⟩ = some (.int .i64 p1) ∧ w'.cell? ⟨w.heap.size + 1, 1, none⟩ = some (.int .i64 p2) ∧ w'.cell? ⟨w.heap.size + 1, 2, none⟩ = some (.int .i64 p3) := by
    intro W hW
    refine (checkArc_any s b A n c a W (Nat.le_trans HN.out HC.out)).mono ?_
    rintro e w' ⟨rfl, hb⟩
    have hB := hW.trans (hb.mono hW.size)
    exact ⟨rfl, hB, hSS _ hB⟩
  have hP3 : ∀ W : World, Below W1.heap.size W1 W → Calls Try.prog 89 #[.agg #[.int .i64 p1, .int .i64 p2, .int .i64 p3]] W fun e w' => e = .returned (.int .i64 (pe p1 p2 p3)) ∧ Below W1.heap.size W1 w' ∧ w'.cell? ⟨w.heap.size + 1 + 1, 0, none⟩ = some (.string s) ∧ w'.cell? ⟨w.heap.size + 1 + 1, 1, none⟩ = some (.int .i64 b) ∧ w'.cell? ⟨w.heap.size + 1 + 1, 2, none⟩ = some (.slice A n c) ∧ w'.cell? ⟨w.heap.size + 1, 0, none⟩ = some (.int .i64 p1) ∧ w'.cell? ⟨w.heap.size + 1, 1, none⟩ = some (.int .i64 p2) ∧ w'.cell? ⟨w.heap.size + 1, 2, none⟩ = some (.int .i64 p3) := by
    intro W hW
    refine (checkPlace_any p1 p2 p3 W).mono ?_
    rintro e w' ⟨rfl, hb⟩
    have hB := hW.trans (hb.mono hW.size)
    exact ⟨rfl, hB, hSS _ hB⟩
  obtain ⟨s0, s1, s2, s3, s4, s5⟩ := hSS W1 (Below.refl _ _)
  have HP1 := Lib.hid hP1
  have HP2 := Lib.hid hP2
  have HP3 := Lib.hid hP3
  have HB1 := Lib.hid hb1
  have HA := Lib.hid hA
  have HL := Lib.hid hL
  have HS1 := Lib.hid hS1
  clear hP1 hP2 hP3 hb1 hA hL hS1 hSS
  go_region_held3 (fun w' => w'.cell? ⟨w.heap.size + 1 + 1, 0, none⟩ = some (.string s) ∧ w'.cell? ⟨w.heap.size + 1 + 1, 1, none⟩ = some (.int .i64 b) ∧ w'.cell? ⟨w.heap.size + 1 + 1, 2, none⟩ = some (.slice A n c) ∧ w'.cell? ⟨w.heap.size + 1, 0, none⟩ = some (.int .i64 p1) ∧ w'.cell? ⟨w.heap.size + 1, 1, none⟩ = some (.int .i64 p2) ∧ w'.cell? ⟨w.heap.size + 1, 2, none⟩ = some (.int .i64 p3)) (go_keep)
    (first
      | (go_at_call 73; (with_reducible refine (HP1.out _ ?_).mono ?_); (repeat (first | assumption | (with_reducible exact Below.refl _ _) | (with_reducible refine Below.drew ?_) | (with_reducible refine below_drewNs ?_))); rintro e w4 ⟨rfl, hb4, hs0, hs1, hs2, hs3, hs4, hs5⟩)
      | (go_at_call 74; (with_reducible refine (HP2.out _ ?_).mono ?_); (repeat (first | assumption | (with_reducible exact Below.refl _ _) | (with_reducible refine Below.drew ?_) | (with_reducible refine below_drewNs ?_))); rintro e w5 ⟨rfl, hb5, ht0, ht1, ht2, ht3, ht4, ht5⟩)
      | (go_at_call 89; (with_reducible refine (HP3.out _ ?_).mono ?_); (repeat (first | assumption | (with_reducible exact Below.refl _ _) | (with_reducible refine Below.drew ?_) | (with_reducible refine below_drewNs ?_))); rintro e w6 ⟨rfl, hb6, hu0, hu1, hu2, hu3, hu4, hu5⟩)
      | (go_at_call 67; (with_reducible refine (firstError_any _ 3 3 (l3 _ _ _) _ (sl_new (by simp) (get_l3 _ _ _)) (by omega)).mono ?_); rintro e w' ⟨rfl, rfl⟩)
      | (go_at_call 67; (with_reducible refine (firstError_any _ 3 3 (l3 _ _ _) _ (sl_newd (by simp) (get_l3 _ _ _)) (by omega)).mono ?_); rintro e w' ⟨rfl, rfl⟩))
  rw [show fe (l3 (oce (nmB s) b n S).2 (eif (!inB a 0 ((n : Int) - 2)) 6) (pe p1 p2 p3)) 3 = eA (nmB s) b n S a p1 p2 p3 from rfl]
  have hw : Below W1.heap.size W1 (w6.alloc (.cells #[.int .i64 (oce (nmB s) b n S).2, .int .i64 (eif (!inB a 0 ((n : Int) - 2)) 6), .int .i64 (pe p1 p2 p3)] 27)) := below_new hb6 hb6.size
  generalize hW2 : w6.alloc (.cells #[.int .i64 (oce (nmB s) b n S).2, .int .i64 (eif (!inB a 0 ((n : Int) - 2)) 6), .int .i64 (pe p1 p2 p3)] 27) = W2 at hw ⊢
  clear hW2 hb6 hu0 hu1 hu2 hu3 hu4 hu5 s0 s1 s2 s3 s4 s5
  have HBf := Lib.hid (HB1.out.trans (hw.mono HB1.out.size))
  have HA2 := Lib.hid (HA.out.keep hw)
  have HL2 := Lib.hid (HL.out.keep hw)
  have HST := Lib.hid (HS1.out.below hw)
  clear hw HP1 HP2 HP3 HA HL HS1 HB1 HS
  by_cases he : eA (nmB s) b n S a p1 p2 p3 = 0
  · have d1 : (eA (nmB s) b n S a p1 p2 p3 != 0) = false := by rw [he]; rfl
    have HE := Lib.hid (show sdR (nmB s) b n S a p1 p2 p3 = .tuple #[.int .i64 (sideQ (turnV S a.toNat p1 p2)), .int .i64 0] from if_pos he)
    obtain ⟨hnm, hR, ha, hp⟩ := eA_zero he
    obtain ⟨k, rfl⟩ : ∃ k : Nat, a = (k : Int) := ⟨a.toNat, by omega⟩
    have hk : k + 1 < n := by omega
    have x1s : Sm (S k 1) := (hR.st (j := k) (by omega) (c := 1) (by omega)).1
    have x2s : Sm (S k 2) := (hR.st (j := k) (by omega) (c := 2) (by omega)).1
    have x3s : Sm (S k 3) := (hR.st (j := k) (by omega) (c := 3) (by omega)).1
    have y1s : Sm (S (k + 1) 1) := (hR.st (j := k + 1) hk (c := 1) (by omega)).1
    have y2s : Sm (S (k + 1) 2) := (hR.st (j := k + 1) hk (c := 2) (by omega)).1
    have y3s : Sm (S (k + 1) 3) := (hR.st (j := k + 1) hk (c := 3) (by omega)).1
    obtain ⟨bk, off, rfl, hbk, hc5⟩ := HST.out.at (by omega)
    obtain ⟨_, r1, r2, r3, _⟩ := hc5 k (by omega)
    obtain ⟨_, q1, q2, q3, _⟩ := hc5 (k + 1) hk
    have htv : turnV S (k : Int).toNat p1 p2 = (S (k + 1) 1 - S k 1) * (p2 - S k 2) - (S (k + 1) 2 - S k 2) * (p1 - S k 1) := rfl
    rw [htv] at HE
    generalize S (k + 1) 1 = y1 at *
    generalize S (k + 1) 2 = y2 at *
    generalize S (k + 1) 3 = y3 at *
    generalize S k 1 = x1 at *
    generalize S k 2 = x2 at *
    generalize S k 3 = x3 at *
    obtain ⟨v1, v2, v3, v4, v5, v6, v7⟩ := side_nums x1s x2s y1s y2s hp.1 hp.2.1
    have HD1 : Hid (∀ W : World, _) := fun W => difference_eq y1 y2 y3 x1 x2 x3 W ⟨y1s, y2s, y3s⟩ ⟨x1s, x2s, x3s⟩
    have HD2 : Hid (∀ W : World, _) := fun W => difference_eq p1 p2 p3 x1 x2 x3 W hp ⟨x1s, x2s, x3s⟩
    have hA3 := HA2.out.alloc (.cells #[.int .i64 x1, .int .i64 x2, .int .i64 x3] 42)
    have hL3 := HL2.out.alloc (.cells #[.int .i64 x1, .int .i64 x2, .int .i64 x3] 42)
    have hX3 := At.new W2 42 #[.int .i64 x1, .int .i64 x2, .int .i64 x3]
    have hB3 := below_new HBf.out HBf.out.size (o := .cells #[.int .i64 x1, .int .i64 x2, .int .i64 x3] 42)
    have hcell : ∀ o v, W2.cell? ⟨bk, o, none⟩ = some v → (W2.alloc (.cells #[.int .i64 x1, .int .i64 x2, .int .i64 x3] 42)).cell? ⟨bk, o, none⟩ = some v := fun o v h => ((below_new (Below.refl _ W2) (Nat.le_refl _)).cell (p := ⟨bk, o, none⟩) hbk).trans h
    have m1 := hcell _ _ q1
    have m2 := hcell _ _ q2
    have m3 := hcell _ _ q3
    have s2 := HA2.out.cell 2
    simp at s2
    have u0 : (0 : Int) ≤ (k : Int) := by omega
    have u1 : (k : Int) < (n : Int) := by omega
    have u2 : (k : Int) + 1 < (n : Int) := by omega
    have u3 : (0 : Int) ≤ (k : Int) + 1 := by omega
    have u4 : ((k : Int) + 1).toNat = k + 1 := by omega
    have hm := Nat.le_trans HN.out HC.out
    have u5 : IntKind.i64.wrap ((k : Int) + 1) = (k : Int) + 1 := IntWalk.i64_in _ (by unfold maxLen at hm; omega)
    have HV7 := Lib.hid v7
    clear hm hcell q1 q2 q3 x1s x2s x3s y1s y2s y3s hp hnm hR he htv ha hk v7
    go_upto_region 6 with fail
    generalize hW3 : W2.alloc (.cells #[.int .i64 x1, .int .i64 x2, .int .i64 x3] 42) = W3 at hA3 hL3 hX3 hB3 m1 m2 m3 ⊢
    have hz : W2.heap.size < W3.heap.size := hX3.lt
    clear hW3 s2 r1 r2 r3
    have HSS : Hid (∀ w', Below W3.heap.size W3 w' → w'.cell? ⟨w.heap.size + 1 + 1, 2, none⟩ = some (.slice (some ⟨bk, off, none⟩) n c) ∧ w'.cell? ⟨bk, off + (k + 1) * 5 + 1, none⟩ = some (.int .i64 y1) ∧ w'.cell? ⟨bk, off + (k + 1) * 5 + 2, none⟩ = some (.int .i64 y2) ∧ w'.cell? ⟨bk, off + (k + 1) * 5 + 3, none⟩ = some (.int .i64 y3) ∧ w'.cell? ⟨W2.heap.size, 0, none⟩ = some (.int .i64 x1) ∧ w'.cell? ⟨W2.heap.size, 1, none⟩ = some (.int .i64 x2) ∧ w'.cell? ⟨W2.heap.size, 2, none⟩ = some (.int .i64 x3) ∧ w'.cell? ⟨w.heap.size + 1, 0, none⟩ = some (.int .i64 p1) ∧ w'.cell? ⟨w.heap.size + 1, 1, none⟩ = some (.int .i64 p2) ∧ w'.cell? ⟨w.heap.size + 1, 2, none⟩ = some (.int .i64 p3)) := fun w' hW => by
      have qa := hA3.keep hW
      have qx := hX3.keep hW
      have ql := hL3.keep hW
      have q (o : Nat) (v : Value) (h : W3.cell? ⟨bk, o, none⟩ = some v) : w'.cell? ⟨bk, o, none⟩ = some v := (hW.cell (p := ⟨bk, o, none⟩) (by show bk < W3.heap.size; omega)).trans h
      exact ⟨qa.cell 2, q _ _ m1, q _ _ m2, q _ _ m3, qx.cell 0, qx.cell 1, qx.cell 2, ql.cell 0, ql.cell 1, ql.cell 2⟩
    obtain ⟨s0, s1, s2, s3, s4, s5, s6, s7, s8, s9⟩ := HSS.out W3 (Below.refl _ _)
    have HB3 := Lib.hid hB3
    clear hA3 hL3 hX3 hB3 m1 m2 m3
    go_cut [11, 12] (fun s11 s12 wx => ∃ g11 g12 : Nat, s11 = .pointer (some ⟨g11, 0, none⟩) ∧ s12 = .pointer (some ⟨g12, 0, none⟩) ∧ V3 wx g11 (y1 - x1) (y2 - x2) (y3 - x3) ∧ V3 wx g12 (p1 - x1) (p2 - x2) (p3 - x3) ∧ Below W3.heap.size W3 wx)
    case first =>
      go_region_held3 (fun w' => w'.cell? ⟨w.heap.size + 1 + 1, 2, none⟩ = some (.slice (some ⟨bk, off, none⟩) n c) ∧ w'.cell? ⟨bk, off + (k + 1) * 5 + 1, none⟩ = some (.int .i64 y1) ∧ w'.cell? ⟨bk, off + (k + 1) * 5 + 2, none⟩ = some (.int .i64 y2) ∧ w'.cell? ⟨bk, off + (k + 1) * 5 + 3, none⟩ = some (.int .i64 y3) ∧ w'.cell? ⟨W2.heap.size, 0, none⟩ = some (.int .i64 x1) ∧ w'.cell? ⟨W2.heap.size, 1, none⟩ = some (.int .i64 x2) ∧ w'.cell? ⟨W2.heap.size, 2, none⟩ = some (.int .i64 x3) ∧ w'.cell? ⟨w.heap.size + 1, 0, none⟩ = some (.int .i64 p1) ∧ w'.cell? ⟨w.heap.size + 1, 1, none⟩ = some (.int .i64 p2) ∧ w'.cell? ⟨w.heap.size + 1, 2, none⟩ = some (.int .i64 p3)) (first | (refine HSS.out _ ?_; (repeat (first | (with_reducible exact Below.refl _ _) | (with_reducible refine Below.drew ?_) | (with_reducible refine below_drewNs ?_) | (with_reducible refine below_set ?_ (by first | omega | (simp; omega))) | (with_reducible refine below_new ?_ (by first | omega | (simp; done) | (simp; omega))))); done) | go_keep)
        (first
          | (go_at_call 75; (with_reducible refine (HD1.out _).mono ?_); rintro e w' ⟨rfl, rfl⟩)
          | (go_at_call 75; (with_reducible refine (HD2.out _).mono ?_); rintro e w' ⟨rfl, rfl⟩))
      all_goals
        go_wp2_with fail
        go_meet
        refine ⟨_, _, rfl, rfl, v3_drew ?_, v3_drew ?_, ?_⟩
        · repeat (first | ((refine v3_new ?_); simp; done) | refine v3_alloc ?_)
        · repeat (first | ((refine v3_new ?_); simp; done) | refine v3_alloc ?_)
        · repeat (first | (with_reducible exact Below.refl _ _) | (with_reducible refine Below.drew ?_) | (with_reducible refine below_new ?_ (by first | omega | (simp; done) | (simp; omega))))
    case rest =>
      obtain ⟨g11, g12, rfl, rfl, hv1, hv2, hbx⟩ := hcut
      obtain ⟨z1, z2, z3⟩ := hv1
      obtain ⟨z4, z5, z6⟩ := hv2
      have HBx := Lib.hid (HB3.out.trans (hbx.mono HB3.out.size))
      clear hbx HSS HD1 HD2 s0 s1 s2 s3 s4 s5 s6 s7 s8 s9
      obtain ⟨q, hq⟩ : ∃ q, q = (y1 - x1) * (p2 - x2) - (y2 - x2) * (p1 - x1) := ⟨_, rfl⟩
      have v7 : IntKind.i64.wrap ((y1 - x1) * (p2 - x2) - (y2 - x2) * (p1 - x1)) = q := HV7.out.trans hq.symm
      rw [← hq] at HE
      clear hq HV7
      rcases Int.lt_trichotomy q 0 with g | g | g
      · have d2 : ¬ 0 < q := by omega
        have hsd : sideQ q = 2 := by unfold sideQ; rw [if_neg d2, if_pos g]
        rw [hsd] at HE
        go_wp2
        go_ret2
        refine ⟨?_, HBx.out⟩
        rw [HE.out]
        rfl
      · have d2 : ¬ 0 < q := by omega
        have d3 : ¬ q < 0 := by omega
        have hsd : sideQ q = 0 := by unfold sideQ; rw [if_neg d2, if_neg d3]
        rw [hsd] at HE
        go_wp2
        go_ret2
        refine ⟨?_, HBx.out⟩
        rw [HE.out]
        rfl
      · have hsd : sideQ q = 1 := by unfold sideQ; rw [if_pos g]
        rw [hsd] at HE
        go_wp2
        go_ret2
        refine ⟨?_, HBx.out⟩
        rw [HE.out]
        rfl
  · have d1 : (eA (nmB s) b n S a p1 p2 p3 != 0) = true := by simpa using he
    have HE := Lib.hid (show sdR (nmB s) b n S a p1 p2 p3 = .tuple #[.int .i64 0, .int .i64 (eA (nmB s) b n S a p1 p2 p3)] from if_neg he)
    clear he
    go_wp2
    go_ret2
    refine ⟨?_, HBf.out⟩
    rw [HE.out]
    rfl
end Go.Proofs.Ytegmjanpeaibcaa
