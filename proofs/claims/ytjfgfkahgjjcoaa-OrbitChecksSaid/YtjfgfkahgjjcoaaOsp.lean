/- Contract of package orbit: the speed of an arc. -/
import Derived.Test.YtjfgfkahgjjcoaaOsd
import Derived.Test.YtjfgfkahgjjcoaaOlw
import Derived.Test.YtjfgfkahgjjcoaaOsu
import Derived.Test.YtjfgfkahgjjcoaaOpt
namespace Go.Proofs.Ytjfgfkahgjjcoaa
open Go.RowKit
set_option maxHeartbeats 1600000
set_option maxRecDepth 100000

def eV (nm : Bool) (b : Int) (n : Nat) (S : Nat → Nat → Int) (a : Int) : Int := fe (l2 (oce nm b n S).2 (eif (!inB a 0 ((n : Int) - 2)) 6)) 2
theorem eV_zero {nm : Bool} {b : Int} {n : Nat} {S : Nat → Nat → Int} {a : Int} (h : eV nm b n S a = 0) : nm = true ∧ Right S n b ∧ (0 ≤ a ∧ a ≤ (n : Int) - 2) := by
  unfold eV at h
  rw [fe_two] at h
  split at h
  · rename_i h0
    exact ⟨(oce_zero h0).1, (oce_zero h0).2, inB_iff.1 (eif_zero h (by decide))⟩
  · contradiction
/-- numerator, denominator of one side's speed -/
def nuF (z d1 d2 d3 : Int) (k : Nat) : Int := (nth d1 d2 d3 k).tdiv (gcdI (nth d1 d2 d3 k) z)
def deF (z d1 d2 d3 : Int) (k : Nat) : Int := z.tdiv (gcdI (nth d1 d2 d3 k) z)
def spA (z d1 d2 d3 : Int) : Value := .agg #[.int .i64 (nuF z d1 d2 d3 0), .int .i64 (deF z d1 d2 d3 0), .int .i64 (nuF z d1 d2 d3 1), .int .i64 (deF z d1 d2 d3 1), .int .i64 (nuF z d1 d2 d3 2), .int .i64 (deF z d1 d2 d3 2)]
def spV (S : Nat → Nat → Int) (k : Nat) : Value := spA (S (k + 1) 0 - S k 0) (S (k + 1) 1 - S k 1) (S (k + 1) 2 - S k 2) (S (k + 1) 3 - S k 3)
def spR (nm : Bool) (b : Int) (n : Nat) (S : Nat → Nat → Int) (a : Int) : Value :=
  if eV nm b n S a = 0 then .tuple #[spV S a.toNat, .int .i64 0] else .tuple #[.agg #[.int .i64 0, .int .i64 0, .int .i64 0, .int .i64 0, .int .i64 0, .int .i64 0], .int .i64 (eV nm b n S a)]

theorem speedOf_any (s : ByteArray) (b : Int) (A : Option Addr) (n c : Nat) (S : Nat → Nat → Int) (a : Int) (w : World) (hS : St w A n S) (hs : s.size ≤ maxLen) (hn : n ≤ c) (hc : c ≤ maxLen) :
    Calls Try.prog 19 #[.agg #[.string s, .int .i64 b, .slice A n c], .int .i64 a] w fun e w' => e = .returned (spR (nmB s) b n S a) ∧ Below w.heap.size w w' := by
  have HS := Lib.hid hS
  have H1 := Lib.hid hs
  have HN := Lib.hid hn
  have HC := Lib.hid hc
  clear hS hs hn hc
  go_enter Try.func19, Try.ntmps19
  go_wp2_with fail
  have hA : At (((w.alloc (.cells #[.string s, .int .i64 b, .slice A n c] 24)).alloc (.cells #[.int .i64 0, .int .i64 0, .int .i64 0, .int .i64 0, .int .i64 0, .int .i64 0] 33)).alloc (.cells #[.string s, .int .i64 b, .slice A n c] 124)) (w.heap.size + 1 + 1) 124 #[.string s, .int .i64 b, .slice A n c] := at_new (by simp)
  have hL : At (((w.alloc (.cells #[.string s, .int .i64 b, .slice A n c] 24)).alloc (.cells #[.int .i64 0, .int .i64 0, .int .i64 0, .int .i64 0, .int .i64 0, .int .i64 0] 33)).alloc (.cells #[.string s, .int .i64 b, .slice A n c] 124)) (w.heap.size + 1) 33 #[.int .i64 0, .int .i64 0, .int .i64 0, .int .i64 0, .int .i64 0, .int .i64 0] := (at_new (by simp)).alloc _
  have hb1 : Below w.heap.size w (((w.alloc (.cells #[.string s, .int .i64 b, .slice A n c] 24)).alloc (.cells #[.int .i64 0, .int .i64 0, .int .i64 0, .int .i64 0, .int .i64 0, .int .i64 0] 33)).alloc (.cells #[.string s, .int .i64 b, .slice A n c] 124)) := by
    repeat (first | (with_reducible exact Below.refl _ _) | (with_reducible refine below_new ?_ (by first | omega | (simp; done) | (simp; omega))))
  generalize hW1 : (((w.alloc (.cells #[.string s, .int .i64 b, .slice A n c] 24)).alloc (.cells #[.int .i64 0, .int .i64 0, .int .i64 0, .int .i64 0, .int .i64 0, .int .i64 0] 33)).alloc (.cells #[.string s, .int .i64 b, .slice A n c] 124)) = W1 at hA hL hb1 ⊢
  clear hW1
  have hS1 := HS.out.below hb1
  have hSS : ∀ w', Below W1.heap.size W1 w' → w'.cell? ⟨w.heap.size + 1 + 1, 0, none⟩ = some (.string s) ∧ w'.cell? ⟨w.heap.size + 1 + 1, 1, none⟩ = some (.int .i64 b) ∧ w'.cell? ⟨w.heap.size + 1 + 1, 2, none⟩ = some (.slice A n c) := fun w' hW => by
    have q := hA.keep hW
    exact ⟨q.cell 0, q.cell 1, q.cell 2⟩
  have hP1 : ∀ W : World, Below W1.heap.size W1 W → Calls Try.prog 73 #[.agg #[.string s, .int .i64 b, .slice A n c]] W fun e w' => e = .returned (.int .i64 ((oce (nmB s) b n S).2)) ∧ Below W1.heap.size W1 w' ∧ w'.cell? ⟨w.heap.size + 1 + 1, 0, none⟩ = some (.string s) ∧ w'.cell? ⟨w.heap.size + 1 + 1, 1, none⟩ = some (.int .i64 b) ∧ w'.cell? ⟨w.heap.size + 1 + 1, 2, none⟩ = some (.slice A n c) := by
    intro W hW
    refine (check_any s b A n c S W (hS1.below hW) H1.out HN.out HC.out).mono ?_
    rintro e w' ⟨rfl, hb⟩
    have hB := hW.trans (hb.mono hW.size)
    exact ⟨rfl, hB, hSS _ hB⟩
  have hP2 : ∀ W : World, Below W1.heap.size W1 W → Calls Try.prog 74 #[.agg #[.string s, .int .i64 b, .slice A n c], .int .i64 a] W fun e w' => e = .returned (.int .i64 (eif (!inB a 0 ((n : Int) - 2)) 6)) ∧ Below W1.heap.size W1 w' ∧ w'.cell? ⟨w.heap.size + 1 + 1, 0, none⟩ = some (.string s) ∧ w'.cell? ⟨w.heap.size + 1 + 1, 1, none⟩ = some (.int .i64 b) ∧ w'.cell? ⟨w.heap.size + 1 + 1, 2, none⟩ = some (.slice A n c) := by
    intro W hW
    refine (checkArc_any s b A n c a W (Nat.le_trans HN.out HC.out)).mono ?_
    rintro e w' ⟨rfl, hb⟩
    have hB := hW.trans (hb.mono hW.size)
    exact ⟨rfl, hB, hSS _ hB⟩
  obtain ⟨s0, s1, s2⟩ := hSS W1 (Below.refl _ _)
  have HP1 := Lib.hid hP1
  have HP2 := Lib.hid hP2
  have HB1 := Lib.hid hb1
  have HA := Lib.hid hA
  have HL := Lib.hid hL
  have HS1 := Lib.hid hS1
  clear hP1 hP2 hb1 hA hL hS1 hSS
  go_region_held3 (fun w' => w'.cell? ⟨w.heap.size + 1 + 1, 0, none⟩ = some (.string s) ∧ w'.cell? ⟨w.heap.size + 1 + 1, 1, none⟩ = some (.int .i64 b) ∧ w'.cell? ⟨w.heap.size + 1 + 1, 2, none⟩ = some (.slice A n c)) (go_keep)
    (first
      | (go_at_call 73; (with_reducible refine (HP1.out _ ?_).mono ?_); (repeat (first | assumption | (with_reducible exact Below.refl _ _) | (with_reducible refine Below.drew ?_) | (with_reducible refine below_drewNs ?_))); rintro e w4 ⟨rfl, hb4, hs0, hs1, hs2⟩)
      | (go_at_call 74; (with_reducible refine (HP2.out _ ?_).mono ?_); (repeat (first | assumption | (with_reducible exact Below.refl _ _) | (with_reducible refine Below.drew ?_) | (with_reducible refine below_drewNs ?_))); rintro e w6 ⟨rfl, hb6, hu0, hu1, hu2⟩)
      | (go_at_call 67; (with_reducible refine (firstError_any _ 2 2 (l2 _ _) _ (sl_new (by simp) (get_l2 _ _)) (by omega)).mono ?_); rintro e w' ⟨rfl, rfl⟩)
      | (go_at_call 67; (with_reducible refine (firstError_any _ 2 2 (l2 _ _) _ (sl_newd (by simp) (get_l2 _ _)) (by omega)).mono ?_); rintro e w' ⟨rfl, rfl⟩))
  rw [show fe (l2 (oce (nmB s) b n S).2 (eif (!inB a 0 ((n : Int) - 2)) 6)) 2 = eV (nmB s) b n S a from rfl]
  have hw : Below W1.heap.size W1 (w6.alloc (.cells #[.int .i64 (oce (nmB s) b n S).2, .int .i64 (eif (!inB a 0 ((n : Int) - 2)) 6)] 27)) := below_new hb6 hb6.size
  generalize hW2 : w6.alloc (.cells #[.int .i64 (oce (nmB s) b n S).2, .int .i64 (eif (!inB a 0 ((n : Int) - 2)) 6)] 27) = W2 at hw ⊢
  clear hW2 hb6 hu0 hu1 hu2 s0 s1 s2
  have HBf := Lib.hid (HB1.out.trans (hw.mono HB1.out.size))
  have HA2 := Lib.hid (HA.out.keep hw)
  have HL2 := Lib.hid (HL.out.keep hw)
  have HST := Lib.hid (HS1.out.below hw)
  clear hw HP1 HP2 HA HL HS1 HB1 HS
  by_cases he : eV (nmB s) b n S a = 0
  · have d1 : (eV (nmB s) b n S a != 0) = false := by rw [he]; rfl
    have HE := Lib.hid (show spR (nmB s) b n S a = .tuple #[spV S a.toNat, .int .i64 0] from if_pos he)
    obtain ⟨hnm, hR, ha⟩ := eV_zero he
    obtain ⟨k, rfl⟩ : ∃ k : Nat, a = (k : Int) := ⟨a.toNat, by omega⟩
    have hk : k + 1 < n := by omega
    have x1s : Sm (S k 1) := (hR.st (j := k) (by omega) (c := 1) (by omega)).1
    have x2s : Sm (S k 2) := (hR.st (j := k) (by omega) (c := 2) (by omega)).1
    have x3s : Sm (S k 3) := (hR.st (j := k) (by omega) (c := 3) (by omega)).1
    have y1s : Sm (S (k + 1) 1) := (hR.st (j := k + 1) hk (c := 1) (by omega)).1
    have y2s : Sm (S (k + 1) 2) := (hR.st (j := k + 1) hk (c := 2) (by omega)).1
    have y3s : Sm (S (k + 1) 3) := (hR.st (j := k + 1) hk (c := 3) (by omega)).1
    have hspn := hR.spn hk
    unfold spn at hspn
    have x0s := (hR.2.2.2.1 k (by omega)).1
    have y0s := (hR.2.2.2.1 (k + 1) hk).1
    obtain ⟨bk, off, rfl, hbk, hc5⟩ := HST.out.at (by omega)
    obtain ⟨r0, r1, r2, r3, r4⟩ := hc5 k (by omega)
    obtain ⟨q0, q1, q2, q3, q4⟩ := hc5 (k + 1) hk
    have htv : spV S (k : Int).toNat = spA (S (k + 1) 0 - S k 0) (S (k + 1) 1 - S k 1) (S (k + 1) 2 - S k 2) (S (k + 1) 3 - S k 3) := rfl
    rw [htv] at HE
    generalize S (k + 1) 0 = y0 at *
    generalize S (k + 1) 1 = y1 at *
    generalize S (k + 1) 2 = y2 at *
    generalize S (k + 1) 3 = y3 at *
    generalize S (k + 1) 4 = y4 at *
    generalize S k 0 = x0 at *
    generalize S k 1 = x1 at *
    generalize S k 2 = x2 at *
    generalize S k 3 = x3 at *
    generalize S k 4 = x4 at *
    have HD1 : Hid (∀ W : World, _) := fun W => difference_eq y1 y2 y3 x1 x2 x3 W ⟨y1s, y2s, y3s⟩ ⟨x1s, x2s, x3s⟩
    have hdd : ∀ k, k < 3 → -4611686018427387904 ≤ nth (y1 - x1) (y2 - x2) (y3 - x3) k ∧ nth (y1 - x1) (y2 - x2) (y3 - x3) k ≤ 4611686018427387904 := fun k hk => by
      unfold Sm at *
      match k, hk with
      | 0, _ => show _ ≤ y1 - x1 ∧ y1 - x1 ≤ _; omega
      | 1, _ => show _ ≤ y2 - x2 ∧ y2 - x2 ≤ _; omega
      | 2, _ => show _ ≤ y3 - x3 ∧ y3 - x3 ≤ _; omega
    have HDD := Lib.hid hdd
    have s2 := HA2.out.cell 2
    simp at s2
    have u0 : (0 : Int) ≤ (k : Int) := by omega
    have u1 : (k : Int) < (n : Int) := by omega
    have u2 : (k : Int) + 1 < (n : Int) := by omega
    have u3 : (0 : Int) ≤ (k : Int) + 1 := by omega
    have u4 : ((k : Int) + 1).toNat = k + 1 := by omega
    have hm := Nat.le_trans HN.out HC.out
    have u5 : IntKind.i64.wrap ((k : Int) + 1) = (k : Int) + 1 := IntWalk.i64_in _ (by unfold maxLen at hm; omega)
    have hzb : bk < W2.heap.size := hbk
    have v0 : IntKind.i64.wrap (y0 - x0) = y0 - x0 := IntWalk.i64_in _ (by omega)
    have hz1 : 0 < y0 - x0 ∧ y0 - x0 ≤ 4611686018427387904 := by omega
    have HZ1 := Lib.hid hz1
    clear hz1 hm x1s x2s x3s y1s y2s y3s hnm hR he htv ha hk hc5 hdd hspn x0s y0s hbk
    go_upto_region 5 with fail
    have HSS : Hid (∀ w', Below W2.heap.size W2 w' → w'.cell? ⟨w.heap.size + 1 + 1, 2, none⟩ = some (.slice (some ⟨bk, off, none⟩) n c) ∧ w'.cell? ⟨bk, off + k * 5, none⟩ = some (.int .i64 x0) ∧ w'.cell? ⟨bk, off + k * 5 + 1, none⟩ = some (.int .i64 x1) ∧ w'.cell? ⟨bk, off + k * 5 + 2, none⟩ = some (.int .i64 x2) ∧ w'.cell? ⟨bk, off + k * 5 + 3, none⟩ = some (.int .i64 x3) ∧ w'.cell? ⟨bk, off + k * 5 + 4, none⟩ = some (.int .i64 x4) ∧ w'.cell? ⟨bk, off + (k + 1) * 5, none⟩ = some (.int .i64 y0) ∧ w'.cell? ⟨bk, off + (k + 1) * 5 + 1, none⟩ = some (.int .i64 y1) ∧ w'.cell? ⟨bk, off + (k + 1) * 5 + 2, none⟩ = some (.int .i64 y2) ∧ w'.cell? ⟨bk, off + (k + 1) * 5 + 3, none⟩ = some (.int .i64 y3) ∧ w'.cell? ⟨bk, off + (k + 1) * 5 + 4, none⟩ = some (.int .i64 y4)) := fun w' hW => by
      have qa := HA2.out.keep hW
      have q (o : Nat) (v : Value) (h : W2.cell? ⟨bk, o, none⟩ = some v) : w'.cell? ⟨bk, o, none⟩ = some v := (hW.cell (p := ⟨bk, o, none⟩) hzb).trans h
      exact ⟨qa.cell 2, q _ _ r0, q _ _ r1, q _ _ r2, q _ _ r3, q _ _ r4, q _ _ q0, q _ _ q1, q _ _ q2, q _ _ q3, q _ _ q4⟩
    go_cut [8, 9] (fun s8 s9 wx => ∃ g8 g9 : Nat, s8 = .pointer (some ⟨g8, 0, none⟩) ∧ s9 = .pointer (some ⟨g9, 0, none⟩) ∧ At wx g8 56 #[.int .i64 x0, .int .i64 x1, .int .i64 x2, .int .i64 x3, .int .i64 x4] ∧ At wx g9 56 #[.int .i64 y0, .int .i64 y1, .int .i64 y2, .int .i64 y3, .int .i64 y4] ∧ Below W2.heap.size W2 wx)
    case first =>
      go_region_held3 (fun w' => w'.cell? ⟨w.heap.size + 1 + 1, 2, none⟩ = some (.slice (some ⟨bk, off, none⟩) n c) ∧ w'.cell? ⟨bk, off + k * 5, none⟩ = some (.int .i64 x0) ∧ w'.cell? ⟨bk, off + k * 5 + 1, none⟩ = some (.int .i64 x1) ∧ w'.cell? ⟨bk, off + k * 5 + 2, none⟩ = some (.int .i64 x2) ∧ w'.cell? ⟨bk, off + k * 5 + 3, none⟩ = some (.int .i64 x3) ∧ w'.cell? ⟨bk, off + k * 5 + 4, none⟩ = some (.int .i64 x4) ∧ w'.cell? ⟨bk, off + (k + 1) * 5, none⟩ = some (.int .i64 y0) ∧ w'.cell? ⟨bk, off + (k + 1) * 5 + 1, none⟩ = some (.int .i64 y1) ∧ w'.cell? ⟨bk, off + (k + 1) * 5 + 2, none⟩ = some (.int .i64 y2) ∧ w'.cell? ⟨bk, off + (k + 1) * 5 + 3, none⟩ = some (.int .i64 y3) ∧ w'.cell? ⟨bk, off + (k + 1) * 5 + 4, none⟩ = some (.int .i64 y4)) (first | (refine HSS.out _ ?_; (repeat (first | (with_reducible exact Below.refl _ _) | (with_reducible refine Below.drew ?_) | (with_reducible refine below_drewNs ?_) | (with_reducible refine below_set ?_ (by first | omega | (simp; omega))) | (with_reducible refine below_new ?_ (by first | omega | (simp; done) | (simp; omega))))); done) | go_keep) (fail)
      all_goals
        go_wp2_with fail
        go_meet
        refine ⟨_, _, rfl, rfl, ?_, ?_, ?_⟩
        · (repeat (first | (with_reducible assumption) | (with_reducible refine at_drew ?_) | ((with_reducible refine at_new ?_); first | omega | (simp; done)) | (with_reducible refine At.alloc ?_ _) | ((with_reducible refine at_farB ?_ ?_); rotate_left; (focus first | omega | (simp; omega)))))
        · (repeat (first | (with_reducible assumption) | (with_reducible refine at_drew ?_) | ((with_reducible refine at_new ?_); first | omega | (simp; done)) | (with_reducible refine At.alloc ?_ _) | ((with_reducible refine at_farB ?_ ?_); rotate_left; (focus first | omega | (simp; omega)))))
        · (repeat (first | (with_reducible assumption) | (with_reducible exact Below.refl _ _) | (with_reducible refine Below.drew ?_) | (with_reducible refine below_drewNs ?_) | (with_reducible refine below_set ?_ (by first | omega | (simp; omega))) | (with_reducible refine below_new ?_ (by first | omega | (simp; done) | (simp; omega)))))
    case rest =>
      obtain ⟨g8, g9, rfl, rfl, hX, hY, hbx⟩ := hcut
      have hX1 := hX.alloc (.cells #[.int .i64 0, .int .i64 0, .int .i64 0, .int .i64 0, .int .i64 0, .int .i64 0] 33)
      have hY1 := hY.alloc (.cells #[.int .i64 0, .int .i64 0, .int .i64 0, .int .i64 0, .int .i64 0, .int .i64 0] 33)
      have hL1 := (HL2.out.keep hbx).alloc (.cells #[.int .i64 0, .int .i64 0, .int .i64 0, .int .i64 0, .int .i64 0, .int .i64 0] 33)
      have hO1 := At.new wc 33 #[.int .i64 0, .int .i64 0, .int .i64 0, .int .i64 0, .int .i64 0, .int .i64 0]
      have hB0 := HBf.out.trans (hbx.mono HBf.out.size)
      have hB1 := below_new hB0 hB0.size (o := .cells #[.int .i64 0, .int .i64 0, .int .i64 0, .int .i64 0, .int .i64 0, .int .i64 0] 33)
      have hlx : g8 < wc.heap.size ∧ g9 < wc.heap.size := ⟨hX.lt, hY.lt⟩
      have hlr : w.heap.size + 1 < wc.heap.size := (HL2.out.keep hbx).lt
      have hlw : w.heap.size ≤ wc.heap.size := by omega
      have z1 := hX1.cell 1
      have z2 := hX1.cell 2
      have z3 := hX1.cell 3
      have z4 := hY1.cell 1
      have z5 := hY1.cell 2
      have z6 := hY1.cell 3
      simp at z1 z2 z3 z4 z5 z6
      have HX1 := Lib.hid hX1
      have HY1 := Lib.hid hY1
      have HL1 := Lib.hid hL1
      have HO1 := Lib.hid hO1
      have HBB := Lib.hid hB1
      clear hbx HSS s2 r0 r1 r2 r3 r4 q0 q1 q2 q3 q4 hX hY hX1 hY1 hL1 hO1 hB1 hB0
      go_wp2_with fail
      generalize hW3 : wc.alloc (.cells #[.int .i64 0, .int .i64 0, .int .i64 0, .int .i64 0, .int .i64 0, .int .i64 0] 33) = W3 at HX1 HY1 HL1 HO1 HBB z1 z2 z3 z4 z5 z6 ⊢
      refine (HD1.out W3).mono ?_
      rintro e w5 ⟨rfl, hw5⟩
      have hb5 : Below W3.heap.size W3 w5 := by
        rw [← hw5]
        repeat (first | (with_reducible exact Below.refl _ _) | (with_reducible refine below_new ?_ (by first | omega | (simp; done) | (simp; omega))))
      have HX5 := Lib.hid (HX1.out.keep hb5)
      have HY5 := Lib.hid (HY1.out.keep hb5)
      have HL5 := Lib.hid (HL1.out.keep hb5)
      have HO5 := Lib.hid (HO1.out.keep hb5)
      have HB5 := Lib.hid (HBB.out.trans (hb5.mono HBB.out.size))
      clear hW3 hw5 hb5 z1 z2 z3 z4 z5 z6 HX1 HY1 HL1 HO1 HBB HD1
      go_wp2_with fail
      go_loopw [44] (fun i wr => ∃ k : Nat, k ≤ 3 ∧ i = .int .i64 (k : Int) ∧ At wr wc.heap.size 33 (bc (nuF (y0 - x0) (y1 - x1) (y2 - x2) (y3 - x3)) (deF (y0 - x0) (y1 - x1) (y2 - x2) (y3 - x3)) k) ∧ Below wc.heap.size w5 wr) (fun i _ => 3 - (intOf i).toNat)
      case atStart => exact ⟨0, by omega, rfl, HO5.out, Below.refl _ _⟩
      case round =>
        obtain ⟨kk, hkk, rfl, hAr, hwr⟩ := hrel
        have HAR := Lib.hid hAr
        have HWR := Lib.hid hwr
        by_cases hlt : kk < 3
        · have hx : At wr g8 56 #[.int .i64 x0, .int .i64 x1, .int .i64 x2, .int .i64 x3, .int .i64 x4] := (hwr.block g8 hlx.1).trans HX5.out
          have hy : At wr g9 56 #[.int .i64 y0, .int .i64 y1, .int .i64 y2, .int .i64 y3, .int .i64 y4] := (hwr.block g9 hlx.2).trans HY5.out
          have z0 := hx.cell 0
          have z1 := hy.cell 0
          simp at z0 z1
          have hidx := fun w => idx3 (y1 - x1) (y2 - x2) (y3 - x3) kk hlt w
          have HLW : Hid (∀ W : World, Calls Try.prog 76 #[.int .i64 (nth (y1 - x1) (y2 - x2) (y3 - x3) kk), .int .i64 (y0 - x0)] W fun e w' => e = .returned (.agg #[.int .i64 (nuF (y0 - x0) (y1 - x1) (y2 - x2) (y3 - x3) kk), .int .i64 (deF (y0 - x0) (y1 - x1) (y2 - x2) (y3 - x3) kk)]) ∧ Below W.heap.size W w') := fun W => lowest_any _ _ W (HDD.out kk hlt) HZ1.out.1 HZ1.out.2
          have hzk : wc.heap.size < wr.heap.size := hAr.lt
          have k0 : (0 : Int) ≤ (kk : Int) := by omega
          have k3 : (kk : Int) < 3 := by omega
          clear hAr hwr hx hy
          go_wp2_with fail
          refine (HLW.out wr).mono ?_
          rintro e w7 ⟨rfl, hb7⟩
          have hA7 := HAR.out.keep hb7
          have e3 := (hA7.cell (kk * 2)).trans (bc_get _ _ hlt).1
          have e3' := (hA7.cell (kk * 2 + 1)).trans (bc_get _ _ hlt).2
          have e4 := hA7.free (kk * 2)
          have e4' := hA7.free (kk * 2 + 1)
          have HA7 := Lib.hid hA7
          have HB7 := Lib.hid (HWR.out.trans (hb7.mono (Nat.le_of_lt hzk)))
          clear hb7 hA7 z0 z1
          go_wp2
          go_roundw
          case rel =>
            refine ⟨kk + 1, by omega, by go_num, ?_, below_set (below_set HB7.out (by omega)) (by omega)⟩
            rw [← bc_put _ _ hlt]
            exact (HA7.out.put (kk * 2) _).put (kk * 2 + 1) _
          case measure => simp [intOf]; omega
        · obtain rfl : kk = 3 := by omega
          have ho2 : At wr wc.heap.size 33 #[.int .i64 (nuF (y0 - x0) (y1 - x1) (y2 - x2) (y3 - x3) 0), .int .i64 (deF (y0 - x0) (y1 - x1) (y2 - x2) (y3 - x3) 0), .int .i64 (nuF (y0 - x0) (y1 - x1) (y2 - x2) (y3 - x3) 1), .int .i64 (deF (y0 - x0) (y1 - x1) (y2 - x2) (y3 - x3) 1), .int .i64 (nuF (y0 - x0) (y1 - x1) (y2 - x2) (y3 - x3) 2), .int .i64 (deF (y0 - x0) (y1 - x1) (y2 - x2) (y3 - x3) 2)] := hAr
          have e0 := ho2.cell 0
          have e1 := ho2.cell 1
          have e2 := ho2.cell 2
          have e3 := ho2.cell 3
          have e4 := ho2.cell 4
          have e5 := ho2.cell 5
          simp at e0 e1 e2 e3 e4 e5
          have hl : At wr (w.heap.size + 1) 33 #[.int .i64 0, .int .i64 0, .int .i64 0, .int .i64 0, .int .i64 0, .int .i64 0] := (hwr.block (w.heap.size + 1) hlr).trans HL5.out
          have t0 := hl.cell 0
          have t1 := hl.cell 1
          have t2 := hl.cell 2
          have t3 := hl.cell 3
          have t4 := hl.cell 4
          have t5 := hl.cell 5
          simp at t0 t1 t2 t3 t4 t5
          have f0 := hl.free 0
          have f1 := hl.free 1
          have f2 := hl.free 2
          have f3 := hl.free 3
          have f4 := hl.free 4
          have f5 := hl.free 5
          have HBZ := Lib.hid (HB5.out.trans (hwr.mono hlw))
          unfold spA at HE
          clear hAr hwr ho2 hl
          go_wp2
          refine bodyPost_ret (v := .tuple #[.agg #[.int .i64 (nuF (y0 - x0) (y1 - x1) (y2 - x2) (y3 - x3) 0), .int .i64 (deF (y0 - x0) (y1 - x1) (y2 - x2) (y3 - x3) 0), .int .i64 (nuF (y0 - x0) (y1 - x1) (y2 - x2) (y3 - x3) 1), .int .i64 (deF (y0 - x0) (y1 - x1) (y2 - x2) (y3 - x3) 1), .int .i64 (nuF (y0 - x0) (y1 - x1) (y2 - x2) (y3 - x3) 2), .int .i64 (deF (y0 - x0) (y1 - x1) (y2 - x2) (y3 - x3) 2)], .int .i64 0]) ?h1 rfl ⟨by rw [HE.out], ?_⟩
          case h1 => simp [results, Try.results19, go_sem, *]
          have hbf := HBZ.out
          repeat (first | (with_reducible exact hbf) | (with_reducible refine Below.drew ?_) | (with_reducible refine below_set ?_ (by omega)))
  · have d1 : (eV (nmB s) b n S a != 0) = true := by simpa using he
    have HE := Lib.hid (show spR (nmB s) b n S a = .tuple #[.agg #[.int .i64 0, .int .i64 0, .int .i64 0, .int .i64 0, .int .i64 0, .int .i64 0], .int .i64 (eV (nmB s) b n S a)] from if_neg he)
    clear he
    have hl := HL2.out
    have y0 := hl.cell 0
    have y1 := hl.cell 1
    have y2 := hl.cell 2
    have y3 := hl.cell 3
    have y4 := hl.cell 4
    have y5 := hl.cell 5
    simp at y0 y1 y2 y3 y4 y5
    have f0 := hl.free 0
    have f1 := hl.free 1
    have f2 := hl.free 2
    have f3 := hl.free 3
    have f4 := hl.free 4
    have f5 := hl.free 5
    clear hl
    go_wp2
    refine bodyPost_ret (v := .tuple #[.agg #[.int .i64 0, .int .i64 0, .int .i64 0, .int .i64 0, .int .i64 0, .int .i64 0], .int .i64 (eV (nmB s) b n S a)]) ?h1 rfl ⟨by rw [HE.out], ?_⟩
    case h1 => simp [results, Try.results19, go_sem, *]
    have hbf := HBf.out
    repeat (first | (with_reducible exact hbf) | (with_reducible refine Below.drew ?_) | (with_reducible refine below_set ?_ (by omega)))
end Go.Proofs.Ytjfgfkahgjjcoaa
