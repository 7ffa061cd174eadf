/- The law: the cost of turns, or the errors, are as specified; the same number more for all nodes changes nothing. -/
import Derived.Test.YtmglofemnobakaaUvk
import Derived.Test.YtmglofemnobakaaEvu
import Derived.Test.YtmglofemnobakaaGar
import Derived.Test.YtmglofemnobakaaSyq
namespace Go.Proofs.Ytmglofemnobakaa
open Go.RowKit
set_option maxHeartbeats 4000000
set_option maxRecDepth 100000
set_option linter.unusedSimpArgs false
set_option linter.unusedVariables false

theorem row_congr {w : World} {A : Option Addr} {n : Nat} {F G : Int → Int} (h : RowR w A n F) (hF : ∀ j : Nat, j < n → F (j : Int) = G (j : Int)) : RowR w A n G := fun hn => by
  obtain ⟨b, off, e, hl, hc⟩ := h hn
  exact ⟨b, off, e, hl, fun j hj => by rw [← hF j hj]; exact hc j hj⟩
theorem exc_more {S : Nat → Nat → Int} {t : Nat → Int} {more : Int} (k : Nat) : exc S (fun i => t i + more) k = exc S t k := by
  unfold exc
  show t (flat4 S ((k : Int) * 4 + 1)).toNat + more - (t (flat4 S ((k : Int) * 4)).toNat + more) + _ = t (flat4 S ((k : Int) * 4 + 1)).toNat - t (flat4 S ((k : Int) * 4)).toNat + _
  omega
theorem cost_more {S : Nat → Nat → Int} {t : Nat → Int} {more : Int} : ∀ k, cost S (fun i => t i + more) k = cost S t k
  | 0 => rfl
  | k + 1 => by simp only [cost, exc_more, cost_more k]
theorem ct_more {N : Int} {n m : Nat} {S : Nat → Nat → Int} {t : Nat → Int} {more : Int} (hc : (cnR N n S).2 = 0) (hr : (rtR N n S m t).2 = 0) (hb : ∀ j, j < m → -1000000 ≤ t j + more ∧ t j + more ≤ 1000000) : ctR N n S m (fun i => t i + more) = ctR N n S m t := by
  unfold ctR
  rw [if_pos hc, if_pos hc]
  unfold rtR at hr ⊢
  split at hr
  · rename_i hm
    split at hr
    · rename_i ht
      have h2 : (trR m fun i => t i + more).2 = 0 := by
        rw [tr_none (fun j hj => by
          have := hb j hj
          show tcode (t (j : Int).toNat + more) = 0
          unfold tcode
          rw [if_pos (by simpa using this)])]
      rw [if_pos hm, if_pos hm, if_pos ht, if_pos h2, cost_more]
    · rename_i ht
      exact absurd hr ht
  · exact absurd hr (by decide)
theorem rt_tr {N : Int} {n m : Nat} {S : Nat → Nat → Int} {t : Nat → Int} (h : (rtR N n S m t).2 = 0) : (trR m t).2 = 0 := by
  unfold rtR at h
  split at h
  · split at h
    · assumption
    · exact h
  · exact absurd h (by decide)
def ntB (v : Nat) (z1 : Bool) : List AV := [.agg [.int .i64 0, .row 0 1 4 z1], .row 50 v 1 false]
theorem ntB_open [Rho] {N : Int} {v n m : Nat} {S : Nat → Nat → Int} {F : Int → Int} {xs : Array Value} {W : World} {z1 : Bool} (ha : Rho.a 0 = flat4 S) (hb : Rho.a 50 = F) (h0 : Rho.i 0 = N) (h1 : Rho.i 1 = (n : Int)) (h2 : Rho.i v = (m : Int)) (hx : AValL W (ntB v z1) xs.toList) :
    ∃ A B c d, xs = #[.agg #[.int .i64 N, .slice A n c], .slice B m d] ∧ RowR W A (n * 4) (flat4 S) ∧ RowR W B m F ∧ n ≤ c ∧ m ≤ d := by
  obtain ⟨v0, vs0, e0, r0, hx⟩ := aval_cons hx
  obtain ⟨v1, vs1, rfl, r1, hx⟩ := aval_cons hx
  obtain rfl := aval_nil hx
  obtain ⟨cs, rfl, s0⟩ := aval_agg r0
  obtain ⟨u0, us0, q0, r2, s0⟩ := aval_cons s0
  obtain ⟨u1, us1, rfl, r3, s0⟩ := aval_cons s0
  obtain rfl := aval_nil s0
  obtain rfl := aval_int r2 h0
  obtain ⟨A, c, rfl, y1, y2⟩ := aval_row r3 h1 ha
  obtain ⟨B, d, rfl, y3, y4⟩ := aval_row r1 h2 hb
  have hcs : cs = #[.int .i64 N, .slice A n c] := Array.toList_inj.1 q0
  refine ⟨A, B, c, d, Array.toList_inj.1 (by rw [e0, hcs]), y2, by simpa using y4, y1, y3⟩
noncomputable def ctK2 (v l : Nat) (z1 : Bool) : Know := viewK 8 (ntB l z1) (twoR v)
theorem ctK2_ok [Rho] {v l : Nat} {N : Int} {n m : Nat} {S : Nat → Nat → Int} {t : Nat → Int} {F : Int → Int} {z1 : Bool} (ha : Rho.a 0 = flat4 S) (hb : Rho.a 50 = F) (h0 : Rho.i 0 = N) (h1 : Rho.i 1 = (n : Int)) (h2 : Rho.i l = (m : Int)) (hF : ∀ j : Nat, j < m → F (j : Int) = t j) (g1 : z1 = true → Rho.i 1 = 0) (h3 : Rho.i v = (ctR N n S m t).1) (h4 : Rho.i (v + 1) = (ctR N n S m t).2) (hN : I64 N) (hn : n ≤ 9223372036854775807) (hm : m ≤ 1000000) : KOk Try.prog (ctK2 v l z1) :=
  viewK_ok (by simp only [ntB, AZL, AZ, and_true, true_and]; exact ⟨g1, fun h => by cases h⟩) fun xs W hx hf => by
  obtain ⟨A, B, c, d, rfl, y1, y2, y3, y4⟩ := ntB_open ha hb h0 h1 h2 hx
  refine (checkTurns_any N A B n c m d S t W y1 (row_congr y2 fun j hj => by rw [hF j hj]; rfl) hN y3 y4 hn hm).mono ?_
  rintro e w' ⟨rfl, hb⟩
  exact ⟨two_ints h3 h4, hb⟩


def lut1_a : RA := { tmps := [[(.agg [(.si .i64 (.var 0)), (.fsl 0 4 (.lit (0)) (.var 1))]), (.fsl 1 1 (.lit (0)) (.var 2)), (.si .i64 (.var 3)), (.ptr 0 0), (.pl (.tuple #[])), (.pl (.tuple #[])), (.pl (.bool false)), (.si .i64 (.var 4))], [(.si .i64 (.var 5)), (.si .i64 (.var 8)), (.si .i64 (.var 7)), (.pl (.slice none 0 0)), (.pl (.int .i64 (0))), (.pl (.tuple #[])), (.pl (.tuple #[])), (.pl (.bool true))], [(.pl (.bool false)), (.agg [(.si .i64 (.var 0)), (.fsl 0 4 (.lit (0)) (.var 1))]), (.sb (.bvar 0)), (.sb (.not (.bvar 0))), (.sb (.not (.bvar 0))), (.fsl 1 1 (.lit (0)) (.var 2)), (.si .i64 (.var 2)), (.sb (.not (.le (.var 2) (.lit (210)))))], [(.sb (.not (.le (.var 2) (.lit (210))))), (.tup [(.si .i64 (.var 4)), (.si .i64 (.var 5))]), (.agg [(.si .i64 (.var 0)), (.fsl 0 4 (.lit (0)) (.var 1))]), (.agg [(.si .i64 (.var 0)), (.slc 3 0 0 (some 0))]), (.fsl 1 1 (.lit (0)) (.var 2)), (.slc 4 0 0 (some 0)), (.tup [(.si .i64 (.var 4)), (.si .i64 (.var 5))]), (.si .i64 (.var 4))], [(.si .i64 (.var 5)), (.agg [(.si .i64 (.var 0)), (.fsl 0 4 (.lit (0)) (.var 1))]), (.si .i64 (.var 6)), (.si .i64 (.var 6)), (.sb (.eq (.var 6) (.lit (0)))), (.tup [(.si .i64 (.var 7)), (.si .i64 (.var 8))]), (.agg [(.si .i64 (.var 0)), (.fsl 0 4 (.lit (0)) (.var 1))]), (.fsl 1 1 (.lit (0)) (.var 2))], [(.tup [(.si .i64 (.var 7)), (.si .i64 (.var 8))]), (.si .i64 (.var 7)), (.si .i64 (.var 8)), (.si .i64 (.var 5)), (.si .i64 (.var 8)), (.sb (.not (.eq (.var 5) (.var 8)))), (.sb (.not (.eq (.var 5) (.var 8)))), (.si .i64 (.var 4))], [(.si .i64 (.var 7)), (.sb (.not (.eq (.var 4) (.var 7)))), (.sb (.not (.eq (.var 4) (.var 7)))), (.si .i64 (.var 8)), (.sb (.not (.eq (.var 8) (.lit (0))))), (.sb (.not (.eq (.var 8) (.lit (0))))), (.si .i64 (.var 3)), (.sb (.le (.var 3) (.lit (100))))], [(.sb (.not (.le (.var 3) (.lit (100))))), (.sb (.not (.le (.var 3) (.lit (100))))), (.pl (.tuple #[])), (.pl (.tuple #[])), (.pl (.tuple #[])), (.pl (.tuple #[])), (.pl (.tuple #[])), (.pl (.tuple #[]))], [(.pl (.tuple #[])), (.pl (.tuple #[])), (.pl (.tuple #[])), (.pl (.tuple #[])), (.pl (.tuple #[])), (.pl (.tuple #[])), (.pl (.tuple #[])), (.pl (.tuple #[]))], [(.pl (.tuple #[])), (.pl (.tuple #[])), (.pl (.tuple #[])), (.pl (.tuple #[])), (.pl (.tuple #[])), (.pl (.tuple #[])), (.pl (.tuple #[])), (.pl (.tuple #[]))], [(.pl (.tuple #[])), (.pl (.tuple #[])), (.pl (.tuple #[])), (.pl (.tuple #[])), (.pl (.tuple #[])), (.pl (.tuple #[])), (.pl (.tuple #[])), (.pl (.tuple #[]))], [(.pl (.tuple #[])), (.pl (.tuple #[])), (.pl (.tuple #[])), (.pl (.tuple #[])), (.pl (.tuple #[])), (.pl (.tuple #[])), (.pl (.tuple #[])), (.pl (.tuple #[]))]], sz := 95, dfs := [] }
def lut1_h : RH := { bl := [some (.cells [] 3 false), some (.cells [] 65 false), some (.cells [(.si .i64 (.var 0)), (.slc 3 0 0 (some 0))] 24 false), some (.cells [(.si .i64 (.var 0)), (.fsl 0 4 (.lit (0)) (.var 1))] 24 false), some (.cells [(.si .i64 (.var 0)), (.fsl 0 4 (.lit (0)) (.var 1))] 24 false)], n := 5, base := 0, ch := [] }
def lut1_1_a : RA := { tmps := [[(.agg [(.si .i64 (.var 0)), (.fsl 0 4 (.lit (0)) (.var 1))]), (.fsl 1 1 (.lit (0)) (.var 2)), (.si .i64 (.var 3)), (.ptr 0 0), (.pl (.tuple #[])), (.pl (.tuple #[])), (.pl (.bool false)), (.si .i64 (.var 4))], [(.si .i64 (.var 5)), (.si .i64 (.var 8)), (.si .i64 (.var 7)), (.osl 6 1 (.var 11)), (.si .i64 (.var 12)), (.pl (.tuple #[])), (.pl (.tuple #[])), (.pl (.bool true))], [(.pl (.bool false)), (.agg [(.si .i64 (.var 0)), (.fsl 0 4 (.lit (0)) (.var 1))]), (.sb (.bvar 0)), (.sb (.not (.bvar 0))), (.sb (.not (.bvar 0))), (.fsl 1 1 (.lit (0)) (.var 2)), (.si .i64 (.var 2)), (.sb (.not (.le (.var 2) (.lit (210)))))], [(.sb (.not (.le (.var 2) (.lit (210))))), (.tup [(.si .i64 (.var 4)), (.si .i64 (.var 5))]), (.agg [(.si .i64 (.var 0)), (.fsl 0 4 (.lit (0)) (.var 1))]), (.agg [(.si .i64 (.var 0)), (.slc 3 0 0 (some 0))]), (.fsl 1 1 (.lit (0)) (.var 2)), (.slc 4 0 0 (some 0)), (.tup [(.si .i64 (.var 4)), (.si .i64 (.var 5))]), (.si .i64 (.var 4))], [(.si .i64 (.var 5)), (.agg [(.si .i64 (.var 0)), (.fsl 0 4 (.lit (0)) (.var 1))]), (.si .i64 (.var 6)), (.si .i64 (.var 6)), (.sb (.eq (.var 6) (.lit (0)))), (.tup [(.si .i64 (.var 7)), (.si .i64 (.var 8))]), (.agg [(.si .i64 (.var 0)), (.fsl 0 4 (.lit (0)) (.var 1))]), (.fsl 1 1 (.lit (0)) (.var 2))], [(.tup [(.si .i64 (.var 7)), (.si .i64 (.var 8))]), (.si .i64 (.var 7)), (.si .i64 (.var 8)), (.si .i64 (.var 5)), (.si .i64 (.var 8)), (.sb (.not (.eq (.var 5) (.var 8)))), (.sb (.not (.eq (.var 5) (.var 8)))), (.si .i64 (.var 4))], [(.si .i64 (.var 7)), (.sb (.not (.eq (.var 4) (.var 7)))), (.sb (.not (.eq (.var 4) (.var 7)))), (.si .i64 (.var 8)), (.sb (.not (.eq (.var 8) (.lit (0))))), (.sb (.not (.eq (.var 8) (.lit (0))))), (.si .i64 (.var 3)), (.sb (.le (.var 3) (.lit (100))))], [(.sb (.not (.le (.var 3) (.lit (100))))), (.sb (.not (.le (.var 3) (.lit (100))))), .unk, .unk, .unk, .unk, .unk, .unk], [.unk, .unk, .unk, .unk, .unk, .unk, .unk, .unk], [.unk, .unk, .unk, .unk, .unk, .unk, .unk, .unk], [.unk, (.pl (.tuple #[])), (.pl (.tuple #[])), (.pl (.tuple #[])), (.pl (.tuple #[])), (.pl (.tuple #[])), (.pl (.tuple #[])), (.pl (.tuple #[]))], [(.pl (.tuple #[])), (.pl (.tuple #[])), (.pl (.tuple #[])), (.pl (.tuple #[])), (.pl (.tuple #[])), (.pl (.tuple #[])), (.pl (.tuple #[])), (.pl (.tuple #[]))]], sz := 95, dfs := [] }
def lut1_1_h : RH := { bl := [some (.row (.avar 50) (.var 11) 3 1), some (.cells [(.si .i64 (.add (.sel (.avar 1) (.lit (0))) (.var 3)))] 3 false), some (.cells [] 3 false), some (.cells [] 65 false), some (.cells [(.si .i64 (.var 0)), (.slc 3 0 0 (some 0))] 24 false), some (.cells [(.si .i64 (.var 0)), (.fsl 0 4 (.lit (0)) (.var 1))] 24 false), some (.cells [(.si .i64 (.var 0)), (.fsl 0 4 (.lit (0)) (.var 1))] 24 false)], n := 7, base := 0, ch := [] }
def lut2_a : RA := { tmps := [[(.agg [(.si .i64 (.var 0)), (.fsl 0 4 (.lit (0)) (.var 1))]), (.fsl 1 1 (.lit (0)) (.var 2)), (.si .i64 (.var 3)), (.ptr 0 0), (.pl (.tuple #[])), (.pl (.tuple #[])), (.pl (.bool false)), (.si .i64 (.var 4))], [(.si .i64 (.var 5)), (.si .i64 (.var 8)), (.si .i64 (.var 7)), (.pl (.slice none 0 0)), (.pl (.int .i64 (0))), (.pl (.tuple #[])), (.pl (.tuple #[])), (.pl (.bool true))], [(.pl (.bool false)), (.agg [(.si .i64 (.var 0)), (.fsl 0 4 (.lit (0)) (.var 1))]), (.sb (.bvar 0)), (.sb (.not (.bvar 0))), (.sb (.not (.bvar 0))), (.fsl 1 1 (.lit (0)) (.var 2)), (.si .i64 (.var 2)), (.sb (.not (.le (.var 2) (.lit (210)))))], [(.sb (.not (.le (.var 2) (.lit (210))))), (.tup [(.si .i64 (.var 4)), (.si .i64 (.var 5))]), (.agg [(.si .i64 (.var 0)), (.fsl 0 4 (.lit (0)) (.var 1))]), (.agg [(.si .i64 (.var 0)), (.slc 3 0 0 (some 0))]), (.fsl 1 1 (.lit (0)) (.var 2)), (.osl 5 1 (.var 2)), (.tup [(.si .i64 (.var 4)), (.si .i64 (.var 5))]), (.si .i64 (.var 4))], [(.si .i64 (.var 5)), (.agg [(.si .i64 (.var 0)), (.fsl 0 4 (.lit (0)) (.var 1))]), (.si .i64 (.var 6)), (.si .i64 (.var 6)), (.sb (.eq (.var 6) (.lit (0)))), (.tup [(.si .i64 (.var 7)), (.si .i64 (.var 8))]), (.agg [(.si .i64 (.var 0)), (.fsl 0 4 (.lit (0)) (.var 1))]), (.fsl 1 1 (.lit (0)) (.var 2))], [(.tup [(.si .i64 (.var 7)), (.si .i64 (.var 8))]), (.si .i64 (.var 7)), (.si .i64 (.var 8)), (.si .i64 (.var 5)), (.si .i64 (.var 8)), (.sb (.not (.eq (.var 5) (.var 8)))), (.sb (.not (.eq (.var 5) (.var 8)))), (.si .i64 (.var 4))], [(.si .i64 (.var 7)), (.sb (.not (.eq (.var 4) (.var 7)))), (.sb (.not (.eq (.var 4) (.var 7)))), (.si .i64 (.var 8)), (.sb (.not (.eq (.var 8) (.lit (0))))), (.sb (.not (.eq (.var 8) (.lit (0))))), (.si .i64 (.var 3)), (.sb (.le (.var 3) (.lit (100))))], [(.sb (.not (.le (.var 3) (.lit (100))))), (.sb (.not (.le (.var 3) (.lit (100))))), (.pl (.tuple #[])), (.pl (.tuple #[])), (.pl (.tuple #[])), (.pl (.tuple #[])), (.pl (.tuple #[])), (.pl (.tuple #[]))], [(.pl (.tuple #[])), (.pl (.tuple #[])), (.pl (.tuple #[])), (.pl (.tuple #[])), (.pl (.tuple #[])), (.pl (.tuple #[])), (.pl (.tuple #[])), (.pl (.tuple #[]))], [(.pl (.tuple #[])), (.pl (.tuple #[])), (.pl (.tuple #[])), (.pl (.tuple #[])), (.pl (.tuple #[])), (.pl (.tuple #[])), (.pl (.tuple #[])), (.pl (.tuple #[]))], [(.pl (.tuple #[])), (.pl (.tuple #[])), (.pl (.tuple #[])), (.pl (.tuple #[])), (.pl (.tuple #[])), (.pl (.tuple #[])), (.pl (.tuple #[])), (.pl (.tuple #[]))], [(.pl (.tuple #[])), (.pl (.tuple #[])), (.pl (.tuple #[])), (.pl (.tuple #[])), (.pl (.tuple #[])), (.pl (.tuple #[])), (.pl (.tuple #[])), (.pl (.tuple #[]))]], sz := 95, dfs := [] }
def lut2_h : RH := { bl := [some (.row (.avar 1) (.var 2) 3 1), some (.cells [] 3 false), some (.cells [] 65 false), some (.cells [(.si .i64 (.var 0)), (.slc 3 0 0 (some 0))] 24 false), some (.cells [(.si .i64 (.var 0)), (.fsl 0 4 (.lit (0)) (.var 1))] 24 false), some (.cells [(.si .i64 (.var 0)), (.fsl 0 4 (.lit (0)) (.var 1))] 24 false)], n := 6, base := 0, ch := [] }
def lut2_1_a : RA := { tmps := [[(.agg [(.si .i64 (.var 0)), (.fsl 0 4 (.lit (0)) (.var 1))]), (.fsl 1 1 (.lit (0)) (.var 2)), (.si .i64 (.var 3)), (.ptr 0 0), (.pl (.tuple #[])), (.pl (.tuple #[])), (.pl (.bool false)), (.si .i64 (.var 4))], [(.si .i64 (.var 5)), (.si .i64 (.var 8)), (.si .i64 (.var 7)), (.osl 7 1 (.var 11)), (.si .i64 (.var 12)), (.pl (.tuple #[])), (.pl (.tuple #[])), (.pl (.bool true))], [(.pl (.bool false)), (.agg [(.si .i64 (.var 0)), (.fsl 0 4 (.lit (0)) (.var 1))]), (.sb (.bvar 0)), (.sb (.not (.bvar 0))), (.sb (.not (.bvar 0))), (.fsl 1 1 (.lit (0)) (.var 2)), (.si .i64 (.var 2)), (.sb (.not (.le (.var 2) (.lit (210)))))], [(.sb (.not (.le (.var 2) (.lit (210))))), (.tup [(.si .i64 (.var 4)), (.si .i64 (.var 5))]), (.agg [(.si .i64 (.var 0)), (.fsl 0 4 (.lit (0)) (.var 1))]), (.agg [(.si .i64 (.var 0)), (.slc 3 0 0 (some 0))]), (.fsl 1 1 (.lit (0)) (.var 2)), (.osl 5 1 (.var 2)), (.tup [(.si .i64 (.var 4)), (.si .i64 (.var 5))]), (.si .i64 (.var 4))], [(.si .i64 (.var 5)), (.agg [(.si .i64 (.var 0)), (.fsl 0 4 (.lit (0)) (.var 1))]), (.si .i64 (.var 6)), (.si .i64 (.var 6)), (.sb (.eq (.var 6) (.lit (0)))), (.tup [(.si .i64 (.var 7)), (.si .i64 (.var 8))]), (.agg [(.si .i64 (.var 0)), (.fsl 0 4 (.lit (0)) (.var 1))]), (.fsl 1 1 (.lit (0)) (.var 2))], [(.tup [(.si .i64 (.var 7)), (.si .i64 (.var 8))]), (.si .i64 (.var 7)), (.si .i64 (.var 8)), (.si .i64 (.var 5)), (.si .i64 (.var 8)), (.sb (.not (.eq (.var 5) (.var 8)))), (.sb (.not (.eq (.var 5) (.var 8)))), (.si .i64 (.var 4))], [(.si .i64 (.var 7)), (.sb (.not (.eq (.var 4) (.var 7)))), (.sb (.not (.eq (.var 4) (.var 7)))), (.si .i64 (.var 8)), (.sb (.not (.eq (.var 8) (.lit (0))))), (.sb (.not (.eq (.var 8) (.lit (0))))), (.si .i64 (.var 3)), (.sb (.le (.var 3) (.lit (100))))], [(.sb (.not (.le (.var 3) (.lit (100))))), (.sb (.not (.le (.var 3) (.lit (100))))), .unk, .unk, .unk, .unk, .unk, .unk], [.unk, .unk, .unk, .unk, .unk, .unk, .unk, .unk], [.unk, .unk, .unk, .unk, .unk, .unk, .unk, .unk], [.unk, (.pl (.tuple #[])), (.pl (.tuple #[])), (.pl (.tuple #[])), (.pl (.tuple #[])), (.pl (.tuple #[])), (.pl (.tuple #[])), (.pl (.tuple #[]))], [(.pl (.tuple #[])), (.pl (.tuple #[])), (.pl (.tuple #[])), (.pl (.tuple #[])), (.pl (.tuple #[])), (.pl (.tuple #[])), (.pl (.tuple #[])), (.pl (.tuple #[]))]], sz := 95, dfs := [] }
def lut2_1_h : RH := { bl := [some (.row (.avar 50) (.var 11) 3 1), some (.cells [(.si .i64 (.add (.sel (.avar 1) (.lit (0))) (.var 3)))] 3 false), some (.row (.avar 1) (.var 2) 3 1), some (.cells [] 3 false), some (.cells [] 65 false), some (.cells [(.si .i64 (.var 0)), (.slc 3 0 0 (some 0))] 24 false), some (.cells [(.si .i64 (.var 0)), (.fsl 0 4 (.lit (0)) (.var 1))] 24 false), some (.cells [(.si .i64 (.var 0)), (.fsl 0 4 (.lit (0)) (.var 1))] 24 false)], n := 8, base := 0, ch := [] }
def lut3_a : RA := { tmps := [[(.agg [(.si .i64 (.var 0)), (.fsl 0 4 (.lit (0)) (.var 1))]), (.fsl 1 1 (.lit (0)) (.var 2)), (.si .i64 (.var 3)), (.ptr 0 0), (.pl (.tuple #[])), (.pl (.tuple #[])), (.pl (.bool false)), (.si .i64 (.var 4))], [(.si .i64 (.var 5)), (.si .i64 (.var 8)), (.si .i64 (.var 7)), (.pl (.slice none 0 0)), (.pl (.int .i64 (0))), (.pl (.tuple #[])), (.pl (.tuple #[])), (.pl (.bool true))], [(.pl (.bool false)), (.agg [(.si .i64 (.var 0)), (.fsl 0 4 (.lit (0)) (.var 1))]), (.sb (.bvar 0)), (.sb (.not (.bvar 0))), (.sb (.not (.bvar 0))), (.fsl 1 1 (.lit (0)) (.var 2)), (.si .i64 (.var 2)), (.sb (.not (.le (.var 2) (.lit (210)))))], [(.sb (.not (.le (.var 2) (.lit (210))))), (.tup [(.si .i64 (.var 4)), (.si .i64 (.var 5))]), (.agg [(.si .i64 (.var 0)), (.fsl 0 4 (.lit (0)) (.var 1))]), (.agg [(.si .i64 (.var 0)), (.osl 4 4 (.var 1))]), (.fsl 1 1 (.lit (0)) (.var 2)), (.slc 5 0 0 (some 0)), (.tup [(.si .i64 (.var 4)), (.si .i64 (.var 5))]), (.si .i64 (.var 4))], [(.si .i64 (.var 5)), (.agg [(.si .i64 (.var 0)), (.fsl 0 4 (.lit (0)) (.var 1))]), (.si .i64 (.var 6)), (.si .i64 (.var 6)), (.sb (.eq (.var 6) (.lit (0)))), (.tup [(.si .i64 (.var 7)), (.si .i64 (.var 8))]), (.agg [(.si .i64 (.var 0)), (.fsl 0 4 (.lit (0)) (.var 1))]), (.fsl 1 1 (.lit (0)) (.var 2))], [(.tup [(.si .i64 (.var 7)), (.si .i64 (.var 8))]), (.si .i64 (.var 7)), (.si .i64 (.var 8)), (.si .i64 (.var 5)), (.si .i64 (.var 8)), (.sb (.not (.eq (.var 5) (.var 8)))), (.sb (.not (.eq (.var 5) (.var 8)))), (.si .i64 (.var 4))], [(.si .i64 (.var 7)), (.sb (.not (.eq (.var 4) (.var 7)))), (.sb (.not (.eq (.var 4) (.var 7)))), (.si .i64 (.var 8)), (.sb (.not (.eq (.var 8) (.lit (0))))), (.sb (.not (.eq (.var 8) (.lit (0))))), (.si .i64 (.var 3)), (.sb (.le (.var 3) (.lit (100))))], [(.sb (.not (.le (.var 3) (.lit (100))))), (.sb (.not (.le (.var 3) (.lit (100))))), (.pl (.tuple #[])), (.pl (.tuple #[])), (.pl (.tuple #[])), (.pl (.tuple #[])), (.pl (.tuple #[])), (.pl (.tuple #[]))], [(.pl (.tuple #[])), (.pl (.tuple #[])), (.pl (.tuple #[])), (.pl (.tuple #[])), (.pl (.tuple #[])), (.pl (.tuple #[])), (.pl (.tuple #[])), (.pl (.tuple #[]))], [(.pl (.tuple #[])), (.pl (.tuple #[])), (.pl (.tuple #[])), (.pl (.tuple #[])), (.pl (.tuple #[])), (.pl (.tuple #[])), (.pl (.tuple #[])), (.pl (.tuple #[]))], [(.pl (.tuple #[])), (.pl (.tuple #[])), (.pl (.tuple #[])), (.pl (.tuple #[])), (.pl (.tuple #[])), (.pl (.tuple #[])), (.pl (.tuple #[])), (.pl (.tuple #[]))], [(.pl (.tuple #[])), (.pl (.tuple #[])), (.pl (.tuple #[])), (.pl (.tuple #[])), (.pl (.tuple #[])), (.pl (.tuple #[])), (.pl (.tuple #[])), (.pl (.tuple #[]))]], sz := 95, dfs := [] }
def lut3_h : RH := { bl := [some (.cells [] 3 false), some (.row (.avar 0) (.var 1) 65 4), some (.cells [] 65 false), some (.cells [(.si .i64 (.var 0)), (.osl 4 4 (.var 1))] 24 false), some (.cells [(.si .i64 (.var 0)), (.fsl 0 4 (.lit (0)) (.var 1))] 24 false), some (.cells [(.si .i64 (.var 0)), (.fsl 0 4 (.lit (0)) (.var 1))] 24 false)], n := 6, base := 0, ch := [] }
def lut3_1_a : RA := { tmps := [[(.agg [(.si .i64 (.var 0)), (.fsl 0 4 (.lit (0)) (.var 1))]), (.fsl 1 1 (.lit (0)) (.var 2)), (.si .i64 (.var 3)), (.ptr 0 0), (.pl (.tuple #[])), (.pl (.tuple #[])), (.pl (.bool false)), (.si .i64 (.var 4))], [(.si .i64 (.var 5)), (.si .i64 (.var 8)), (.si .i64 (.var 7)), (.osl 7 1 (.var 11)), (.si .i64 (.var 12)), (.pl (.tuple #[])), (.pl (.tuple #[])), (.pl (.bool true))], [(.pl (.bool false)), (.agg [(.si .i64 (.var 0)), (.fsl 0 4 (.lit (0)) (.var 1))]), (.sb (.bvar 0)), (.sb (.not (.bvar 0))), (.sb (.not (.bvar 0))), (.fsl 1 1 (.lit (0)) (.var 2)), (.si .i64 (.var 2)), (.sb (.not (.le (.var 2) (.lit (210)))))], [(.sb (.not (.le (.var 2) (.lit (210))))), (.tup [(.si .i64 (.var 4)), (.si .i64 (.var 5))]), (.agg [(.si .i64 (.var 0)), (.fsl 0 4 (.lit (0)) (.var 1))]), (.agg [(.si .i64 (.var 0)), (.osl 4 4 (.var 1))]), (.fsl 1 1 (.lit (0)) (.var 2)), (.slc 5 0 0 (some 0)), (.tup [(.si .i64 (.var 4)), (.si .i64 (.var 5))]), (.si .i64 (.var 4))], [(.si .i64 (.var 5)), (.agg [(.si .i64 (.var 0)), (.fsl 0 4 (.lit (0)) (.var 1))]), (.si .i64 (.var 6)), (.si .i64 (.var 6)), (.sb (.eq (.var 6) (.lit (0)))), (.tup [(.si .i64 (.var 7)), (.si .i64 (.var 8))]), (.agg [(.si .i64 (.var 0)), (.fsl 0 4 (.lit (0)) (.var 1))]), (.fsl 1 1 (.lit (0)) (.var 2))], [(.tup [(.si .i64 (.var 7)), (.si .i64 (.var 8))]), (.si .i64 (.var 7)), (.si .i64 (.var 8)), (.si .i64 (.var 5)), (.si .i64 (.var 8)), (.sb (.not (.eq (.var 5) (.var 8)))), (.sb (.not (.eq (.var 5) (.var 8)))), (.si .i64 (.var 4))], [(.si .i64 (.var 7)), (.sb (.not (.eq (.var 4) (.var 7)))), (.sb (.not (.eq (.var 4) (.var 7)))), (.si .i64 (.var 8)), (.sb (.not (.eq (.var 8) (.lit (0))))), (.sb (.not (.eq (.var 8) (.lit (0))))), (.si .i64 (.var 3)), (.sb (.le (.var 3) (.lit (100))))], [(.sb (.not (.le (.var 3) (.lit (100))))), (.sb (.not (.le (.var 3) (.lit (100))))), .unk, .unk, .unk, .unk, .unk, .unk], [.unk, .unk, .unk, .unk, .unk, .unk, .unk, .unk], [.unk, .unk, .unk, .unk, .unk, .unk, .unk, .unk], [.unk, (.pl (.tuple #[])), (.pl (.tuple #[])), (.pl (.tuple #[])), (.pl (.tuple #[])), (.pl (.tuple #[])), (.pl (.tuple #[])), (.pl (.tuple #[]))], [(.pl (.tuple #[])), (.pl (.tuple #[])), (.pl (.tuple #[])), (.pl (.tuple #[])), (.pl (.tuple #[])), (.pl (.tuple #[])), (.pl (.tuple #[])), (.pl (.tuple #[]))]], sz := 95, dfs := [] }
def lut3_1_h : RH := { bl := [some (.row (.avar 50) (.var 11) 3 1), some (.cells [(.si .i64 (.add (.sel (.avar 1) (.lit (0))) (.var 3)))] 3 false), some (.cells [] 3 false), some (.row (.avar 0) (.var 1) 65 4), some (.cells [] 65 false), some (.cells [(.si .i64 (.var 0)), (.osl 4 4 (.var 1))] 24 false), some (.cells [(.si .i64 (.var 0)), (.fsl 0 4 (.lit (0)) (.var 1))] 24 false), some (.cells [(.si .i64 (.var 0)), (.fsl 0 4 (.lit (0)) (.var 1))] 24 false)], n := 8, base := 0, ch := [] }
def lut4_a : RA := { tmps := [[(.agg [(.si .i64 (.var 0)), (.fsl 0 4 (.lit (0)) (.var 1))]), (.fsl 1 1 (.lit (0)) (.var 2)), (.si .i64 (.var 3)), (.ptr 0 0), (.pl (.tuple #[])), (.pl (.tuple #[])), (.pl (.bool false)), (.si .i64 (.var 4))], [(.si .i64 (.var 5)), (.si .i64 (.var 8)), (.si .i64 (.var 7)), (.pl (.slice none 0 0)), (.pl (.int .i64 (0))), (.pl (.tuple #[])), (.pl (.tuple #[])), (.pl (.bool true))], [(.pl (.bool false)), (.agg [(.si .i64 (.var 0)), (.fsl 0 4 (.lit (0)) (.var 1))]), (.sb (.bvar 0)), (.sb (.not (.bvar 0))), (.sb (.not (.bvar 0))), (.fsl 1 1 (.lit (0)) (.var 2)), (.si .i64 (.var 2)), (.sb (.not (.le (.var 2) (.lit (210)))))], [(.sb (.not (.le (.var 2) (.lit (210))))), (.tup [(.si .i64 (.var 4)), (.si .i64 (.var 5))]), (.agg [(.si .i64 (.var 0)), (.fsl 0 4 (.lit (0)) (.var 1))]), (.agg [(.si .i64 (.var 0)), (.osl 4 4 (.var 1))]), (.fsl 1 1 (.lit (0)) (.var 2)), (.osl 6 1 (.var 2)), (.tup [(.si .i64 (.var 4)), (.si .i64 (.var 5))]), (.si .i64 (.var 4))], [(.si .i64 (.var 5)), (.agg [(.si .i64 (.var 0)), (.fsl 0 4 (.lit (0)) (.var 1))]), (.si .i64 (.var 6)), (.si .i64 (.var 6)), (.sb (.eq (.var 6) (.lit (0)))), (.tup [(.si .i64 (.var 7)), (.si .i64 (.var 8))]), (.agg [(.si .i64 (.var 0)), (.fsl 0 4 (.lit (0)) (.var 1))]), (.fsl 1 1 (.lit (0)) (.var 2))], [(.tup [(.si .i64 (.var 7)), (.si .i64 (.var 8))]), (.si .i64 (.var 7)), (.si .i64 (.var 8)), (.si .i64 (.var 5)), (.si .i64 (.var 8)), (.sb (.not (.eq (.var 5) (.var 8)))), (.sb (.not (.eq (.var 5) (.var 8)))), (.si .i64 (.var 4))], [(.si .i64 (.var 7)), (.sb (.not (.eq (.var 4) (.var 7)))), (.sb (.not (.eq (.var 4) (.var 7)))), (.si .i64 (.var 8)), (.sb (.not (.eq (.var 8) (.lit (0))))), (.sb (.not (.eq (.var 8) (.lit (0))))), (.si .i64 (.var 3)), (.sb (.le (.var 3) (.lit (100))))], [(.sb (.not (.le (.var 3) (.lit (100))))), (.sb (.not (.le (.var 3) (.lit (100))))), (.pl (.tuple #[])), (.pl (.tuple #[])), (.pl (.tuple #[])), (.pl (.tuple #[])), (.pl (.tuple #[])), (.pl (.tuple #[]))], [(.pl (.tuple #[])), (.pl (.tuple #[])), (.pl (.tuple #[])), (.pl (.tuple #[])), (.pl (.tuple #[])), (.pl (.tuple #[])), (.pl (.tuple #[])), (.pl (.tuple #[]))], [(.pl (.tuple #[])), (.pl (.tuple #[])), (.pl (.tuple #[])), (.pl (.tuple #[])), (.pl (.tuple #[])), (.pl (.tuple #[])), (.pl (.tuple #[])), (.pl (.tuple #[]))], [(.pl (.tuple #[])), (.pl (.tuple #[])), (.pl (.tuple #[])), (.pl (.tuple #[])), (.pl (.tuple #[])), (.pl (.tuple #[])), (.pl (.tuple #[])), (.pl (.tuple #[]))], [(.pl (.tuple #[])), (.pl (.tuple #[])), (.pl (.tuple #[])), (.pl (.tuple #[])), (.pl (.tuple #[])), (.pl (.tuple #[])), (.pl (.tuple #[])), (.pl (.tuple #[]))]], sz := 95, dfs := [] }
def lut4_h : RH := { bl := [some (.row (.avar 1) (.var 2) 3 1), some (.cells [] 3 false), some (.row (.avar 0) (.var 1) 65 4), some (.cells [] 65 false), some (.cells [(.si .i64 (.var 0)), (.osl 4 4 (.var 1))] 24 false), some (.cells [(.si .i64 (.var 0)), (.fsl 0 4 (.lit (0)) (.var 1))] 24 false), some (.cells [(.si .i64 (.var 0)), (.fsl 0 4 (.lit (0)) (.var 1))] 24 false)], n := 7, base := 0, ch := [] }
def lut4_1_a : RA := { tmps := [[(.agg [(.si .i64 (.var 0)), (.fsl 0 4 (.lit (0)) (.var 1))]), (.fsl 1 1 (.lit (0)) (.var 2)), (.si .i64 (.var 3)), (.ptr 0 0), (.pl (.tuple #[])), (.pl (.tuple #[])), (.pl (.bool false)), (.si .i64 (.var 4))], [(.si .i64 (.var 5)), (.si .i64 (.var 8)), (.si .i64 (.var 7)), (.osl 8 1 (.var 11)), (.si .i64 (.var 12)), (.pl (.tuple #[])), (.pl (.tuple #[])), (.pl (.bool true))], [(.pl (.bool false)), (.agg [(.si .i64 (.var 0)), (.fsl 0 4 (.lit (0)) (.var 1))]), (.sb (.bvar 0)), (.sb (.not (.bvar 0))), (.sb (.not (.bvar 0))), (.fsl 1 1 (.lit (0)) (.var 2)), (.si .i64 (.var 2)), (.sb (.not (.le (.var 2) (.lit (210)))))], [(.sb (.not (.le (.var 2) (.lit (210))))), (.tup [(.si .i64 (.var 4)), (.si .i64 (.var 5))]), (.agg [(.si .i64 (.var 0)), (.fsl 0 4 (.lit (0)) (.var 1))]), (.agg [(.si .i64 (.var 0)), (.osl 4 4 (.var 1))]), (.fsl 1 1 (.lit (0)) (.var 2)), (.osl 6 1 (.var 2)), (.tup [(.si .i64 (.var 4)), (.si .i64 (.var 5))]), (.si .i64 (.var 4))], [(.si .i64 (.var 5)), (.agg [(.si .i64 (.var 0)), (.fsl 0 4 (.lit (0)) (.var 1))]), (.si .i64 (.var 6)), (.si .i64 (.var 6)), (.sb (.eq (.var 6) (.lit (0)))), (.tup [(.si .i64 (.var 7)), (.si .i64 (.var 8))]), (.agg [(.si .i64 (.var 0)), (.fsl 0 4 (.lit (0)) (.var 1))]), (.fsl 1 1 (.lit (0)) (.var 2))], [(.tup [(.si .i64 (.var 7)), (.si .i64 (.var 8))]), (.si .i64 (.var 7)), (.si .i64 (.var 8)), (.si .i64 (.var 5)), (.si .i64 (.var 8)), (.sb (.not (.eq (.var 5) (.var 8)))), (.sb (.not (.eq (.var 5) (.var 8)))), (.si .i64 (.var 4))], [(.si .i64 (.var 7)), (.sb (.not (.eq (.var 4) (.var 7)))), (.sb (.not (.eq (.var 4) (.var 7)))), (.si .i64 (.var 8)), (.sb (.not (.eq (.var 8) (.lit (0))))), (.sb (.not (.eq (.var 8) (.lit (0))))), (.si .i64 (.var 3)), (.sb (.le (.var 3) (.lit (100))))], [(.sb (.not (.le (.var 3) (.lit (100))))), (.sb (.not (.le (.var 3) (.lit (100))))), .unk, .unk, .unk, .unk, .unk, .unk], [.unk, .unk, .unk, .unk, .unk, .unk, .unk, .unk], [.unk, .unk, .unk, .unk, .unk, .unk, .unk, .unk], [.unk, (.pl (.tuple #[])), (.pl (.tuple #[])), (.pl (.tuple #[])), (.pl (.tuple #[])), (.pl (.tuple #[])), (.pl (.tuple #[])), (.pl (.tuple #[]))], [(.pl (.tuple #[])), (.pl (.tuple #[])), (.pl (.tuple #[])), (.pl (.tuple #[])), (.pl (.tuple #[])), (.pl (.tuple #[])), (.pl (.tuple #[])), (.pl (.tuple #[]))]], sz := 95, dfs := [] }
def lut4_1_h : RH := { bl := [some (.row (.avar 50) (.var 11) 3 1), some (.cells [(.si .i64 (.add (.sel (.avar 1) (.lit (0))) (.var 3)))] 3 false), some (.row (.avar 1) (.var 2) 3 1), some (.cells [] 3 false), some (.row (.avar 0) (.var 1) 65 4), some (.cells [] 65 false), some (.cells [(.si .i64 (.var 0)), (.osl 4 4 (.var 1))] 24 false), some (.cells [(.si .i64 (.var 0)), (.fsl 0 4 (.lit (0)) (.var 1))] 24 false), some (.cells [(.si .i64 (.var 0)), (.fsl 0 4 (.lit (0)) (.var 1))] 24 false)], n := 9, base := 0, ch := [] }
theorem turns_all (N : Int) (A B : Option Addr) (n c m d : Nat) (S : Nat → Nat → Int) (t : Nat → Int) (more : Int) (W : World) (hS : RowR W A (n * 4) (flat4 S)) (hT : RowR W B m (flat1 t)) (hN : I64 N) (hc : n ≤ c) (hd : m ≤ d) (hn : n ≤ 9223372036854775807) (ht : ∀ j, j < m → I64 (t j)) :
    Calls Try.prog 3 #[.agg #[.int .i64 N, .slice A n c], .slice B m d, .int .i64 more] W fun e w' => e = .returned (.bool true) ∧ Below W.heap.size W w' := by
  skip
  have hrows : RowsIn W [⟨A, n * 4, flat4 S⟩, ⟨B, m, flat1 t⟩] := ⟨hS, hT, trivial⟩
  letI : Rho := rhoL W.heap.size ([N, (n : Int), (m : Int), more, (ctR N n S m t).1, (ctR N n S m t).2, (cnR N n S).2, (rtR N n S m t).1, (rtR N n S m t).2, (ctR N n S m (fun i => t i + more)).1, (ctR N n S m (fun i => t i + more)).2]) [⟨A, n * 4, flat4 S⟩, ⟨B, m, flat1 t⟩] [(fewF N n S)] []
  have hfar : Far W := far_list hrows
  have hx : RepL (fun _ => False) (fun _ => 0) (fun _ => 0) (coC ++ [.si .i64 (.var 3)]) (#[.agg #[.int .i64 N, .slice A n c], .slice B m d, .int .i64 more] : Array Value).toList := by
    refine repL_cons'.2 ⟨?_, repL_cons'.2 ⟨by simp only [Rep]; exact fsl_row 1 1 hrows rfl (by simp [rowAt]) (by omega) rfl rfl hd, repL_one (by simp only [Rep]; rfl)⟩⟩
    simp only [Rep]
    exact ⟨_, rfl, repL_cons'.2 ⟨by simp only [Rep]; rfl, repL_one (by simp only [Rep]; exact fsl_row 0 4 hrows rfl rfl (by omega) rfl rfl hc)⟩⟩
  cases f1 : (fewF N n S)
  · skip
    have hF : Facts [((.bvar 0), false)] := ⟨f1, trivial⟩
    refine call_start (P := Try.prog) (K := orK (trueK 6) (fewK 0)) (fl := []) (by kernel_rfl) (by kernel_rfl) hx hfar (orK_ok (trueK_ok awake_ok) (fewK_ok (N := N) (n := n) (S := S) rfl rfl rfl rfl hN hn)) (facD_ok hF) (fin_run (r := (.pl (.bool true))) (by kernel_rfl) rfl fun W' hbel => ⟨?_, hbel⟩)
    show Ending.returned (.bool true) = _
    rfl
  · skip
    by_cases f2 : (m : Int) ≤ 210
    · skip
      by_cases f3 : (n : Int) ≤ 0
      · skip
        by_cases f4 : (m : Int) ≤ 0
        · skip
          by_cases f5 : (cnR N n S).2 = 0
          · skip
            by_cases f6 : (ctR N n S m t).2 = (rtR N n S m t).2
            · skip
              by_cases f7 : (ctR N n S m t).1 = (rtR N n S m t).1
              · skip
                by_cases f8 : (rtR N n S m t).2 = 0
                · skip
                  by_cases f9 : (-100) ≤ more
                  · skip
                    by_cases f10 : more ≤ 100
                    · skip
                      have hF : Facts [((.bvar 0), true), ((.le (.var 2) (.lit (210))), true), ((.le (.var 1) (.lit (0))), true), ((.le (.var 2) (.lit (0))), true), ((.eq (.var 6) (.lit (0))), true), ((.eq (.var 5) (.var 8)), true), ((.eq (.var 4) (.var 7)), true), ((.eq (.var 8) (.lit (0))), true), ((.le (.lit (-100)) (.var 3)), true), ((.le (.var 3) (.lit (100))), true)] := ⟨f1, f_le f2 rfl rfl, f_le f3 rfl rfl, f_le f4 rfl rfl, f_eq f5 rfl rfl, f_eq f6 rfl rfl, f_eq f7 rfl rfl, f_eq f8 rfl rfl, f_le f9 rfl rfl, f_le f10 rfl rfl, trivial⟩
                      have hcn0 : (cnR N n S).2 = 0 := f5
                      have hrt0 : (rtR N n S m t).2 = 0 := f8
                      have hct0 : (ctR N n S m t).2 = 0 := by rw [f6]; exact hrt0
                      have hm210 : (m : Int) ≤ 210 := f2
                      have hmo1 : -100 ≤ more := f9
                      have hmo2 : more ≤ 100 := f10
                      have htb : ∀ j, j < m → -1000000 ≤ t j ∧ t j ≤ 1000000 := tr_right (rt_tr hrt0)
                      refine call_start (P := Try.prog) (K := orK (orK (orK (trueK 6) (fewK 0)) (orK (ctK 4 true true) (reK 6))) (rtK 7 false false)) (fl := []) (by kernel_rfl) (by kernel_rfl) hx hfar (orK_ok (orK_ok (orK_ok (trueK_ok awake_ok) (fewK_ok (N := N) (n := n) (S := S) rfl rfl rfl rfl hN hn)) (orK_ok (ctK_ok (N := N) (n := n) (m := m) (S := S) (t := t) rfl rfl rfl rfl rfl (fun _ => by show (n : Int) = 0; omega) (fun _ => by show (m : Int) = 0; omega) rfl rfl hN hn (by omega)) (reK_ok (N := N) (n := n) (S := S) rfl rfl rfl rfl hN hn))) (rtK_ok (N := N) (n := n) (m := m) (S := S) (t := t) rfl rfl rfl rfl rfl (fun h => by cases h) (fun h => by cases h) rfl rfl hN hn (by omega) f5)) (facD_ok hF) (enter_run (B := 11) (a' := lut1_a) (h' := lut1_h) (ρ' := rhoL W.heap.size ([N, (n : Int), (m : Int), more, (ctR N n S m t).1, (ctR N n S m t).2, (cnR N n S).2, (rtR N n S m t).1, (rtR N n S m t).2, (ctR N n S m (fun i => t i + more)).1, (ctR N n S m (fun i => t i + more)).2] ++ [0, 0]) [⟨A, n * 4, flat4 S⟩, ⟨B, m, flat1 t⟩] [(fewF N n S)] [(fun _ : Int => 0)]) (ds := []) (c := (loopIn (bodyC Try.prog 3) 0)) (by kernel_rfl) (by kernel_rfl) rfl (agree_list (l := [N, (n : Int), (m : Int), more, (ctR N n S m t).1, (ctR N n S m t).2, (cnR N n S).2, (rtR N n S m t).1, (rtR N n S m t).2, (ctR N n S m (fun i => t i + more)).1, (ctR N n S m (fun i => t i + more)).2]) (x := []) (Nat.le_refl _) rfl) trivial fun A1 W1 hs1 => ?_)
                      refine loop_okS (Inv := fun ρ a h => ∃ (L : Nat) (k : Nat) (F : Int → Int), (k ≤ m ∧ L = k ∧ (∀ j : Nat, j < k → F (j : Int) = t j + more) ∧ (∀ j : Nat, j < k → -1000000 ≤ t j + more ∧ t j + more ≤ 1000000)) ∧ ρ = rhoL W.heap.size ([N, (n : Int), (m : Int), more, (ctR N n S m t).1, (ctR N n S m t).2, (cnR N n S).2, (rtR N n S m t).1, (rtR N n S m t).2, (ctR N n S m (fun i => t i + more)).1, (ctR N n S m (fun i => t i + more)).2] ++ [(L : Int), (k : Int)]) [⟨A, n * 4, flat4 S⟩, ⟨B, m, flat1 t⟩] [(fewF N n S)] [F] ∧ ((a = lut1_a ∧ h = lut1_h ∧ (k = 0)) ∨ (a = lut1_1_a ∧ h = lut1_1_h ∧ (True)))) (μ := fun ρ => m - (@Rho.i ρ 12).toNat) ?_ _ _ _ ⟨0, 0, (fun _ : Int => 0), ?_, rfl, .inl ⟨rfl, rfl, ?_⟩⟩ A1 W1 hs1
                      rotate_left
                      · exact ⟨Nat.zero_le _, rfl, fun j hj => absurd hj (Nat.not_lt_zero j), fun j hj => absurd hj (Nat.not_lt_zero j)⟩
                      · rfl
                      first | clear hs1 hx | clear hs1
                      rintro ρ a h ⟨L, k, F, hinv, rfl, hhead⟩ A2 W2 hs2
                      letI : Rho := rhoL W.heap.size ([N, (n : Int), (m : Int), more, (ctR N n S m t).1, (ctR N n S m t).2, (cnR N n S).2, (rtR N n S m t).1, (rtR N n S m t).2, (ctR N n S m (fun i => t i + more)).1, (ctR N n S m (fun i => t i + more)).2] ++ [(L : Int), (k : Int)]) [⟨A, n * 4, flat4 S⟩, ⟨B, m, flat1 t⟩] [(fewF N n S)] [F]
                      obtain ⟨hk, hL, hFe, hB⟩ := hinv
                      rcases hhead with ⟨rfl, rfl, hcond⟩ | ⟨rfl, rfl, hcond⟩
                      · skip
                        by_cases f1 : (m : Int) ≤ 0
                        · skip
                          by_cases f2 : (n : Int) ≤ 0
                          · skip
                            by_cases f3 : (ctR N n S m t).2 = 0
                            · skip
                              have hF : Facts [((.le (.var 2) (.lit (0))), true), ((.le (.var 1) (.lit (0))), true), ((.eq (.var 5) (.lit (0))), true)] := ⟨f_le f1 rfl rfl, f_le f2 rfl rfl, f_eq f3 rfl rfl, trivial⟩
                              refine out_run (P := Try.prog) (K := ctK 4 true true) (fl := []) (by kernel_rfl) (ctK_ok (N := N) (n := n) (m := m) (S := S) (t := t) rfl rfl rfl rfl rfl (fun _ => by show (n : Int) = 0; omega) (fun _ => by show (m : Int) = 0; omega) rfl rfl hN hn (by omega)) (facD_ok hF) hs2 (fin_run (r := (.pl (.bool true))) (by kernel_rfl) rfl fun W' hbel => ⟨?_, hbel⟩)
                              show Ending.returned (.bool true) = _
                              rfl
                            · skip
                              have hF : Facts [((.le (.var 2) (.lit (0))), true), ((.le (.var 1) (.lit (0))), true), ((.eq (.var 5) (.lit (0))), false)] := ⟨f_le f1 rfl rfl, f_le f2 rfl rfl, f_ne f3 rfl rfl, trivial⟩
                              refine out_run (P := Try.prog) (K := ctK 4 true true) (fl := []) (by kernel_rfl) (ctK_ok (N := N) (n := n) (m := m) (S := S) (t := t) rfl rfl rfl rfl rfl (fun _ => by show (n : Int) = 0; omega) (fun _ => by show (m : Int) = 0; omega) rfl rfl hN hn (by omega)) (facD_ok hF) hs2 (fin_run (r := (.pl (.bool false))) (by kernel_rfl) rfl fun W' hbel => ⟨?_, hbel⟩)
                              show Ending.returned (.bool false) = _
                              exact absurd hct0 f3
                          · skip
                            have f3 : ((n : Int) ≤ 100000) := by
                              first | omega | (have hq := fewF_n f1; omega) | (have hq := (cn_right hcn0).2.1; omega) | (have hq := htb 0 (by omega); have hq2 : flat1 t 0 = t 0 := rfl; constructor <;> omega) | (have hq := htb k (by omega); have hq2 : flat1 t (k : Int) = t k := rfl; constructor <;> omega)
                            by_cases f4 : (ctR N n S m t).2 = 0
                            · skip
                              have hF : Facts [((.le (.var 2) (.lit (0))), true), ((.le (.var 1) (.lit (0))), false), ((.le (.var 1) (.lit (100000))), true), ((.eq (.var 5) (.lit (0))), true)] := ⟨f_le f1 rfl rfl, f_nle f2 rfl rfl, f_le f3 rfl rfl, f_eq f4 rfl rfl, trivial⟩
                              refine out_run (P := Try.prog) (K := ctK 4 false true) (fl := []) (by kernel_rfl) (ctK_ok (N := N) (n := n) (m := m) (S := S) (t := t) rfl rfl rfl rfl rfl (fun h => by cases h) (fun _ => by show (m : Int) = 0; omega) rfl rfl hN hn (by omega)) (facD_ok hF) hs2 (fin_run (r := (.pl (.bool true))) (by kernel_rfl) rfl fun W' hbel => ⟨?_, hbel⟩)
                              show Ending.returned (.bool true) = _
                              rfl
                            · skip
                              have hF : Facts [((.le (.var 2) (.lit (0))), true), ((.le (.var 1) (.lit (0))), false), ((.le (.var 1) (.lit (100000))), true), ((.eq (.var 5) (.lit (0))), false)] := ⟨f_le f1 rfl rfl, f_nle f2 rfl rfl, f_le f3 rfl rfl, f_ne f4 rfl rfl, trivial⟩
                              refine out_run (P := Try.prog) (K := ctK 4 false true) (fl := []) (by kernel_rfl) (ctK_ok (N := N) (n := n) (m := m) (S := S) (t := t) rfl rfl rfl rfl rfl (fun h => by cases h) (fun _ => by show (m : Int) = 0; omega) rfl rfl hN hn (by omega)) (facD_ok hF) hs2 (fin_run (r := (.pl (.bool false))) (by kernel_rfl) rfl fun W' hbel => ⟨?_, hbel⟩)
                              show Ending.returned (.bool false) = _
                              exact absurd hct0 f4
                        · skip
                          have f2 : (-9223372036854775808 : Int) ≤ ((flat1 t 0) + more) ∧ ((flat1 t 0) + more) ≤ 9223372036854775807 := by
                            first | omega | (have hq := fewF_n f1; omega) | (have hq := (cn_right hcn0).2.1; omega) | (have hq := htb 0 (by omega); have hq2 : flat1 t 0 = t 0 := rfl; constructor <;> omega) | (have hq := htb k (by omega); have hq2 : flat1 t (k : Int) = t k := rfl; constructor <;> omega)
                          by_cases f3 : (-1000000) ≤ ((flat1 t 0) + more)
                          · skip
                            by_cases f4 : ((flat1 t 0) + more) ≤ 1000000
                            · skip
                              have hF : Facts [((.le (.var 2) (.lit (0))), false), ((.inr .i64 (.add (.sel (.avar 1) (.lit (0))) (.var 3))), true), ((.le (.lit (-1000000)) (.add (.sel (.avar 1) (.lit (0))) (.var 3))), true), ((.le (.add (.sel (.avar 1) (.lit (0))) (.var 3)) (.lit (1000000))), true)] := ⟨f_nle f1 rfl rfl, f_in f2 rfl, f_le f3 rfl rfl, f_le f4 rfl rfl, trivial⟩
                              refine again_runP (P := Try.prog) (K := noK) (fl := []) (B := 11) (l := [.row 6 1 1]) (a' := lut1_1_a) (h' := lut1_1_h) (ρ' := rhoL W.heap.size ([N, (n : Int), (m : Int), more, (ctR N n S m t).1, (ctR N n S m t).2, (cnR N n S).2, (rtR N n S m t).1, (rtR N n S m t).2, (ctR N n S m (fun i => t i + more)).1, (ctR N n S m (fun i => t i + more)).2] ++ [(((L + 1) : Nat) : Int), (((k + 1) : Nat) : Int)]) [⟨A, n * 4, flat4 S⟩, ⟨B, m, flat1 t⟩] [(fewF N n S)] [(fun j : Int => if j = 0 then ((flat1 t 0) + more) else (fun _ : Int => 0) j)]) (ds := [.int (.lit (1)) (.var 11), .int (.lit (1)) (.var 12), .row (.upd .azero (.lit (0)) (.add (.sel (.avar 1) (.lit (0))) (.var 3))) (.avar 50), .int (.lit (1)) (.var 11)]) (by kernel_rfl) noK_ok (facD_ok hF) (by kernel_rfl) (agree_list (l := [N, (n : Int), (m : Int), more, (ctR N n S m t).1, (ctR N n S m t).2, (cnR N n S).2, (rtR N n S m t).1, (rtR N n S m t).2, (ctR N n S m (fun i => t i + more)).1, (ctR N n S m (fun i => t i + more)).2]) (Nat.le_refl _) rfl) ⟨(show (1 : Int) = (((L + 1) : Nat) : Int) from by first | rfl | (push_cast; omega)), (show (1 : Int) = (((k + 1) : Nat) : Int) from by first | rfl | (push_cast; omega)), rfl, (show (1 : Int) = (((L + 1) : Nat) : Int) from by first | rfl | (push_cast; omega)), trivial⟩ hs2 fun A3 W3 hs3 => ⟨_, _, _, ⟨(L + 1), (k + 1), (fun j : Int => if j = 0 then ((flat1 t 0) + more) else (fun _ : Int => 0) j), ?_, rfl, .inr ⟨rfl, rfl, ?_⟩⟩, ?_, hs3⟩
                              · refine ⟨by omega, by omega, fun j hj => ?_, fun j hj => ?_⟩
                                · obtain rfl : j = 0 := by omega
                                  show (if ((0 : Nat) : Int) = 0 then flat1 t 0 + more else 0) = t 0 + more
                                  exact if_pos (by simp)
                                · obtain rfl : j = 0 := by omega
                                  have e : flat1 t 0 = t 0 := rfl
                                  omega
                              · trivial
                              · show m - ((k + 1 : Nat) : Int).toNat < m - ((k : Nat) : Int).toNat
                                omega
                            · skip
                              have hF : Facts [((.le (.var 2) (.lit (0))), false), ((.inr .i64 (.add (.sel (.avar 1) (.lit (0))) (.var 3))), true), ((.le (.lit (-1000000)) (.add (.sel (.avar 1) (.lit (0))) (.var 3))), true), ((.le (.add (.sel (.avar 1) (.lit (0))) (.var 3)) (.lit (1000000))), false)] := ⟨f_nle f1 rfl rfl, f_in f2 rfl, f_le f3 rfl rfl, f_nle f4 rfl rfl, trivial⟩
                              refine out_run (P := Try.prog) (K := noK) (fl := []) (by kernel_rfl) noK_ok (facD_ok hF) hs2 (fin_run (r := (.pl (.bool true))) (by kernel_rfl) rfl fun W' hbel => ⟨?_, hbel⟩)
                              show Ending.returned (.bool true) = _
                              rfl
                          · skip
                            have hF : Facts [((.le (.var 2) (.lit (0))), false), ((.inr .i64 (.add (.sel (.avar 1) (.lit (0))) (.var 3))), true), ((.le (.lit (-1000000)) (.add (.sel (.avar 1) (.lit (0))) (.var 3))), false)] := ⟨f_nle f1 rfl rfl, f_in f2 rfl, f_nle f3 rfl rfl, trivial⟩
                            refine out_run (P := Try.prog) (K := noK) (fl := []) (by kernel_rfl) noK_ok (facD_ok hF) hs2 (fin_run (r := (.pl (.bool true))) (by kernel_rfl) rfl fun W' hbel => ⟨?_, hbel⟩)
                            show Ending.returned (.bool true) = _
                            rfl
                      · skip
                        by_cases f1 : (m : Int) ≤ (k : Int)
                        · skip
                          by_cases f2 : (n : Int) ≤ 0
                          · skip
                            by_cases f3 : (ctR N n S m (fun i => t i + more)).2 = 0
                            · skip
                              have hF : Facts [((.le (.var 2) (.var 12)), true), ((.le (.var 1) (.lit (0))), true), ((.eq (.var 10) (.lit (0))), true)] := ⟨f_le f1 rfl rfl, f_le f2 rfl rfl, f_eq f3 rfl rfl, trivial⟩
                              refine out_run (P := Try.prog) (K := ctK2 9 11 true) (fl := []) (by kernel_rfl) (ctK2_ok (N := N) (n := n) (m := m) (S := S) (t := fun i => t i + more) rfl rfl rfl rfl (by show (L : Int) = (m : Int); omega) (fun j hj => hFe j (by omega)) (fun _ => by show (n : Int) = 0; omega) rfl rfl hN hn (by omega)) (facD_ok hF) hs2 (fin_run (r := (.sb (.eq (.var 9) (.var 4)))) (by kernel_rfl) rfl fun W' hbel => ⟨?_, hbel⟩)
                              show Ending.returned (.bool (decide ((ctR N n S m (fun i => t i + more)).1 = (ctR N n S m t).1))) = _
                              rw [ct_more hcn0 hrt0 (fun j hj => hB j (by omega))]
                              simp
                            · skip
                              have hF : Facts [((.le (.var 2) (.var 12)), true), ((.le (.var 1) (.lit (0))), true), ((.eq (.var 10) (.lit (0))), false)] := ⟨f_le f1 rfl rfl, f_le f2 rfl rfl, f_ne f3 rfl rfl, trivial⟩
                              refine out_run (P := Try.prog) (K := ctK2 9 11 true) (fl := []) (by kernel_rfl) (ctK2_ok (N := N) (n := n) (m := m) (S := S) (t := fun i => t i + more) rfl rfl rfl rfl (by show (L : Int) = (m : Int); omega) (fun j hj => hFe j (by omega)) (fun _ => by show (n : Int) = 0; omega) rfl rfl hN hn (by omega)) (facD_ok hF) hs2 (fin_run (r := (.pl (.bool false))) (by kernel_rfl) rfl fun W' hbel => ⟨?_, hbel⟩)
                              show Ending.returned (.bool false) = _
                              exact absurd (by rw [ct_more hcn0 hrt0 (fun j hj => hB j (by omega)), hct0]) f3
                          · skip
                            have f3 : ((n : Int) ≤ 100000) := by
                              first | omega | (have hq := fewF_n f1; omega) | (have hq := (cn_right hcn0).2.1; omega) | (have hq := htb 0 (by omega); have hq2 : flat1 t 0 = t 0 := rfl; constructor <;> omega) | (have hq := htb k (by omega); have hq2 : flat1 t (k : Int) = t k := rfl; constructor <;> omega)
                            by_cases f4 : (ctR N n S m (fun i => t i + more)).2 = 0
                            · skip
                              have hF : Facts [((.le (.var 2) (.var 12)), true), ((.le (.var 1) (.lit (0))), false), ((.le (.var 1) (.lit (100000))), true), ((.eq (.var 10) (.lit (0))), true)] := ⟨f_le f1 rfl rfl, f_nle f2 rfl rfl, f_le f3 rfl rfl, f_eq f4 rfl rfl, trivial⟩
                              refine out_run (P := Try.prog) (K := ctK2 9 11 false) (fl := []) (by kernel_rfl) (ctK2_ok (N := N) (n := n) (m := m) (S := S) (t := fun i => t i + more) rfl rfl rfl rfl (by show (L : Int) = (m : Int); omega) (fun j hj => hFe j (by omega)) (fun h => by cases h) rfl rfl hN hn (by omega)) (facD_ok hF) hs2 (fin_run (r := (.sb (.eq (.var 9) (.var 4)))) (by kernel_rfl) rfl fun W' hbel => ⟨?_, hbel⟩)
                              show Ending.returned (.bool (decide ((ctR N n S m (fun i => t i + more)).1 = (ctR N n S m t).1))) = _
                              rw [ct_more hcn0 hrt0 (fun j hj => hB j (by omega))]
                              simp
                            · skip
                              have hF : Facts [((.le (.var 2) (.var 12)), true), ((.le (.var 1) (.lit (0))), false), ((.le (.var 1) (.lit (100000))), true), ((.eq (.var 10) (.lit (0))), false)] := ⟨f_le f1 rfl rfl, f_nle f2 rfl rfl, f_le f3 rfl rfl, f_ne f4 rfl rfl, trivial⟩
                              refine out_run (P := Try.prog) (K := ctK2 9 11 false) (fl := []) (by kernel_rfl) (ctK2_ok (N := N) (n := n) (m := m) (S := S) (t := fun i => t i + more) rfl rfl rfl rfl (by show (L : Int) = (m : Int); omega) (fun j hj => hFe j (by omega)) (fun h => by cases h) rfl rfl hN hn (by omega)) (facD_ok hF) hs2 (fin_run (r := (.pl (.bool false))) (by kernel_rfl) rfl fun W' hbel => ⟨?_, hbel⟩)
                              show Ending.returned (.bool false) = _
                              exact absurd (by rw [ct_more hcn0 hrt0 (fun j hj => hB j (by omega)), hct0]) f4
                        · skip
                          have f2 : (0 ≤ (k : Int)) := by
                            first | omega | (have hq := fewF_n f1; omega) | (have hq := (cn_right hcn0).2.1; omega) | (have hq := htb 0 (by omega); have hq2 : flat1 t 0 = t 0 := rfl; constructor <;> omega) | (have hq := htb k (by omega); have hq2 : flat1 t (k : Int) = t k := rfl; constructor <;> omega)
                          have f3 : (-9223372036854775808 : Int) ≤ ((flat1 t (k : Int)) + more) ∧ ((flat1 t (k : Int)) + more) ≤ 9223372036854775807 := by
                            first | omega | (have hq := fewF_n f1; omega) | (have hq := (cn_right hcn0).2.1; omega) | (have hq := htb 0 (by omega); have hq2 : flat1 t 0 = t 0 := rfl; constructor <;> omega) | (have hq := htb k (by omega); have hq2 : flat1 t (k : Int) = t k := rfl; constructor <;> omega)
                          by_cases f4 : (-1000000) ≤ ((flat1 t (k : Int)) + more)
                          · skip
                            by_cases f5 : ((flat1 t (k : Int)) + more) ≤ 1000000
                            · skip
                              have f6 : ((L : Int) ≤ 99999) := by
                                first | omega | (have hq := fewF_n f1; omega) | (have hq := (cn_right hcn0).2.1; omega) | (have hq := htb 0 (by omega); have hq2 : flat1 t 0 = t 0 := rfl; constructor <;> omega) | (have hq := htb k (by omega); have hq2 : flat1 t (k : Int) = t k := rfl; constructor <;> omega)
                              have f7 : (-9223372036854775808 : Int) ≤ ((k : Int) + 1) ∧ ((k : Int) + 1) ≤ 9223372036854775807 := by
                                first | omega | (have hq := fewF_n f1; omega) | (have hq := (cn_right hcn0).2.1; omega) | (have hq := htb 0 (by omega); have hq2 : flat1 t 0 = t 0 := rfl; constructor <;> omega) | (have hq := htb k (by omega); have hq2 : flat1 t (k : Int) = t k := rfl; constructor <;> omega)
                              have hF : Facts [((.le (.var 2) (.var 12)), false), ((.le (.lit (0)) (.var 12)), true), ((.inr .i64 (.add (.sel (.avar 1) (.var 12)) (.var 3))), true), ((.le (.lit (-1000000)) (.add (.sel (.avar 1) (.var 12)) (.var 3))), true), ((.le (.add (.sel (.avar 1) (.var 12)) (.var 3)) (.lit (1000000))), true), ((.le (.var 11) (.lit (99999))), true), ((.inr .i64 (.add (.var 12) (.lit (1)))), true)] := ⟨f_nle f1 rfl rfl, f_le f2 rfl rfl, f_in f3 rfl, f_le f4 rfl rfl, f_le f5 rfl rfl, f_le f6 rfl rfl, f_in f7 rfl, trivial⟩
                              refine again_runP (P := Try.prog) (K := noK) (fl := []) (B := 11) (l := [.mov 6 8]) (a' := lut1_1_a) (h' := lut1_1_h) (ρ' := rhoL W.heap.size ([N, (n : Int), (m : Int), more, (ctR N n S m t).1, (ctR N n S m t).2, (cnR N n S).2, (rtR N n S m t).1, (rtR N n S m t).2, (ctR N n S m (fun i => t i + more)).1, (ctR N n S m (fun i => t i + more)).2] ++ [(((L + 1) : Nat) : Int), (((k + 1) : Nat) : Int)]) [⟨A, n * 4, flat4 S⟩, ⟨B, m, flat1 t⟩] [(fewF N n S)] [(fun j : Int => if j = (L : Int) then ((flat1 t (k : Int)) + more) else F j)]) (ds := [.int (.add (.var 11) (.lit (1))) (.var 11), .int (.add (.var 12) (.lit (1))) (.var 12), .row (.upd (.avar 50) (.var 11) (.add (.sel (.avar 1) (.var 12)) (.var 3))) (.avar 50), .int (.add (.var 11) (.lit (1))) (.var 11)]) (by kernel_rfl) noK_ok (facD_ok hF) (by kernel_rfl) (agree_list (l := [N, (n : Int), (m : Int), more, (ctR N n S m t).1, (ctR N n S m t).2, (cnR N n S).2, (rtR N n S m t).1, (rtR N n S m t).2, (ctR N n S m (fun i => t i + more)).1, (ctR N n S m (fun i => t i + more)).2]) (Nat.le_refl _) rfl) ⟨(show (((L : Int) + 1) : Int) = (((L + 1) : Nat) : Int) from by first | rfl | (push_cast; omega)), (show (((k : Int) + 1) : Int) = (((k + 1) : Nat) : Int) from by first | rfl | (push_cast; omega)), rfl, (show (((L : Int) + 1) : Int) = (((L + 1) : Nat) : Int) from by first | rfl | (push_cast; omega)), trivial⟩ hs2 fun A3 W3 hs3 => ⟨_, _, _, ⟨(L + 1), (k + 1), (fun j : Int => if j = (L : Int) then ((flat1 t (k : Int)) + more) else F j), ?_, rfl, .inr ⟨rfl, rfl, ?_⟩⟩, ?_, hs3⟩
                              · refine ⟨by omega, by omega, fun j hj => ?_, fun j hj => ?_⟩
                                · show (if (j : Int) = (L : Int) then flat1 t (k : Int) + more else F (j : Int)) = t j + more
                                  rcases Nat.lt_or_ge j k with g | g
                                  · rw [if_neg (by omega)]
                                    exact hFe j g
                                  · obtain rfl : j = k := by omega
                                    rw [if_pos (by omega)]
                                    rfl
                                · rcases Nat.lt_or_ge j k with g | g
                                  · exact hB j g
                                  · obtain rfl : j = k := by omega
                                    have e : flat1 t (j : Int) = t j := rfl
                                    omega
                              · trivial
                              · show m - ((k + 1 : Nat) : Int).toNat < m - ((k : Nat) : Int).toNat
                                omega
                            · skip
                              have hF : Facts [((.le (.var 2) (.var 12)), false), ((.le (.lit (0)) (.var 12)), true), ((.inr .i64 (.add (.sel (.avar 1) (.var 12)) (.var 3))), true), ((.le (.lit (-1000000)) (.add (.sel (.avar 1) (.var 12)) (.var 3))), true), ((.le (.add (.sel (.avar 1) (.var 12)) (.var 3)) (.lit (1000000))), false)] := ⟨f_nle f1 rfl rfl, f_le f2 rfl rfl, f_in f3 rfl, f_le f4 rfl rfl, f_nle f5 rfl rfl, trivial⟩
                              refine out_run (P := Try.prog) (K := noK) (fl := []) (by kernel_rfl) noK_ok (facD_ok hF) hs2 (fin_run (r := (.pl (.bool true))) (by kernel_rfl) rfl fun W' hbel => ⟨?_, hbel⟩)
                              show Ending.returned (.bool true) = _
                              rfl
                          · skip
                            have hF : Facts [((.le (.var 2) (.var 12)), false), ((.le (.lit (0)) (.var 12)), true), ((.inr .i64 (.add (.sel (.avar 1) (.var 12)) (.var 3))), true), ((.le (.lit (-1000000)) (.add (.sel (.avar 1) (.var 12)) (.var 3))), false)] := ⟨f_nle f1 rfl rfl, f_le f2 rfl rfl, f_in f3 rfl, f_nle f4 rfl rfl, trivial⟩
                            refine out_run (P := Try.prog) (K := noK) (fl := []) (by kernel_rfl) noK_ok (facD_ok hF) hs2 (fin_run (r := (.pl (.bool true))) (by kernel_rfl) rfl fun W' hbel => ⟨?_, hbel⟩)
                            show Ending.returned (.bool true) = _
                            rfl
                    · skip
                      have hF : Facts [((.bvar 0), true), ((.le (.var 2) (.lit (210))), true), ((.le (.var 1) (.lit (0))), true), ((.le (.var 2) (.lit (0))), true), ((.eq (.var 6) (.lit (0))), true), ((.eq (.var 5) (.var 8)), true), ((.eq (.var 4) (.var 7)), true), ((.eq (.var 8) (.lit (0))), true), ((.le (.lit (-100)) (.var 3)), true), ((.le (.var 3) (.lit (100))), false)] := ⟨f1, f_le f2 rfl rfl, f_le f3 rfl rfl, f_le f4 rfl rfl, f_eq f5 rfl rfl, f_eq f6 rfl rfl, f_eq f7 rfl rfl, f_eq f8 rfl rfl, f_le f9 rfl rfl, f_nle f10 rfl rfl, trivial⟩
                      refine call_start (P := Try.prog) (K := orK (orK (orK (trueK 6) (fewK 0)) (orK (ctK 4 true true) (reK 6))) (rtK 7 false false)) (fl := []) (by kernel_rfl) (by kernel_rfl) hx hfar (orK_ok (orK_ok (orK_ok (trueK_ok awake_ok) (fewK_ok (N := N) (n := n) (S := S) rfl rfl rfl rfl hN hn)) (orK_ok (ctK_ok (N := N) (n := n) (m := m) (S := S) (t := t) rfl rfl rfl rfl rfl (fun _ => by show (n : Int) = 0; omega) (fun _ => by show (m : Int) = 0; omega) rfl rfl hN hn (by omega)) (reK_ok (N := N) (n := n) (S := S) rfl rfl rfl rfl hN hn))) (rtK_ok (N := N) (n := n) (m := m) (S := S) (t := t) rfl rfl rfl rfl rfl (fun h => by cases h) (fun h => by cases h) rfl rfl hN hn (by omega) f5)) (facD_ok hF) (fin_run (r := (.pl (.bool true))) (by kernel_rfl) rfl fun W' hbel => ⟨?_, hbel⟩)
                      show Ending.returned (.bool true) = _
                      rfl
                  · skip
                    have hF : Facts [((.bvar 0), true), ((.le (.var 2) (.lit (210))), true), ((.le (.var 1) (.lit (0))), true), ((.le (.var 2) (.lit (0))), true), ((.eq (.var 6) (.lit (0))), true), ((.eq (.var 5) (.var 8)), true), ((.eq (.var 4) (.var 7)), true), ((.eq (.var 8) (.lit (0))), true), ((.le (.lit (-100)) (.var 3)), false)] := ⟨f1, f_le f2 rfl rfl, f_le f3 rfl rfl, f_le f4 rfl rfl, f_eq f5 rfl rfl, f_eq f6 rfl rfl, f_eq f7 rfl rfl, f_eq f8 rfl rfl, f_nle f9 rfl rfl, trivial⟩
                    refine call_start (P := Try.prog) (K := orK (orK (orK (trueK 6) (fewK 0)) (orK (ctK 4 true true) (reK 6))) (rtK 7 false false)) (fl := []) (by kernel_rfl) (by kernel_rfl) hx hfar (orK_ok (orK_ok (orK_ok (trueK_ok awake_ok) (fewK_ok (N := N) (n := n) (S := S) rfl rfl rfl rfl hN hn)) (orK_ok (ctK_ok (N := N) (n := n) (m := m) (S := S) (t := t) rfl rfl rfl rfl rfl (fun _ => by show (n : Int) = 0; omega) (fun _ => by show (m : Int) = 0; omega) rfl rfl hN hn (by omega)) (reK_ok (N := N) (n := n) (S := S) rfl rfl rfl rfl hN hn))) (rtK_ok (N := N) (n := n) (m := m) (S := S) (t := t) rfl rfl rfl rfl rfl (fun h => by cases h) (fun h => by cases h) rfl rfl hN hn (by omega) f5)) (facD_ok hF) (fin_run (r := (.pl (.bool true))) (by kernel_rfl) rfl fun W' hbel => ⟨?_, hbel⟩)
                    show Ending.returned (.bool true) = _
                    rfl
                · skip
                  have hF : Facts [((.bvar 0), true), ((.le (.var 2) (.lit (210))), true), ((.le (.var 1) (.lit (0))), true), ((.le (.var 2) (.lit (0))), true), ((.eq (.var 6) (.lit (0))), true), ((.eq (.var 5) (.var 8)), true), ((.eq (.var 4) (.var 7)), true), ((.eq (.var 8) (.lit (0))), false)] := ⟨f1, f_le f2 rfl rfl, f_le f3 rfl rfl, f_le f4 rfl rfl, f_eq f5 rfl rfl, f_eq f6 rfl rfl, f_eq f7 rfl rfl, f_ne f8 rfl rfl, trivial⟩
                  refine call_start (P := Try.prog) (K := orK (orK (orK (trueK 6) (fewK 0)) (orK (ctK 4 true true) (reK 6))) (rtK 7 false false)) (fl := []) (by kernel_rfl) (by kernel_rfl) hx hfar (orK_ok (orK_ok (orK_ok (trueK_ok awake_ok) (fewK_ok (N := N) (n := n) (S := S) rfl rfl rfl rfl hN hn)) (orK_ok (ctK_ok (N := N) (n := n) (m := m) (S := S) (t := t) rfl rfl rfl rfl rfl (fun _ => by show (n : Int) = 0; omega) (fun _ => by show (m : Int) = 0; omega) rfl rfl hN hn (by omega)) (reK_ok (N := N) (n := n) (S := S) rfl rfl rfl rfl hN hn))) (rtK_ok (N := N) (n := n) (m := m) (S := S) (t := t) rfl rfl rfl rfl rfl (fun h => by cases h) (fun h => by cases h) rfl rfl hN hn (by omega) f5)) (facD_ok hF) (fin_run (r := (.pl (.bool true))) (by kernel_rfl) rfl fun W' hbel => ⟨?_, hbel⟩)
                  show Ending.returned (.bool true) = _
                  rfl
              · skip
                have hF : Facts [((.bvar 0), true), ((.le (.var 2) (.lit (210))), true), ((.le (.var 1) (.lit (0))), true), ((.le (.var 2) (.lit (0))), true), ((.eq (.var 6) (.lit (0))), true), ((.eq (.var 5) (.var 8)), true), ((.eq (.var 4) (.var 7)), false)] := ⟨f1, f_le f2 rfl rfl, f_le f3 rfl rfl, f_le f4 rfl rfl, f_eq f5 rfl rfl, f_eq f6 rfl rfl, f_ne f7 rfl rfl, trivial⟩
                refine call_start (P := Try.prog) (K := orK (orK (orK (trueK 6) (fewK 0)) (orK (ctK 4 true true) (reK 6))) (rtK 7 false false)) (fl := []) (by kernel_rfl) (by kernel_rfl) hx hfar (orK_ok (orK_ok (orK_ok (trueK_ok awake_ok) (fewK_ok (N := N) (n := n) (S := S) rfl rfl rfl rfl hN hn)) (orK_ok (ctK_ok (N := N) (n := n) (m := m) (S := S) (t := t) rfl rfl rfl rfl rfl (fun _ => by show (n : Int) = 0; omega) (fun _ => by show (m : Int) = 0; omega) rfl rfl hN hn (by omega)) (reK_ok (N := N) (n := n) (S := S) rfl rfl rfl rfl hN hn))) (rtK_ok (N := N) (n := n) (m := m) (S := S) (t := t) rfl rfl rfl rfl rfl (fun h => by cases h) (fun h => by cases h) rfl rfl hN hn (by omega) f5)) (facD_ok hF) (fin_run (r := (.pl (.bool false))) (by kernel_rfl) rfl fun W' hbel => ⟨?_, hbel⟩)
                show Ending.returned (.bool false) = _
                have e : ctR N n S m t = rtR N n S m t := by unfold ctR; rw [if_pos f5]
                exact absurd (by rw [e]) f7
            · skip
              have hF : Facts [((.bvar 0), true), ((.le (.var 2) (.lit (210))), true), ((.le (.var 1) (.lit (0))), true), ((.le (.var 2) (.lit (0))), true), ((.eq (.var 6) (.lit (0))), true), ((.eq (.var 5) (.var 8)), false)] := ⟨f1, f_le f2 rfl rfl, f_le f3 rfl rfl, f_le f4 rfl rfl, f_eq f5 rfl rfl, f_ne f6 rfl rfl, trivial⟩
              refine call_start (P := Try.prog) (K := orK (orK (orK (trueK 6) (fewK 0)) (orK (ctK 4 true true) (reK 6))) (rtK 7 false false)) (fl := []) (by kernel_rfl) (by kernel_rfl) hx hfar (orK_ok (orK_ok (orK_ok (trueK_ok awake_ok) (fewK_ok (N := N) (n := n) (S := S) rfl rfl rfl rfl hN hn)) (orK_ok (ctK_ok (N := N) (n := n) (m := m) (S := S) (t := t) rfl rfl rfl rfl rfl (fun _ => by show (n : Int) = 0; omega) (fun _ => by show (m : Int) = 0; omega) rfl rfl hN hn (by omega)) (reK_ok (N := N) (n := n) (S := S) rfl rfl rfl rfl hN hn))) (rtK_ok (N := N) (n := n) (m := m) (S := S) (t := t) rfl rfl rfl rfl rfl (fun h => by cases h) (fun h => by cases h) rfl rfl hN hn (by omega) f5)) (facD_ok hF) (fin_run (r := (.pl (.bool false))) (by kernel_rfl) rfl fun W' hbel => ⟨?_, hbel⟩)
              show Ending.returned (.bool false) = _
              have e : ctR N n S m t = rtR N n S m t := by unfold ctR; rw [if_pos f5]
              exact absurd (by rw [e]) f6
          · skip
            by_cases f6 : (ctR N n S m t).2 = (cnR N n S).2
            · skip
              by_cases f7 : (ctR N n S m t).1 = 0
              · skip
                have hF : Facts [((.bvar 0), true), ((.le (.var 2) (.lit (210))), true), ((.le (.var 1) (.lit (0))), true), ((.le (.var 2) (.lit (0))), true), ((.eq (.var 6) (.lit (0))), false), ((.eq (.var 5) (.var 6)), true), ((.eq (.var 4) (.lit (0))), true)] := ⟨f1, f_le f2 rfl rfl, f_le f3 rfl rfl, f_le f4 rfl rfl, f_ne f5 rfl rfl, f_eq f6 rfl rfl, f_eq f7 rfl rfl, trivial⟩
                refine call_start (P := Try.prog) (K := orK (orK (trueK 6) (fewK 0)) (orK (ctK 4 true true) (reK 6))) (fl := []) (by kernel_rfl) (by kernel_rfl) hx hfar (orK_ok (orK_ok (trueK_ok awake_ok) (fewK_ok (N := N) (n := n) (S := S) rfl rfl rfl rfl hN hn)) (orK_ok (ctK_ok (N := N) (n := n) (m := m) (S := S) (t := t) rfl rfl rfl rfl rfl (fun _ => by show (n : Int) = 0; omega) (fun _ => by show (m : Int) = 0; omega) rfl rfl hN hn (by omega)) (reK_ok (N := N) (n := n) (S := S) rfl rfl rfl rfl hN hn))) (facD_ok hF) (fin_run (r := (.pl (.bool true))) (by kernel_rfl) rfl fun W' hbel => ⟨?_, hbel⟩)
                show Ending.returned (.bool true) = _
                rfl
              · skip
                have hF : Facts [((.bvar 0), true), ((.le (.var 2) (.lit (210))), true), ((.le (.var 1) (.lit (0))), true), ((.le (.var 2) (.lit (0))), true), ((.eq (.var 6) (.lit (0))), false), ((.eq (.var 5) (.var 6)), true), ((.eq (.var 4) (.lit (0))), false)] := ⟨f1, f_le f2 rfl rfl, f_le f3 rfl rfl, f_le f4 rfl rfl, f_ne f5 rfl rfl, f_eq f6 rfl rfl, f_ne f7 rfl rfl, trivial⟩
                refine call_start (P := Try.prog) (K := orK (orK (trueK 6) (fewK 0)) (orK (ctK 4 true true) (reK 6))) (fl := []) (by kernel_rfl) (by kernel_rfl) hx hfar (orK_ok (orK_ok (trueK_ok awake_ok) (fewK_ok (N := N) (n := n) (S := S) rfl rfl rfl rfl hN hn)) (orK_ok (ctK_ok (N := N) (n := n) (m := m) (S := S) (t := t) rfl rfl rfl rfl rfl (fun _ => by show (n : Int) = 0; omega) (fun _ => by show (m : Int) = 0; omega) rfl rfl hN hn (by omega)) (reK_ok (N := N) (n := n) (S := S) rfl rfl rfl rfl hN hn))) (facD_ok hF) (fin_run (r := (.pl (.bool false))) (by kernel_rfl) rfl fun W' hbel => ⟨?_, hbel⟩)
                show Ending.returned (.bool false) = _
                have e : ctR N n S m t = (0, (cnR N n S).2) := by unfold ctR; rw [if_neg f5]
                exact absurd (by rw [e]) f7
            · skip
              have hF : Facts [((.bvar 0), true), ((.le (.var 2) (.lit (210))), true), ((.le (.var 1) (.lit (0))), true), ((.le (.var 2) (.lit (0))), true), ((.eq (.var 6) (.lit (0))), false), ((.eq (.var 5) (.var 6)), false)] := ⟨f1, f_le f2 rfl rfl, f_le f3 rfl rfl, f_le f4 rfl rfl, f_ne f5 rfl rfl, f_ne f6 rfl rfl, trivial⟩
              refine call_start (P := Try.prog) (K := orK (orK (trueK 6) (fewK 0)) (orK (ctK 4 true true) (reK 6))) (fl := []) (by kernel_rfl) (by kernel_rfl) hx hfar (orK_ok (orK_ok (trueK_ok awake_ok) (fewK_ok (N := N) (n := n) (S := S) rfl rfl rfl rfl hN hn)) (orK_ok (ctK_ok (N := N) (n := n) (m := m) (S := S) (t := t) rfl rfl rfl rfl rfl (fun _ => by show (n : Int) = 0; omega) (fun _ => by show (m : Int) = 0; omega) rfl rfl hN hn (by omega)) (reK_ok (N := N) (n := n) (S := S) rfl rfl rfl rfl hN hn))) (facD_ok hF) (fin_run (r := (.pl (.bool false))) (by kernel_rfl) rfl fun W' hbel => ⟨?_, hbel⟩)
              show Ending.returned (.bool false) = _
              have e : ctR N n S m t = (0, (cnR N n S).2) := by unfold ctR; rw [if_neg f5]
              exact absurd (by rw [e]) f6
        · skip
          have f5 : ((m : Int) ≤ 100000) := by
            first | omega | (have hq := fewF_n f1; omega) | (have hq := (cn_right hcn0).2.1; omega) | (have hq := htb 0 (by omega); have hq2 : flat1 t 0 = t 0 := rfl; constructor <;> omega) | (have hq := htb k (by omega); have hq2 : flat1 t (k : Int) = t k := rfl; constructor <;> omega)
          by_cases f6 : (cnR N n S).2 = 0
          · skip
            by_cases f7 : (ctR N n S m t).2 = (rtR N n S m t).2
            · skip
              by_cases f8 : (ctR N n S m t).1 = (rtR N n S m t).1
              · skip
                by_cases f9 : (rtR N n S m t).2 = 0
                · skip
                  by_cases f10 : (-100) ≤ more
                  · skip
                    by_cases f11 : more ≤ 100
                    · skip
                      have hF : Facts [((.bvar 0), true), ((.le (.var 2) (.lit (210))), true), ((.le (.var 1) (.lit (0))), true), ((.le (.var 2) (.lit (0))), false), ((.le (.var 2) (.lit (100000))), true), ((.eq (.var 6) (.lit (0))), true), ((.eq (.var 5) (.var 8)), true), ((.eq (.var 4) (.var 7)), true), ((.eq (.var 8) (.lit (0))), true), ((.le (.lit (-100)) (.var 3)), true), ((.le (.var 3) (.lit (100))), true)] := ⟨f1, f_le f2 rfl rfl, f_le f3 rfl rfl, f_nle f4 rfl rfl, f_le f5 rfl rfl, f_eq f6 rfl rfl, f_eq f7 rfl rfl, f_eq f8 rfl rfl, f_eq f9 rfl rfl, f_le f10 rfl rfl, f_le f11 rfl rfl, trivial⟩
                      have hcn0 : (cnR N n S).2 = 0 := f6
                      have hrt0 : (rtR N n S m t).2 = 0 := f9
                      have hct0 : (ctR N n S m t).2 = 0 := by rw [f7]; exact hrt0
                      have hm210 : (m : Int) ≤ 210 := f2
                      have hmo1 : -100 ≤ more := f10
                      have hmo2 : more ≤ 100 := f11
                      have htb : ∀ j, j < m → -1000000 ≤ t j ∧ t j ≤ 1000000 := tr_right (rt_tr hrt0)
                      refine call_start (P := Try.prog) (K := orK (orK (orK (trueK 6) (fewK 0)) (orK (ctK 4 true false) (reK 6))) (rtK 7 false false)) (fl := []) (by kernel_rfl) (by kernel_rfl) hx hfar (orK_ok (orK_ok (orK_ok (trueK_ok awake_ok) (fewK_ok (N := N) (n := n) (S := S) rfl rfl rfl rfl hN hn)) (orK_ok (ctK_ok (N := N) (n := n) (m := m) (S := S) (t := t) rfl rfl rfl rfl rfl (fun _ => by show (n : Int) = 0; omega) (fun h => by cases h) rfl rfl hN hn (by omega)) (reK_ok (N := N) (n := n) (S := S) rfl rfl rfl rfl hN hn))) (rtK_ok (N := N) (n := n) (m := m) (S := S) (t := t) rfl rfl rfl rfl rfl (fun h => by cases h) (fun h => by cases h) rfl rfl hN hn (by omega) f6)) (facD_ok hF) (enter_run (B := 11) (a' := lut2_a) (h' := lut2_h) (ρ' := rhoL W.heap.size ([N, (n : Int), (m : Int), more, (ctR N n S m t).1, (ctR N n S m t).2, (cnR N n S).2, (rtR N n S m t).1, (rtR N n S m t).2, (ctR N n S m (fun i => t i + more)).1, (ctR N n S m (fun i => t i + more)).2] ++ [0, 0]) [⟨A, n * 4, flat4 S⟩, ⟨B, m, flat1 t⟩] [(fewF N n S)] [(fun _ : Int => 0)]) (ds := []) (c := (loopIn (bodyC Try.prog 3) 0)) (by kernel_rfl) (by kernel_rfl) rfl (agree_list (l := [N, (n : Int), (m : Int), more, (ctR N n S m t).1, (ctR N n S m t).2, (cnR N n S).2, (rtR N n S m t).1, (rtR N n S m t).2, (ctR N n S m (fun i => t i + more)).1, (ctR N n S m (fun i => t i + more)).2]) (x := []) (Nat.le_refl _) rfl) trivial fun A1 W1 hs1 => ?_)
                      refine loop_okS (Inv := fun ρ a h => ∃ (L : Nat) (k : Nat) (F : Int → Int), (k ≤ m ∧ L = k ∧ (∀ j : Nat, j < k → F (j : Int) = t j + more) ∧ (∀ j : Nat, j < k → -1000000 ≤ t j + more ∧ t j + more ≤ 1000000)) ∧ ρ = rhoL W.heap.size ([N, (n : Int), (m : Int), more, (ctR N n S m t).1, (ctR N n S m t).2, (cnR N n S).2, (rtR N n S m t).1, (rtR N n S m t).2, (ctR N n S m (fun i => t i + more)).1, (ctR N n S m (fun i => t i + more)).2] ++ [(L : Int), (k : Int)]) [⟨A, n * 4, flat4 S⟩, ⟨B, m, flat1 t⟩] [(fewF N n S)] [F] ∧ ((a = lut2_a ∧ h = lut2_h ∧ (k = 0)) ∨ (a = lut2_1_a ∧ h = lut2_1_h ∧ (True)))) (μ := fun ρ => m - (@Rho.i ρ 12).toNat) ?_ _ _ _ ⟨0, 0, (fun _ : Int => 0), ?_, rfl, .inl ⟨rfl, rfl, ?_⟩⟩ A1 W1 hs1
                      rotate_left
                      · exact ⟨Nat.zero_le _, rfl, fun j hj => absurd hj (Nat.not_lt_zero j), fun j hj => absurd hj (Nat.not_lt_zero j)⟩
                      · rfl
                      first | clear hs1 hx | clear hs1
                      rintro ρ a h ⟨L, k, F, hinv, rfl, hhead⟩ A2 W2 hs2
                      letI : Rho := rhoL W.heap.size ([N, (n : Int), (m : Int), more, (ctR N n S m t).1, (ctR N n S m t).2, (cnR N n S).2, (rtR N n S m t).1, (rtR N n S m t).2, (ctR N n S m (fun i => t i + more)).1, (ctR N n S m (fun i => t i + more)).2] ++ [(L : Int), (k : Int)]) [⟨A, n * 4, flat4 S⟩, ⟨B, m, flat1 t⟩] [(fewF N n S)] [F]
                      obtain ⟨hk, hL, hFe, hB⟩ := hinv
                      rcases hhead with ⟨rfl, rfl, hcond⟩ | ⟨rfl, rfl, hcond⟩
                      · skip
                        by_cases f1 : (m : Int) ≤ 0
                        · skip
                          by_cases f2 : (n : Int) ≤ 0
                          · skip
                            by_cases f3 : (ctR N n S m t).2 = 0
                            · skip
                              have hF : Facts [((.le (.var 2) (.lit (0))), true), ((.le (.var 1) (.lit (0))), true), ((.eq (.var 5) (.lit (0))), true)] := ⟨f_le f1 rfl rfl, f_le f2 rfl rfl, f_eq f3 rfl rfl, trivial⟩
                              refine out_run (P := Try.prog) (K := ctK 4 true true) (fl := []) (by kernel_rfl) (ctK_ok (N := N) (n := n) (m := m) (S := S) (t := t) rfl rfl rfl rfl rfl (fun _ => by show (n : Int) = 0; omega) (fun _ => by show (m : Int) = 0; omega) rfl rfl hN hn (by omega)) (facD_ok hF) hs2 (fin_run (r := (.pl (.bool true))) (by kernel_rfl) rfl fun W' hbel => ⟨?_, hbel⟩)
                              show Ending.returned (.bool true) = _
                              rfl
                            · skip
                              have hF : Facts [((.le (.var 2) (.lit (0))), true), ((.le (.var 1) (.lit (0))), true), ((.eq (.var 5) (.lit (0))), false)] := ⟨f_le f1 rfl rfl, f_le f2 rfl rfl, f_ne f3 rfl rfl, trivial⟩
                              refine out_run (P := Try.prog) (K := ctK 4 true true) (fl := []) (by kernel_rfl) (ctK_ok (N := N) (n := n) (m := m) (S := S) (t := t) rfl rfl rfl rfl rfl (fun _ => by show (n : Int) = 0; omega) (fun _ => by show (m : Int) = 0; omega) rfl rfl hN hn (by omega)) (facD_ok hF) hs2 (fin_run (r := (.pl (.bool false))) (by kernel_rfl) rfl fun W' hbel => ⟨?_, hbel⟩)
                              show Ending.returned (.bool false) = _
                              exact absurd hct0 f3
                          · skip
                            have f3 : ((n : Int) ≤ 100000) := by
                              first | omega | (have hq := fewF_n f1; omega) | (have hq := (cn_right hcn0).2.1; omega) | (have hq := htb 0 (by omega); have hq2 : flat1 t 0 = t 0 := rfl; constructor <;> omega) | (have hq := htb k (by omega); have hq2 : flat1 t (k : Int) = t k := rfl; constructor <;> omega)
                            by_cases f4 : (ctR N n S m t).2 = 0
                            · skip
                              have hF : Facts [((.le (.var 2) (.lit (0))), true), ((.le (.var 1) (.lit (0))), false), ((.le (.var 1) (.lit (100000))), true), ((.eq (.var 5) (.lit (0))), true)] := ⟨f_le f1 rfl rfl, f_nle f2 rfl rfl, f_le f3 rfl rfl, f_eq f4 rfl rfl, trivial⟩
                              refine out_run (P := Try.prog) (K := ctK 4 false true) (fl := []) (by kernel_rfl) (ctK_ok (N := N) (n := n) (m := m) (S := S) (t := t) rfl rfl rfl rfl rfl (fun h => by cases h) (fun _ => by show (m : Int) = 0; omega) rfl rfl hN hn (by omega)) (facD_ok hF) hs2 (fin_run (r := (.pl (.bool true))) (by kernel_rfl) rfl fun W' hbel => ⟨?_, hbel⟩)
                              show Ending.returned (.bool true) = _
                              rfl
                            · skip
                              have hF : Facts [((.le (.var 2) (.lit (0))), true), ((.le (.var 1) (.lit (0))), false), ((.le (.var 1) (.lit (100000))), true), ((.eq (.var 5) (.lit (0))), false)] := ⟨f_le f1 rfl rfl, f_nle f2 rfl rfl, f_le f3 rfl rfl, f_ne f4 rfl rfl, trivial⟩
                              refine out_run (P := Try.prog) (K := ctK 4 false true) (fl := []) (by kernel_rfl) (ctK_ok (N := N) (n := n) (m := m) (S := S) (t := t) rfl rfl rfl rfl rfl (fun h => by cases h) (fun _ => by show (m : Int) = 0; omega) rfl rfl hN hn (by omega)) (facD_ok hF) hs2 (fin_run (r := (.pl (.bool false))) (by kernel_rfl) rfl fun W' hbel => ⟨?_, hbel⟩)
                              show Ending.returned (.bool false) = _
                              exact absurd hct0 f4
                        · skip
                          have f2 : (-9223372036854775808 : Int) ≤ ((flat1 t 0) + more) ∧ ((flat1 t 0) + more) ≤ 9223372036854775807 := by
                            first | omega | (have hq := fewF_n f1; omega) | (have hq := (cn_right hcn0).2.1; omega) | (have hq := htb 0 (by omega); have hq2 : flat1 t 0 = t 0 := rfl; constructor <;> omega) | (have hq := htb k (by omega); have hq2 : flat1 t (k : Int) = t k := rfl; constructor <;> omega)
                          by_cases f3 : (-1000000) ≤ ((flat1 t 0) + more)
                          · skip
                            by_cases f4 : ((flat1 t 0) + more) ≤ 1000000
                            · skip
                              have hF : Facts [((.le (.var 2) (.lit (0))), false), ((.inr .i64 (.add (.sel (.avar 1) (.lit (0))) (.var 3))), true), ((.le (.lit (-1000000)) (.add (.sel (.avar 1) (.lit (0))) (.var 3))), true), ((.le (.add (.sel (.avar 1) (.lit (0))) (.var 3)) (.lit (1000000))), true)] := ⟨f_nle f1 rfl rfl, f_in f2 rfl, f_le f3 rfl rfl, f_le f4 rfl rfl, trivial⟩
                              refine again_runP (P := Try.prog) (K := noK) (fl := []) (B := 11) (l := [.row 7 1 1]) (a' := lut2_1_a) (h' := lut2_1_h) (ρ' := rhoL W.heap.size ([N, (n : Int), (m : Int), more, (ctR N n S m t).1, (ctR N n S m t).2, (cnR N n S).2, (rtR N n S m t).1, (rtR N n S m t).2, (ctR N n S m (fun i => t i + more)).1, (ctR N n S m (fun i => t i + more)).2] ++ [(((L + 1) : Nat) : Int), (((k + 1) : Nat) : Int)]) [⟨A, n * 4, flat4 S⟩, ⟨B, m, flat1 t⟩] [(fewF N n S)] [(fun j : Int => if j = 0 then ((flat1 t 0) + more) else (fun _ : Int => 0) j)]) (ds := [.int (.lit (1)) (.var 11), .int (.lit (1)) (.var 12), .row (.upd .azero (.lit (0)) (.add (.sel (.avar 1) (.lit (0))) (.var 3))) (.avar 50), .int (.lit (1)) (.var 11)]) (by kernel_rfl) noK_ok (facD_ok hF) (by kernel_rfl) (agree_list (l := [N, (n : Int), (m : Int), more, (ctR N n S m t).1, (ctR N n S m t).2, (cnR N n S).2, (rtR N n S m t).1, (rtR N n S m t).2, (ctR N n S m (fun i => t i + more)).1, (ctR N n S m (fun i => t i + more)).2]) (Nat.le_refl _) rfl) ⟨(show (1 : Int) = (((L + 1) : Nat) : Int) from by first | rfl | (push_cast; omega)), (show (1 : Int) = (((k + 1) : Nat) : Int) from by first | rfl | (push_cast; omega)), rfl, (show (1 : Int) = (((L + 1) : Nat) : Int) from by first | rfl | (push_cast; omega)), trivial⟩ hs2 fun A3 W3 hs3 => ⟨_, _, _, ⟨(L + 1), (k + 1), (fun j : Int => if j = 0 then ((flat1 t 0) + more) else (fun _ : Int => 0) j), ?_, rfl, .inr ⟨rfl, rfl, ?_⟩⟩, ?_, hs3⟩
                              · refine ⟨by omega, by omega, fun j hj => ?_, fun j hj => ?_⟩
                                · obtain rfl : j = 0 := by omega
                                  show (if ((0 : Nat) : Int) = 0 then flat1 t 0 + more else 0) = t 0 + more
                                  exact if_pos (by simp)
                                · obtain rfl : j = 0 := by omega
                                  have e : flat1 t 0 = t 0 := rfl
                                  omega
                              · trivial
                              · show m - ((k + 1 : Nat) : Int).toNat < m - ((k : Nat) : Int).toNat
                                omega
                            · skip
                              have hF : Facts [((.le (.var 2) (.lit (0))), false), ((.inr .i64 (.add (.sel (.avar 1) (.lit (0))) (.var 3))), true), ((.le (.lit (-1000000)) (.add (.sel (.avar 1) (.lit (0))) (.var 3))), true), ((.le (.add (.sel (.avar 1) (.lit (0))) (.var 3)) (.lit (1000000))), false)] := ⟨f_nle f1 rfl rfl, f_in f2 rfl, f_le f3 rfl rfl, f_nle f4 rfl rfl, trivial⟩
                              refine out_run (P := Try.prog) (K := noK) (fl := []) (by kernel_rfl) noK_ok (facD_ok hF) hs2 (fin_run (r := (.pl (.bool true))) (by kernel_rfl) rfl fun W' hbel => ⟨?_, hbel⟩)
                              show Ending.returned (.bool true) = _
                              rfl
                          · skip
                            have hF : Facts [((.le (.var 2) (.lit (0))), false), ((.inr .i64 (.add (.sel (.avar 1) (.lit (0))) (.var 3))), true), ((.le (.lit (-1000000)) (.add (.sel (.avar 1) (.lit (0))) (.var 3))), false)] := ⟨f_nle f1 rfl rfl, f_in f2 rfl, f_nle f3 rfl rfl, trivial⟩
                            refine out_run (P := Try.prog) (K := noK) (fl := []) (by kernel_rfl) noK_ok (facD_ok hF) hs2 (fin_run (r := (.pl (.bool true))) (by kernel_rfl) rfl fun W' hbel => ⟨?_, hbel⟩)
                            show Ending.returned (.bool true) = _
                            rfl
                      · skip
                        by_cases f1 : (m : Int) ≤ (k : Int)
                        · skip
                          by_cases f2 : (n : Int) ≤ 0
                          · skip
                            by_cases f3 : (ctR N n S m (fun i => t i + more)).2 = 0
                            · skip
                              have hF : Facts [((.le (.var 2) (.var 12)), true), ((.le (.var 1) (.lit (0))), true), ((.eq (.var 10) (.lit (0))), true)] := ⟨f_le f1 rfl rfl, f_le f2 rfl rfl, f_eq f3 rfl rfl, trivial⟩
                              refine out_run (P := Try.prog) (K := ctK2 9 11 true) (fl := []) (by kernel_rfl) (ctK2_ok (N := N) (n := n) (m := m) (S := S) (t := fun i => t i + more) rfl rfl rfl rfl (by show (L : Int) = (m : Int); omega) (fun j hj => hFe j (by omega)) (fun _ => by show (n : Int) = 0; omega) rfl rfl hN hn (by omega)) (facD_ok hF) hs2 (fin_run (r := (.sb (.eq (.var 9) (.var 4)))) (by kernel_rfl) rfl fun W' hbel => ⟨?_, hbel⟩)
                              show Ending.returned (.bool (decide ((ctR N n S m (fun i => t i + more)).1 = (ctR N n S m t).1))) = _
                              rw [ct_more hcn0 hrt0 (fun j hj => hB j (by omega))]
                              simp
                            · skip
                              have hF : Facts [((.le (.var 2) (.var 12)), true), ((.le (.var 1) (.lit (0))), true), ((.eq (.var 10) (.lit (0))), false)] := ⟨f_le f1 rfl rfl, f_le f2 rfl rfl, f_ne f3 rfl rfl, trivial⟩
                              refine out_run (P := Try.prog) (K := ctK2 9 11 true) (fl := []) (by kernel_rfl) (ctK2_ok (N := N) (n := n) (m := m) (S := S) (t := fun i => t i + more) rfl rfl rfl rfl (by show (L : Int) = (m : Int); omega) (fun j hj => hFe j (by omega)) (fun _ => by show (n : Int) = 0; omega) rfl rfl hN hn (by omega)) (facD_ok hF) hs2 (fin_run (r := (.pl (.bool false))) (by kernel_rfl) rfl fun W' hbel => ⟨?_, hbel⟩)
                              show Ending.returned (.bool false) = _
                              exact absurd (by rw [ct_more hcn0 hrt0 (fun j hj => hB j (by omega)), hct0]) f3
                          · skip
                            have f3 : ((n : Int) ≤ 100000) := by
                              first | omega | (have hq := fewF_n f1; omega) | (have hq := (cn_right hcn0).2.1; omega) | (have hq := htb 0 (by omega); have hq2 : flat1 t 0 = t 0 := rfl; constructor <;> omega) | (have hq := htb k (by omega); have hq2 : flat1 t (k : Int) = t k := rfl; constructor <;> omega)
                            by_cases f4 : (ctR N n S m (fun i => t i + more)).2 = 0
                            · skip
                              have hF : Facts [((.le (.var 2) (.var 12)), true), ((.le (.var 1) (.lit (0))), false), ((.le (.var 1) (.lit (100000))), true), ((.eq (.var 10) (.lit (0))), true)] := ⟨f_le f1 rfl rfl, f_nle f2 rfl rfl, f_le f3 rfl rfl, f_eq f4 rfl rfl, trivial⟩
                              refine out_run (P := Try.prog) (K := ctK2 9 11 false) (fl := []) (by kernel_rfl) (ctK2_ok (N := N) (n := n) (m := m) (S := S) (t := fun i => t i + more) rfl rfl rfl rfl (by show (L : Int) = (m : Int); omega) (fun j hj => hFe j (by omega)) (fun h => by cases h) rfl rfl hN hn (by omega)) (facD_ok hF) hs2 (fin_run (r := (.sb (.eq (.var 9) (.var 4)))) (by kernel_rfl) rfl fun W' hbel => ⟨?_, hbel⟩)
                              show Ending.returned (.bool (decide ((ctR N n S m (fun i => t i + more)).1 = (ctR N n S m t).1))) = _
                              rw [ct_more hcn0 hrt0 (fun j hj => hB j (by omega))]
                              simp
                            · skip
                              have hF : Facts [((.le (.var 2) (.var 12)), true), ((.le (.var 1) (.lit (0))), false), ((.le (.var 1) (.lit (100000))), true), ((.eq (.var 10) (.lit (0))), false)] := ⟨f_le f1 rfl rfl, f_nle f2 rfl rfl, f_le f3 rfl rfl, f_ne f4 rfl rfl, trivial⟩
                              refine out_run (P := Try.prog) (K := ctK2 9 11 false) (fl := []) (by kernel_rfl) (ctK2_ok (N := N) (n := n) (m := m) (S := S) (t := fun i => t i + more) rfl rfl rfl rfl (by show (L : Int) = (m : Int); omega) (fun j hj => hFe j (by omega)) (fun h => by cases h) rfl rfl hN hn (by omega)) (facD_ok hF) hs2 (fin_run (r := (.pl (.bool false))) (by kernel_rfl) rfl fun W' hbel => ⟨?_, hbel⟩)
                              show Ending.returned (.bool false) = _
                              exact absurd (by rw [ct_more hcn0 hrt0 (fun j hj => hB j (by omega)), hct0]) f4
                        · skip
                          have f2 : (0 ≤ (k : Int)) := by
                            first | omega | (have hq := fewF_n f1; omega) | (have hq := (cn_right hcn0).2.1; omega) | (have hq := htb 0 (by omega); have hq2 : flat1 t 0 = t 0 := rfl; constructor <;> omega) | (have hq := htb k (by omega); have hq2 : flat1 t (k : Int) = t k := rfl; constructor <;> omega)
                          have f3 : (-9223372036854775808 : Int) ≤ ((flat1 t (k : Int)) + more) ∧ ((flat1 t (k : Int)) + more) ≤ 9223372036854775807 := by
                            first | omega | (have hq := fewF_n f1; omega) | (have hq := (cn_right hcn0).2.1; omega) | (have hq := htb 0 (by omega); have hq2 : flat1 t 0 = t 0 := rfl; constructor <;> omega) | (have hq := htb k (by omega); have hq2 : flat1 t (k : Int) = t k := rfl; constructor <;> omega)
                          by_cases f4 : (-1000000) ≤ ((flat1 t (k : Int)) + more)
                          · skip
                            by_cases f5 : ((flat1 t (k : Int)) + more) ≤ 1000000
                            · skip
                              have f6 : ((L : Int) ≤ 99999) := by
                                first | omega | (have hq := fewF_n f1; omega) | (have hq := (cn_right hcn0).2.1; omega) | (have hq := htb 0 (by omega); have hq2 : flat1 t 0 = t 0 := rfl; constructor <;> omega) | (have hq := htb k (by omega); have hq2 : flat1 t (k : Int) = t k := rfl; constructor <;> omega)
                              have f7 : (-9223372036854775808 : Int) ≤ ((k : Int) + 1) ∧ ((k : Int) + 1) ≤ 9223372036854775807 := by
                                first | omega | (have hq := fewF_n f1; omega) | (have hq := (cn_right hcn0).2.1; omega) | (have hq := htb 0 (by omega); have hq2 : flat1 t 0 = t 0 := rfl; constructor <;> omega) | (have hq := htb k (by omega); have hq2 : flat1 t (k : Int) = t k := rfl; constructor <;> omega)
                              have hF : Facts [((.le (.var 2) (.var 12)), false), ((.le (.lit (0)) (.var 12)), true), ((.inr .i64 (.add (.sel (.avar 1) (.var 12)) (.var 3))), true), ((.le (.lit (-1000000)) (.add (.sel (.avar 1) (.var 12)) (.var 3))), true), ((.le (.add (.sel (.avar 1) (.var 12)) (.var 3)) (.lit (1000000))), true), ((.le (.var 11) (.lit (99999))), true), ((.inr .i64 (.add (.var 12) (.lit (1)))), true)] := ⟨f_nle f1 rfl rfl, f_le f2 rfl rfl, f_in f3 rfl, f_le f4 rfl rfl, f_le f5 rfl rfl, f_le f6 rfl rfl, f_in f7 rfl, trivial⟩
                              refine again_runP (P := Try.prog) (K := noK) (fl := []) (B := 11) (l := [.mov 7 9]) (a' := lut2_1_a) (h' := lut2_1_h) (ρ' := rhoL W.heap.size ([N, (n : Int), (m : Int), more, (ctR N n S m t).1, (ctR N n S m t).2, (cnR N n S).2, (rtR N n S m t).1, (rtR N n S m t).2, (ctR N n S m (fun i => t i + more)).1, (ctR N n S m (fun i => t i + more)).2] ++ [(((L + 1) : Nat) : Int), (((k + 1) : Nat) : Int)]) [⟨A, n * 4, flat4 S⟩, ⟨B, m, flat1 t⟩] [(fewF N n S)] [(fun j : Int => if j = (L : Int) then ((flat1 t (k : Int)) + more) else F j)]) (ds := [.int (.add (.var 11) (.lit (1))) (.var 11), .int (.add (.var 12) (.lit (1))) (.var 12), .row (.upd (.avar 50) (.var 11) (.add (.sel (.avar 1) (.var 12)) (.var 3))) (.avar 50), .int (.add (.var 11) (.lit (1))) (.var 11)]) (by kernel_rfl) noK_ok (facD_ok hF) (by kernel_rfl) (agree_list (l := [N, (n : Int), (m : Int), more, (ctR N n S m t).1, (ctR N n S m t).2, (cnR N n S).2, (rtR N n S m t).1, (rtR N n S m t).2, (ctR N n S m (fun i => t i + more)).1, (ctR N n S m (fun i => t i + more)).2]) (Nat.le_refl _) rfl) ⟨(show (((L : Int) + 1) : Int) = (((L + 1) : Nat) : Int) from by first | rfl | (push_cast; omega)), (show (((k : Int) + 1) : Int) = (((k + 1) : Nat) : Int) from by first | rfl | (push_cast; omega)), rfl, (show (((L : Int) + 1) : Int) = (((L + 1) : Nat) : Int) from by first | rfl | (push_cast; omega)), trivial⟩ hs2 fun A3 W3 hs3 => ⟨_, _, _, ⟨(L + 1), (k + 1), (fun j : Int => if j = (L : Int) then ((flat1 t (k : Int)) + more) else F j), ?_, rfl, .inr ⟨rfl, rfl, ?_⟩⟩, ?_, hs3⟩
                              · refine ⟨by omega, by omega, fun j hj => ?_, fun j hj => ?_⟩
                                · show (if (j : Int) = (L : Int) then flat1 t (k : Int) + more else F (j : Int)) = t j + more
                                  rcases Nat.lt_or_ge j k with g | g
                                  · rw [if_neg (by omega)]
                                    exact hFe j g
                                  · obtain rfl : j = k := by omega
                                    rw [if_pos (by omega)]
                                    rfl
                                · rcases Nat.lt_or_ge j k with g | g
                                  · exact hB j g
                                  · obtain rfl : j = k := by omega
                                    have e : flat1 t (j : Int) = t j := rfl
                                    omega
                              · trivial
                              · show m - ((k + 1 : Nat) : Int).toNat < m - ((k : Nat) : Int).toNat
                                omega
                            · skip
                              have hF : Facts [((.le (.var 2) (.var 12)), false), ((.le (.lit (0)) (.var 12)), true), ((.inr .i64 (.add (.sel (.avar 1) (.var 12)) (.var 3))), true), ((.le (.lit (-1000000)) (.add (.sel (.avar 1) (.var 12)) (.var 3))), true), ((.le (.add (.sel (.avar 1) (.var 12)) (.var 3)) (.lit (1000000))), false)] := ⟨f_nle f1 rfl rfl, f_le f2 rfl rfl, f_in f3 rfl, f_le f4 rfl rfl, f_nle f5 rfl rfl, trivial⟩
                              refine out_run (P := Try.prog) (K := noK) (fl := []) (by kernel_rfl) noK_ok (facD_ok hF) hs2 (fin_run (r := (.pl (.bool true))) (by kernel_rfl) rfl fun W' hbel => ⟨?_, hbel⟩)
                              show Ending.returned (.bool true) = _
                              rfl
                          · skip
                            have hF : Facts [((.le (.var 2) (.var 12)), false), ((.le (.lit (0)) (.var 12)), true), ((.inr .i64 (.add (.sel (.avar 1) (.var 12)) (.var 3))), true), ((.le (.lit (-1000000)) (.add (.sel (.avar 1) (.var 12)) (.var 3))), false)] := ⟨f_nle f1 rfl rfl, f_le f2 rfl rfl, f_in f3 rfl, f_nle f4 rfl rfl, trivial⟩
                            refine out_run (P := Try.prog) (K := noK) (fl := []) (by kernel_rfl) noK_ok (facD_ok hF) hs2 (fin_run (r := (.pl (.bool true))) (by kernel_rfl) rfl fun W' hbel => ⟨?_, hbel⟩)
                            show Ending.returned (.bool true) = _
                            rfl
                    · skip
                      have hF : Facts [((.bvar 0), true), ((.le (.var 2) (.lit (210))), true), ((.le (.var 1) (.lit (0))), true), ((.le (.var 2) (.lit (0))), false), ((.le (.var 2) (.lit (100000))), true), ((.eq (.var 6) (.lit (0))), true), ((.eq (.var 5) (.var 8)), true), ((.eq (.var 4) (.var 7)), true), ((.eq (.var 8) (.lit (0))), true), ((.le (.lit (-100)) (.var 3)), true), ((.le (.var 3) (.lit (100))), false)] := ⟨f1, f_le f2 rfl rfl, f_le f3 rfl rfl, f_nle f4 rfl rfl, f_le f5 rfl rfl, f_eq f6 rfl rfl, f_eq f7 rfl rfl, f_eq f8 rfl rfl, f_eq f9 rfl rfl, f_le f10 rfl rfl, f_nle f11 rfl rfl, trivial⟩
                      refine call_start (P := Try.prog) (K := orK (orK (orK (trueK 6) (fewK 0)) (orK (ctK 4 true false) (reK 6))) (rtK 7 false false)) (fl := []) (by kernel_rfl) (by kernel_rfl) hx hfar (orK_ok (orK_ok (orK_ok (trueK_ok awake_ok) (fewK_ok (N := N) (n := n) (S := S) rfl rfl rfl rfl hN hn)) (orK_ok (ctK_ok (N := N) (n := n) (m := m) (S := S) (t := t) rfl rfl rfl rfl rfl (fun _ => by show (n : Int) = 0; omega) (fun h => by cases h) rfl rfl hN hn (by omega)) (reK_ok (N := N) (n := n) (S := S) rfl rfl rfl rfl hN hn))) (rtK_ok (N := N) (n := n) (m := m) (S := S) (t := t) rfl rfl rfl rfl rfl (fun h => by cases h) (fun h => by cases h) rfl rfl hN hn (by omega) f6)) (facD_ok hF) (fin_run (r := (.pl (.bool true))) (by kernel_rfl) rfl fun W' hbel => ⟨?_, hbel⟩)
                      show Ending.returned (.bool true) = _
                      rfl
                  · skip
                    have hF : Facts [((.bvar 0), true), ((.le (.var 2) (.lit (210))), true), ((.le (.var 1) (.lit (0))), true), ((.le (.var 2) (.lit (0))), false), ((.le (.var 2) (.lit (100000))), true), ((.eq (.var 6) (.lit (0))), true), ((.eq (.var 5) (.var 8)), true), ((.eq (.var 4) (.var 7)), true), ((.eq (.var 8) (.lit (0))), true), ((.le (.lit (-100)) (.var 3)), false)] := ⟨f1, f_le f2 rfl rfl, f_le f3 rfl rfl, f_nle f4 rfl rfl, f_le f5 rfl rfl, f_eq f6 rfl rfl, f_eq f7 rfl rfl, f_eq f8 rfl rfl, f_eq f9 rfl rfl, f_nle f10 rfl rfl, trivial⟩
                    refine call_start (P := Try.prog) (K := orK (orK (orK (trueK 6) (fewK 0)) (orK (ctK 4 true false) (reK 6))) (rtK 7 false false)) (fl := []) (by kernel_rfl) (by kernel_rfl) hx hfar (orK_ok (orK_ok (orK_ok (trueK_ok awake_ok) (fewK_ok (N := N) (n := n) (S := S) rfl rfl rfl rfl hN hn)) (orK_ok (ctK_ok (N := N) (n := n) (m := m) (S := S) (t := t) rfl rfl rfl rfl rfl (fun _ => by show (n : Int) = 0; omega) (fun h => by cases h) rfl rfl hN hn (by omega)) (reK_ok (N := N) (n := n) (S := S) rfl rfl rfl rfl hN hn))) (rtK_ok (N := N) (n := n) (m := m) (S := S) (t := t) rfl rfl rfl rfl rfl (fun h => by cases h) (fun h => by cases h) rfl rfl hN hn (by omega) f6)) (facD_ok hF) (fin_run (r := (.pl (.bool true))) (by kernel_rfl) rfl fun W' hbel => ⟨?_, hbel⟩)
                    show Ending.returned (.bool true) = _
                    rfl
                · skip
                  have hF : Facts [((.bvar 0), true), ((.le (.var 2) (.lit (210))), true), ((.le (.var 1) (.lit (0))), true), ((.le (.var 2) (.lit (0))), false), ((.le (.var 2) (.lit (100000))), true), ((.eq (.var 6) (.lit (0))), true), ((.eq (.var 5) (.var 8)), true), ((.eq (.var 4) (.var 7)), true), ((.eq (.var 8) (.lit (0))), false)] := ⟨f1, f_le f2 rfl rfl, f_le f3 rfl rfl, f_nle f4 rfl rfl, f_le f5 rfl rfl, f_eq f6 rfl rfl, f_eq f7 rfl rfl, f_eq f8 rfl rfl, f_ne f9 rfl rfl, trivial⟩
                  refine call_start (P := Try.prog) (K := orK (orK (orK (trueK 6) (fewK 0)) (orK (ctK 4 true false) (reK 6))) (rtK 7 false false)) (fl := []) (by kernel_rfl) (by kernel_rfl) hx hfar (orK_ok (orK_ok (orK_ok (trueK_ok awake_ok) (fewK_ok (N := N) (n := n) (S := S) rfl rfl rfl rfl hN hn)) (orK_ok (ctK_ok (N := N) (n := n) (m := m) (S := S) (t := t) rfl rfl rfl rfl rfl (fun _ => by show (n : Int) = 0; omega) (fun h => by cases h) rfl rfl hN hn (by omega)) (reK_ok (N := N) (n := n) (S := S) rfl rfl rfl rfl hN hn))) (rtK_ok (N := N) (n := n) (m := m) (S := S) (t := t) rfl rfl rfl rfl rfl (fun h => by cases h) (fun h => by cases h) rfl rfl hN hn (by omega) f6)) (facD_ok hF) (fin_run (r := (.pl (.bool true))) (by kernel_rfl) rfl fun W' hbel => ⟨?_, hbel⟩)
                  show Ending.returned (.bool true) = _
                  rfl
              · skip
                have hF : Facts [((.bvar 0), true), ((.le (.var 2) (.lit (210))), true), ((.le (.var 1) (.lit (0))), true), ((.le (.var 2) (.lit (0))), false), ((.le (.var 2) (.lit (100000))), true), ((.eq (.var 6) (.lit (0))), true), ((.eq (.var 5) (.var 8)), true), ((.eq (.var 4) (.var 7)), false)] := ⟨f1, f_le f2 rfl rfl, f_le f3 rfl rfl, f_nle f4 rfl rfl, f_le f5 rfl rfl, f_eq f6 rfl rfl, f_eq f7 rfl rfl, f_ne f8 rfl rfl, trivial⟩
                refine call_start (P := Try.prog) (K := orK (orK (orK (trueK 6) (fewK 0)) (orK (ctK 4 true false) (reK 6))) (rtK 7 false false)) (fl := []) (by kernel_rfl) (by kernel_rfl) hx hfar (orK_ok (orK_ok (orK_ok (trueK_ok awake_ok) (fewK_ok (N := N) (n := n) (S := S) rfl rfl rfl rfl hN hn)) (orK_ok (ctK_ok (N := N) (n := n) (m := m) (S := S) (t := t) rfl rfl rfl rfl rfl (fun _ => by show (n : Int) = 0; omega) (fun h => by cases h) rfl rfl hN hn (by omega)) (reK_ok (N := N) (n := n) (S := S) rfl rfl rfl rfl hN hn))) (rtK_ok (N := N) (n := n) (m := m) (S := S) (t := t) rfl rfl rfl rfl rfl (fun h => by cases h) (fun h => by cases h) rfl rfl hN hn (by omega) f6)) (facD_ok hF) (fin_run (r := (.pl (.bool false))) (by kernel_rfl) rfl fun W' hbel => ⟨?_, hbel⟩)
                show Ending.returned (.bool false) = _
                have e : ctR N n S m t = rtR N n S m t := by unfold ctR; rw [if_pos f6]
                exact absurd (by rw [e]) f8
            · skip
              have hF : Facts [((.bvar 0), true), ((.le (.var 2) (.lit (210))), true), ((.le (.var 1) (.lit (0))), true), ((.le (.var 2) (.lit (0))), false), ((.le (.var 2) (.lit (100000))), true), ((.eq (.var 6) (.lit (0))), true), ((.eq (.var 5) (.var 8)), false)] := ⟨f1, f_le f2 rfl rfl, f_le f3 rfl rfl, f_nle f4 rfl rfl, f_le f5 rfl rfl, f_eq f6 rfl rfl, f_ne f7 rfl rfl, trivial⟩
              refine call_start (P := Try.prog) (K := orK (orK (orK (trueK 6) (fewK 0)) (orK (ctK 4 true false) (reK 6))) (rtK 7 false false)) (fl := []) (by kernel_rfl) (by kernel_rfl) hx hfar (orK_ok (orK_ok (orK_ok (trueK_ok awake_ok) (fewK_ok (N := N) (n := n) (S := S) rfl rfl rfl rfl hN hn)) (orK_ok (ctK_ok (N := N) (n := n) (m := m) (S := S) (t := t) rfl rfl rfl rfl rfl (fun _ => by show (n : Int) = 0; omega) (fun h => by cases h) rfl rfl hN hn (by omega)) (reK_ok (N := N) (n := n) (S := S) rfl rfl rfl rfl hN hn))) (rtK_ok (N := N) (n := n) (m := m) (S := S) (t := t) rfl rfl rfl rfl rfl (fun h => by cases h) (fun h => by cases h) rfl rfl hN hn (by omega) f6)) (facD_ok hF) (fin_run (r := (.pl (.bool false))) (by kernel_rfl) rfl fun W' hbel => ⟨?_, hbel⟩)
              show Ending.returned (.bool false) = _
              have e : ctR N n S m t = rtR N n S m t := by unfold ctR; rw [if_pos f6]
              exact absurd (by rw [e]) f7
          · skip
            by_cases f7 : (ctR N n S m t).2 = (cnR N n S).2
            · skip
              by_cases f8 : (ctR N n S m t).1 = 0
              · skip
                have hF : Facts [((.bvar 0), true), ((.le (.var 2) (.lit (210))), true), ((.le (.var 1) (.lit (0))), true), ((.le (.var 2) (.lit (0))), false), ((.le (.var 2) (.lit (100000))), true), ((.eq (.var 6) (.lit (0))), false), ((.eq (.var 5) (.var 6)), true), ((.eq (.var 4) (.lit (0))), true)] := ⟨f1, f_le f2 rfl rfl, f_le f3 rfl rfl, f_nle f4 rfl rfl, f_le f5 rfl rfl, f_ne f6 rfl rfl, f_eq f7 rfl rfl, f_eq f8 rfl rfl, trivial⟩
                refine call_start (P := Try.prog) (K := orK (orK (trueK 6) (fewK 0)) (orK (ctK 4 true false) (reK 6))) (fl := []) (by kernel_rfl) (by kernel_rfl) hx hfar (orK_ok (orK_ok (trueK_ok awake_ok) (fewK_ok (N := N) (n := n) (S := S) rfl rfl rfl rfl hN hn)) (orK_ok (ctK_ok (N := N) (n := n) (m := m) (S := S) (t := t) rfl rfl rfl rfl rfl (fun _ => by show (n : Int) = 0; omega) (fun h => by cases h) rfl rfl hN hn (by omega)) (reK_ok (N := N) (n := n) (S := S) rfl rfl rfl rfl hN hn))) (facD_ok hF) (fin_run (r := (.pl (.bool true))) (by kernel_rfl) rfl fun W' hbel => ⟨?_, hbel⟩)
                show Ending.returned (.bool true) = _
                rfl
              · skip
                have hF : Facts [((.bvar 0), true), ((.le (.var 2) (.lit (210))), true), ((.le (.var 1) (.lit (0))), true), ((.le (.var 2) (.lit (0))), false), ((.le (.var 2) (.lit (100000))), true), ((.eq (.var 6) (.lit (0))), false), ((.eq (.var 5) (.var 6)), true), ((.eq (.var 4) (.lit (0))), false)] := ⟨f1, f_le f2 rfl rfl, f_le f3 rfl rfl, f_nle f4 rfl rfl, f_le f5 rfl rfl, f_ne f6 rfl rfl, f_eq f7 rfl rfl, f_ne f8 rfl rfl, trivial⟩
                refine call_start (P := Try.prog) (K := orK (orK (trueK 6) (fewK 0)) (orK (ctK 4 true false) (reK 6))) (fl := []) (by kernel_rfl) (by kernel_rfl) hx hfar (orK_ok (orK_ok (trueK_ok awake_ok) (fewK_ok (N := N) (n := n) (S := S) rfl rfl rfl rfl hN hn)) (orK_ok (ctK_ok (N := N) (n := n) (m := m) (S := S) (t := t) rfl rfl rfl rfl rfl (fun _ => by show (n : Int) = 0; omega) (fun h => by cases h) rfl rfl hN hn (by omega)) (reK_ok (N := N) (n := n) (S := S) rfl rfl rfl rfl hN hn))) (facD_ok hF) (fin_run (r := (.pl (.bool false))) (by kernel_rfl) rfl fun W' hbel => ⟨?_, hbel⟩)
                show Ending.returned (.bool false) = _
                have e : ctR N n S m t = (0, (cnR N n S).2) := by unfold ctR; rw [if_neg f6]
                exact absurd (by rw [e]) f8
            · skip
              have hF : Facts [((.bvar 0), true), ((.le (.var 2) (.lit (210))), true), ((.le (.var 1) (.lit (0))), true), ((.le (.var 2) (.lit (0))), false), ((.le (.var 2) (.lit (100000))), true), ((.eq (.var 6) (.lit (0))), false), ((.eq (.var 5) (.var 6)), false)] := ⟨f1, f_le f2 rfl rfl, f_le f3 rfl rfl, f_nle f4 rfl rfl, f_le f5 rfl rfl, f_ne f6 rfl rfl, f_ne f7 rfl rfl, trivial⟩
              refine call_start (P := Try.prog) (K := orK (orK (trueK 6) (fewK 0)) (orK (ctK 4 true false) (reK 6))) (fl := []) (by kernel_rfl) (by kernel_rfl) hx hfar (orK_ok (orK_ok (trueK_ok awake_ok) (fewK_ok (N := N) (n := n) (S := S) rfl rfl rfl rfl hN hn)) (orK_ok (ctK_ok (N := N) (n := n) (m := m) (S := S) (t := t) rfl rfl rfl rfl rfl (fun _ => by show (n : Int) = 0; omega) (fun h => by cases h) rfl rfl hN hn (by omega)) (reK_ok (N := N) (n := n) (S := S) rfl rfl rfl rfl hN hn))) (facD_ok hF) (fin_run (r := (.pl (.bool false))) (by kernel_rfl) rfl fun W' hbel => ⟨?_, hbel⟩)
              show Ending.returned (.bool false) = _
              have e : ctR N n S m t = (0, (cnR N n S).2) := by unfold ctR; rw [if_neg f6]
              exact absurd (by rw [e]) f7
      · skip
        have f4 : ((n : Int) ≤ 100000) := by
          first | omega | (have hq := fewF_n f1; omega) | (have hq := (cn_right hcn0).2.1; omega) | (have hq := htb 0 (by omega); have hq2 : flat1 t 0 = t 0 := rfl; constructor <;> omega) | (have hq := htb k (by omega); have hq2 : flat1 t (k : Int) = t k := rfl; constructor <;> omega)
        by_cases f5 : (m : Int) ≤ 0
        · skip
          by_cases f6 : (cnR N n S).2 = 0
          · skip
            by_cases f7 : (ctR N n S m t).2 = (rtR N n S m t).2
            · skip
              by_cases f8 : (ctR N n S m t).1 = (rtR N n S m t).1
              · skip
                by_cases f9 : (rtR N n S m t).2 = 0
                · skip
                  by_cases f10 : (-100) ≤ more
                  · skip
                    by_cases f11 : more ≤ 100
                    · skip
                      have hF : Facts [((.bvar 0), true), ((.le (.var 2) (.lit (210))), true), ((.le (.var 1) (.lit (0))), false), ((.le (.var 1) (.lit (100000))), true), ((.le (.var 2) (.lit (0))), true), ((.eq (.var 6) (.lit (0))), true), ((.eq (.var 5) (.var 8)), true), ((.eq (.var 4) (.var 7)), true), ((.eq (.var 8) (.lit (0))), true), ((.le (.lit (-100)) (.var 3)), true), ((.le (.var 3) (.lit (100))), true)] := ⟨f1, f_le f2 rfl rfl, f_nle f3 rfl rfl, f_le f4 rfl rfl, f_le f5 rfl rfl, f_eq f6 rfl rfl, f_eq f7 rfl rfl, f_eq f8 rfl rfl, f_eq f9 rfl rfl, f_le f10 rfl rfl, f_le f11 rfl rfl, trivial⟩
                      have hcn0 : (cnR N n S).2 = 0 := f6
                      have hrt0 : (rtR N n S m t).2 = 0 := f9
                      have hct0 : (ctR N n S m t).2 = 0 := by rw [f7]; exact hrt0
                      have hm210 : (m : Int) ≤ 210 := f2
                      have hmo1 : -100 ≤ more := f10
                      have hmo2 : more ≤ 100 := f11
                      have htb : ∀ j, j < m → -1000000 ≤ t j ∧ t j ≤ 1000000 := tr_right (rt_tr hrt0)
                      refine call_start (P := Try.prog) (K := orK (orK (orK (trueK 6) (fewK 0)) (orK (ctK 4 false true) (reK 6))) (rtK 7 false false)) (fl := []) (by kernel_rfl) (by kernel_rfl) hx hfar (orK_ok (orK_ok (orK_ok (trueK_ok awake_ok) (fewK_ok (N := N) (n := n) (S := S) rfl rfl rfl rfl hN hn)) (orK_ok (ctK_ok (N := N) (n := n) (m := m) (S := S) (t := t) rfl rfl rfl rfl rfl (fun h => by cases h) (fun _ => by show (m : Int) = 0; omega) rfl rfl hN hn (by omega)) (reK_ok (N := N) (n := n) (S := S) rfl rfl rfl rfl hN hn))) (rtK_ok (N := N) (n := n) (m := m) (S := S) (t := t) rfl rfl rfl rfl rfl (fun h => by cases h) (fun h => by cases h) rfl rfl hN hn (by omega) f6)) (facD_ok hF) (enter_run (B := 11) (a' := lut3_a) (h' := lut3_h) (ρ' := rhoL W.heap.size ([N, (n : Int), (m : Int), more, (ctR N n S m t).1, (ctR N n S m t).2, (cnR N n S).2, (rtR N n S m t).1, (rtR N n S m t).2, (ctR N n S m (fun i => t i + more)).1, (ctR N n S m (fun i => t i + more)).2] ++ [0, 0]) [⟨A, n * 4, flat4 S⟩, ⟨B, m, flat1 t⟩] [(fewF N n S)] [(fun _ : Int => 0)]) (ds := []) (c := (loopIn (bodyC Try.prog 3) 0)) (by kernel_rfl) (by kernel_rfl) rfl (agree_list (l := [N, (n : Int), (m : Int), more, (ctR N n S m t).1, (ctR N n S m t).2, (cnR N n S).2, (rtR N n S m t).1, (rtR N n S m t).2, (ctR N n S m (fun i => t i + more)).1, (ctR N n S m (fun i => t i + more)).2]) (x := []) (Nat.le_refl _) rfl) trivial fun A1 W1 hs1 => ?_)
                      refine loop_okS (Inv := fun ρ a h => ∃ (L : Nat) (k : Nat) (F : Int → Int), (k ≤ m ∧ L = k ∧ (∀ j : Nat, j < k → F (j : Int) = t j + more) ∧ (∀ j : Nat, j < k → -1000000 ≤ t j + more ∧ t j + more ≤ 1000000)) ∧ ρ = rhoL W.heap.size ([N, (n : Int), (m : Int), more, (ctR N n S m t).1, (ctR N n S m t).2, (cnR N n S).2, (rtR N n S m t).1, (rtR N n S m t).2, (ctR N n S m (fun i => t i + more)).1, (ctR N n S m (fun i => t i + more)).2] ++ [(L : Int), (k : Int)]) [⟨A, n * 4, flat4 S⟩, ⟨B, m, flat1 t⟩] [(fewF N n S)] [F] ∧ ((a = lut3_a ∧ h = lut3_h ∧ (k = 0)) ∨ (a = lut3_1_a ∧ h = lut3_1_h ∧ (True)))) (μ := fun ρ => m - (@Rho.i ρ 12).toNat) ?_ _ _ _ ⟨0, 0, (fun _ : Int => 0), ?_, rfl, .inl ⟨rfl, rfl, ?_⟩⟩ A1 W1 hs1
                      rotate_left
                      · exact ⟨Nat.zero_le _, rfl, fun j hj => absurd hj (Nat.not_lt_zero j), fun j hj => absurd hj (Nat.not_lt_zero j)⟩
                      · rfl
                      first | clear hs1 hx | clear hs1
                      rintro ρ a h ⟨L, k, F, hinv, rfl, hhead⟩ A2 W2 hs2
                      letI : Rho := rhoL W.heap.size ([N, (n : Int), (m : Int), more, (ctR N n S m t).1, (ctR N n S m t).2, (cnR N n S).2, (rtR N n S m t).1, (rtR N n S m t).2, (ctR N n S m (fun i => t i + more)).1, (ctR N n S m (fun i => t i + more)).2] ++ [(L : Int), (k : Int)]) [⟨A, n * 4, flat4 S⟩, ⟨B, m, flat1 t⟩] [(fewF N n S)] [F]
                      obtain ⟨hk, hL, hFe, hB⟩ := hinv
                      rcases hhead with ⟨rfl, rfl, hcond⟩ | ⟨rfl, rfl, hcond⟩
                      · skip
                        by_cases f1 : (m : Int) ≤ 0
                        · skip
                          by_cases f2 : (n : Int) ≤ 0
                          · skip
                            by_cases f3 : (ctR N n S m t).2 = 0
                            · skip
                              have hF : Facts [((.le (.var 2) (.lit (0))), true), ((.le (.var 1) (.lit (0))), true), ((.eq (.var 5) (.lit (0))), true)] := ⟨f_le f1 rfl rfl, f_le f2 rfl rfl, f_eq f3 rfl rfl, trivial⟩
                              refine out_run (P := Try.prog) (K := ctK 4 true true) (fl := []) (by kernel_rfl) (ctK_ok (N := N) (n := n) (m := m) (S := S) (t := t) rfl rfl rfl rfl rfl (fun _ => by show (n : Int) = 0; omega) (fun _ => by show (m : Int) = 0; omega) rfl rfl hN hn (by omega)) (facD_ok hF) hs2 (fin_run (r := (.pl (.bool true))) (by kernel_rfl) rfl fun W' hbel => ⟨?_, hbel⟩)
                              show Ending.returned (.bool true) = _
                              rfl
                            · skip
                              have hF : Facts [((.le (.var 2) (.lit (0))), true), ((.le (.var 1) (.lit (0))), true), ((.eq (.var 5) (.lit (0))), false)] := ⟨f_le f1 rfl rfl, f_le f2 rfl rfl, f_ne f3 rfl rfl, trivial⟩
                              refine out_run (P := Try.prog) (K := ctK 4 true true) (fl := []) (by kernel_rfl) (ctK_ok (N := N) (n := n) (m := m) (S := S) (t := t) rfl rfl rfl rfl rfl (fun _ => by show (n : Int) = 0; omega) (fun _ => by show (m : Int) = 0; omega) rfl rfl hN hn (by omega)) (facD_ok hF) hs2 (fin_run (r := (.pl (.bool false))) (by kernel_rfl) rfl fun W' hbel => ⟨?_, hbel⟩)
                              show Ending.returned (.bool false) = _
                              exact absurd hct0 f3
                          · skip
                            have f3 : ((n : Int) ≤ 100000) := by
                              first | omega | (have hq := fewF_n f1; omega) | (have hq := (cn_right hcn0).2.1; omega) | (have hq := htb 0 (by omega); have hq2 : flat1 t 0 = t 0 := rfl; constructor <;> omega) | (have hq := htb k (by omega); have hq2 : flat1 t (k : Int) = t k := rfl; constructor <;> omega)
                            by_cases f4 : (ctR N n S m t).2 = 0
                            · skip
                              have hF : Facts [((.le (.var 2) (.lit (0))), true), ((.le (.var 1) (.lit (0))), false), ((.le (.var 1) (.lit (100000))), true), ((.eq (.var 5) (.lit (0))), true)] := ⟨f_le f1 rfl rfl, f_nle f2 rfl rfl, f_le f3 rfl rfl, f_eq f4 rfl rfl, trivial⟩
                              refine out_run (P := Try.prog) (K := ctK 4 false true) (fl := []) (by kernel_rfl) (ctK_ok (N := N) (n := n) (m := m) (S := S) (t := t) rfl rfl rfl rfl rfl (fun h => by cases h) (fun _ => by show (m : Int) = 0; omega) rfl rfl hN hn (by omega)) (facD_ok hF) hs2 (fin_run (r := (.pl (.bool true))) (by kernel_rfl) rfl fun W' hbel => ⟨?_, hbel⟩)
                              show Ending.returned (.bool true) = _
                              rfl
                            · skip
                              have hF : Facts [((.le (.var 2) (.lit (0))), true), ((.le (.var 1) (.lit (0))), false), ((.le (.var 1) (.lit (100000))), true), ((.eq (.var 5) (.lit (0))), false)] := ⟨f_le f1 rfl rfl, f_nle f2 rfl rfl, f_le f3 rfl rfl, f_ne f4 rfl rfl, trivial⟩
                              refine out_run (P := Try.prog) (K := ctK 4 false true) (fl := []) (by kernel_rfl) (ctK_ok (N := N) (n := n) (m := m) (S := S) (t := t) rfl rfl rfl rfl rfl (fun h => by cases h) (fun _ => by show (m : Int) = 0; omega) rfl rfl hN hn (by omega)) (facD_ok hF) hs2 (fin_run (r := (.pl (.bool false))) (by kernel_rfl) rfl fun W' hbel => ⟨?_, hbel⟩)
                              show Ending.returned (.bool false) = _
                              exact absurd hct0 f4
                        · skip
                          have f2 : (-9223372036854775808 : Int) ≤ ((flat1 t 0) + more) ∧ ((flat1 t 0) + more) ≤ 9223372036854775807 := by
                            first | omega | (have hq := fewF_n f1; omega) | (have hq := (cn_right hcn0).2.1; omega) | (have hq := htb 0 (by omega); have hq2 : flat1 t 0 = t 0 := rfl; constructor <;> omega) | (have hq := htb k (by omega); have hq2 : flat1 t (k : Int) = t k := rfl; constructor <;> omega)
                          by_cases f3 : (-1000000) ≤ ((flat1 t 0) + more)
                          · skip
                            by_cases f4 : ((flat1 t 0) + more) ≤ 1000000
                            · skip
                              have hF : Facts [((.le (.var 2) (.lit (0))), false), ((.inr .i64 (.add (.sel (.avar 1) (.lit (0))) (.var 3))), true), ((.le (.lit (-1000000)) (.add (.sel (.avar 1) (.lit (0))) (.var 3))), true), ((.le (.add (.sel (.avar 1) (.lit (0))) (.var 3)) (.lit (1000000))), true)] := ⟨f_nle f1 rfl rfl, f_in f2 rfl, f_le f3 rfl rfl, f_le f4 rfl rfl, trivial⟩
                              refine again_runP (P := Try.prog) (K := noK) (fl := []) (B := 11) (l := [.row 7 1 1]) (a' := lut3_1_a) (h' := lut3_1_h) (ρ' := rhoL W.heap.size ([N, (n : Int), (m : Int), more, (ctR N n S m t).1, (ctR N n S m t).2, (cnR N n S).2, (rtR N n S m t).1, (rtR N n S m t).2, (ctR N n S m (fun i => t i + more)).1, (ctR N n S m (fun i => t i + more)).2] ++ [(((L + 1) : Nat) : Int), (((k + 1) : Nat) : Int)]) [⟨A, n * 4, flat4 S⟩, ⟨B, m, flat1 t⟩] [(fewF N n S)] [(fun j : Int => if j = 0 then ((flat1 t 0) + more) else (fun _ : Int => 0) j)]) (ds := [.int (.lit (1)) (.var 11), .int (.lit (1)) (.var 12), .row (.upd .azero (.lit (0)) (.add (.sel (.avar 1) (.lit (0))) (.var 3))) (.avar 50), .int (.lit (1)) (.var 11)]) (by kernel_rfl) noK_ok (facD_ok hF) (by kernel_rfl) (agree_list (l := [N, (n : Int), (m : Int), more, (ctR N n S m t).1, (ctR N n S m t).2, (cnR N n S).2, (rtR N n S m t).1, (rtR N n S m t).2, (ctR N n S m (fun i => t i + more)).1, (ctR N n S m (fun i => t i + more)).2]) (Nat.le_refl _) rfl) ⟨(show (1 : Int) = (((L + 1) : Nat) : Int) from by first | rfl | (push_cast; omega)), (show (1 : Int) = (((k + 1) : Nat) : Int) from by first | rfl | (push_cast; omega)), rfl, (show (1 : Int) = (((L + 1) : Nat) : Int) from by first | rfl | (push_cast; omega)), trivial⟩ hs2 fun A3 W3 hs3 => ⟨_, _, _, ⟨(L + 1), (k + 1), (fun j : Int => if j = 0 then ((flat1 t 0) + more) else (fun _ : Int => 0) j), ?_, rfl, .inr ⟨rfl, rfl, ?_⟩⟩, ?_, hs3⟩
                              · refine ⟨by omega, by omega, fun j hj => ?_, fun j hj => ?_⟩
                                · obtain rfl : j = 0 := by omega
                                  show (if ((0 : Nat) : Int) = 0 then flat1 t 0 + more else 0) = t 0 + more
                                  exact if_pos (by simp)
                                · obtain rfl : j = 0 := by omega
                                  have e : flat1 t 0 = t 0 := rfl
                                  omega
                              · trivial
                              · show m - ((k + 1 : Nat) : Int).toNat < m - ((k : Nat) : Int).toNat
                                omega
                            · skip
                              have hF : Facts [((.le (.var 2) (.lit (0))), false), ((.inr .i64 (.add (.sel (.avar 1) (.lit (0))) (.var 3))), true), ((.le (.lit (-1000000)) (.add (.sel (.avar 1) (.lit (0))) (.var 3))), true), ((.le (.add (.sel (.avar 1) (.lit (0))) (.var 3)) (.lit (1000000))), false)] := ⟨f_nle f1 rfl rfl, f_in f2 rfl, f_le f3 rfl rfl, f_nle f4 rfl rfl, trivial⟩
                              refine out_run (P := Try.prog) (K := noK) (fl := []) (by kernel_rfl) noK_ok (facD_ok hF) hs2 (fin_run (r := (.pl (.bool true))) (by kernel_rfl) rfl fun W' hbel => ⟨?_, hbel⟩)
                              show Ending.returned (.bool true) = _
                              rfl
                          · skip
                            have hF : Facts [((.le (.var 2) (.lit (0))), false), ((.inr .i64 (.add (.sel (.avar 1) (.lit (0))) (.var 3))), true), ((.le (.lit (-1000000)) (.add (.sel (.avar 1) (.lit (0))) (.var 3))), false)] := ⟨f_nle f1 rfl rfl, f_in f2 rfl, f_nle f3 rfl rfl, trivial⟩
                            refine out_run (P := Try.prog) (K := noK) (fl := []) (by kernel_rfl) noK_ok (facD_ok hF) hs2 (fin_run (r := (.pl (.bool true))) (by kernel_rfl) rfl fun W' hbel => ⟨?_, hbel⟩)
                            show Ending.returned (.bool true) = _
                            rfl
                      · skip
                        by_cases f1 : (m : Int) ≤ (k : Int)
                        · skip
                          by_cases f2 : (n : Int) ≤ 0
                          · skip
                            by_cases f3 : (ctR N n S m (fun i => t i + more)).2 = 0
                            · skip
                              have hF : Facts [((.le (.var 2) (.var 12)), true), ((.le (.var 1) (.lit (0))), true), ((.eq (.var 10) (.lit (0))), true)] := ⟨f_le f1 rfl rfl, f_le f2 rfl rfl, f_eq f3 rfl rfl, trivial⟩
                              refine out_run (P := Try.prog) (K := ctK2 9 11 true) (fl := []) (by kernel_rfl) (ctK2_ok (N := N) (n := n) (m := m) (S := S) (t := fun i => t i + more) rfl rfl rfl rfl (by show (L : Int) = (m : Int); omega) (fun j hj => hFe j (by omega)) (fun _ => by show (n : Int) = 0; omega) rfl rfl hN hn (by omega)) (facD_ok hF) hs2 (fin_run (r := (.sb (.eq (.var 9) (.var 4)))) (by kernel_rfl) rfl fun W' hbel => ⟨?_, hbel⟩)
                              show Ending.returned (.bool (decide ((ctR N n S m (fun i => t i + more)).1 = (ctR N n S m t).1))) = _
                              rw [ct_more hcn0 hrt0 (fun j hj => hB j (by omega))]
                              simp
                            · skip
                              have hF : Facts [((.le (.var 2) (.var 12)), true), ((.le (.var 1) (.lit (0))), true), ((.eq (.var 10) (.lit (0))), false)] := ⟨f_le f1 rfl rfl, f_le f2 rfl rfl, f_ne f3 rfl rfl, trivial⟩
                              refine out_run (P := Try.prog) (K := ctK2 9 11 true) (fl := []) (by kernel_rfl) (ctK2_ok (N := N) (n := n) (m := m) (S := S) (t := fun i => t i + more) rfl rfl rfl rfl (by show (L : Int) = (m : Int); omega) (fun j hj => hFe j (by omega)) (fun _ => by show (n : Int) = 0; omega) rfl rfl hN hn (by omega)) (facD_ok hF) hs2 (fin_run (r := (.pl (.bool false))) (by kernel_rfl) rfl fun W' hbel => ⟨?_, hbel⟩)
                              show Ending.returned (.bool false) = _
                              exact absurd (by rw [ct_more hcn0 hrt0 (fun j hj => hB j (by omega)), hct0]) f3
                          · skip
                            have f3 : ((n : Int) ≤ 100000) := by
                              first | omega | (have hq := fewF_n f1; omega) | (have hq := (cn_right hcn0).2.1; omega) | (have hq := htb 0 (by omega); have hq2 : flat1 t 0 = t 0 := rfl; constructor <;> omega) | (have hq := htb k (by omega); have hq2 : flat1 t (k : Int) = t k := rfl; constructor <;> omega)
                            by_cases f4 : (ctR N n S m (fun i => t i + more)).2 = 0
                            · skip
                              have hF : Facts [((.le (.var 2) (.var 12)), true), ((.le (.var 1) (.lit (0))), false), ((.le (.var 1) (.lit (100000))), true), ((.eq (.var 10) (.lit (0))), true)] := ⟨f_le f1 rfl rfl, f_nle f2 rfl rfl, f_le f3 rfl rfl, f_eq f4 rfl rfl, trivial⟩
                              refine out_run (P := Try.prog) (K := ctK2 9 11 false) (fl := []) (by kernel_rfl) (ctK2_ok (N := N) (n := n) (m := m) (S := S) (t := fun i => t i + more) rfl rfl rfl rfl (by show (L : Int) = (m : Int); omega) (fun j hj => hFe j (by omega)) (fun h => by cases h) rfl rfl hN hn (by omega)) (facD_ok hF) hs2 (fin_run (r := (.sb (.eq (.var 9) (.var 4)))) (by kernel_rfl) rfl fun W' hbel => ⟨?_, hbel⟩)
                              show Ending.returned (.bool (decide ((ctR N n S m (fun i => t i + more)).1 = (ctR N n S m t).1))) = _
                              rw [ct_more hcn0 hrt0 (fun j hj => hB j (by omega))]
                              simp
                            · skip
                              have hF : Facts [((.le (.var 2) (.var 12)), true), ((.le (.var 1) (.lit (0))), false), ((.le (.var 1) (.lit (100000))), true), ((.eq (.var 10) (.lit (0))), false)] := ⟨f_le f1 rfl rfl, f_nle f2 rfl rfl, f_le f3 rfl rfl, f_ne f4 rfl rfl, trivial⟩
                              refine out_run (P := Try.prog) (K := ctK2 9 11 false) (fl := []) (by kernel_rfl) (ctK2_ok (N := N) (n := n) (m := m) (S := S) (t := fun i => t i + more) rfl rfl rfl rfl (by show (L : Int) = (m : Int); omega) (fun j hj => hFe j (by omega)) (fun h => by cases h) rfl rfl hN hn (by omega)) (facD_ok hF) hs2 (fin_run (r := (.pl (.bool false))) (by kernel_rfl) rfl fun W' hbel => ⟨?_, hbel⟩)
                              show Ending.returned (.bool false) = _
                              exact absurd (by rw [ct_more hcn0 hrt0 (fun j hj => hB j (by omega)), hct0]) f4
                        · skip
                          have f2 : (0 ≤ (k : Int)) := by
                            first | omega | (have hq := fewF_n f1; omega) | (have hq := (cn_right hcn0).2.1; omega) | (have hq := htb 0 (by omega); have hq2 : flat1 t 0 = t 0 := rfl; constructor <;> omega) | (have hq := htb k (by omega); have hq2 : flat1 t (k : Int) = t k := rfl; constructor <;> omega)
                          have f3 : (-9223372036854775808 : Int) ≤ ((flat1 t (k : Int)) + more) ∧ ((flat1 t (k : Int)) + more) ≤ 9223372036854775807 := by
                            first | omega | (have hq := fewF_n f1; omega) | (have hq := (cn_right hcn0).2.1; omega) | (have hq := htb 0 (by omega); have hq2 : flat1 t 0 = t 0 := rfl; constructor <;> omega) | (have hq := htb k (by omega); have hq2 : flat1 t (k : Int) = t k := rfl; constructor <;> omega)
                          by_cases f4 : (-1000000) ≤ ((flat1 t (k : Int)) + more)
                          · skip
                            by_cases f5 : ((flat1 t (k : Int)) + more) ≤ 1000000
                            · skip
                              have f6 : ((L : Int) ≤ 99999) := by
                                first | omega | (have hq := fewF_n f1; omega) | (have hq := (cn_right hcn0).2.1; omega) | (have hq := htb 0 (by omega); have hq2 : flat1 t 0 = t 0 := rfl; constructor <;> omega) | (have hq := htb k (by omega); have hq2 : flat1 t (k : Int) = t k := rfl; constructor <;> omega)
                              have f7 : (-9223372036854775808 : Int) ≤ ((k : Int) + 1) ∧ ((k : Int) + 1) ≤ 9223372036854775807 := by
                                first | omega | (have hq := fewF_n f1; omega) | (have hq := (cn_right hcn0).2.1; omega) | (have hq := htb 0 (by omega); have hq2 : flat1 t 0 = t 0 := rfl; constructor <;> omega) | (have hq := htb k (by omega); have hq2 : flat1 t (k : Int) = t k := rfl; constructor <;> omega)
                              have hF : Facts [((.le (.var 2) (.var 12)), false), ((.le (.lit (0)) (.var 12)), true), ((.inr .i64 (.add (.sel (.avar 1) (.var 12)) (.var 3))), true), ((.le (.lit (-1000000)) (.add (.sel (.avar 1) (.var 12)) (.var 3))), true), ((.le (.add (.sel (.avar 1) (.var 12)) (.var 3)) (.lit (1000000))), true), ((.le (.var 11) (.lit (99999))), true), ((.inr .i64 (.add (.var 12) (.lit (1)))), true)] := ⟨f_nle f1 rfl rfl, f_le f2 rfl rfl, f_in f3 rfl, f_le f4 rfl rfl, f_le f5 rfl rfl, f_le f6 rfl rfl, f_in f7 rfl, trivial⟩
                              refine again_runP (P := Try.prog) (K := noK) (fl := []) (B := 11) (l := [.mov 7 9]) (a' := lut3_1_a) (h' := lut3_1_h) (ρ' := rhoL W.heap.size ([N, (n : Int), (m : Int), more, (ctR N n S m t).1, (ctR N n S m t).2, (cnR N n S).2, (rtR N n S m t).1, (rtR N n S m t).2, (ctR N n S m (fun i => t i + more)).1, (ctR N n S m (fun i => t i + more)).2] ++ [(((L + 1) : Nat) : Int), (((k + 1) : Nat) : Int)]) [⟨A, n * 4, flat4 S⟩, ⟨B, m, flat1 t⟩] [(fewF N n S)] [(fun j : Int => if j = (L : Int) then ((flat1 t (k : Int)) + more) else F j)]) (ds := [.int (.add (.var 11) (.lit (1))) (.var 11), .int (.add (.var 12) (.lit (1))) (.var 12), .row (.upd (.avar 50) (.var 11) (.add (.sel (.avar 1) (.var 12)) (.var 3))) (.avar 50), .int (.add (.var 11) (.lit (1))) (.var 11)]) (by kernel_rfl) noK_ok (facD_ok hF) (by kernel_rfl) (agree_list (l := [N, (n : Int), (m : Int), more, (ctR N n S m t).1, (ctR N n S m t).2, (cnR N n S).2, (rtR N n S m t).1, (rtR N n S m t).2, (ctR N n S m (fun i => t i + more)).1, (ctR N n S m (fun i => t i + more)).2]) (Nat.le_refl _) rfl) ⟨(show (((L : Int) + 1) : Int) = (((L + 1) : Nat) : Int) from by first | rfl | (push_cast; omega)), (show (((k : Int) + 1) : Int) = (((k + 1) : Nat) : Int) from by first | rfl | (push_cast; omega)), rfl, (show (((L : Int) + 1) : Int) = (((L + 1) : Nat) : Int) from by first | rfl | (push_cast; omega)), trivial⟩ hs2 fun A3 W3 hs3 => ⟨_, _, _, ⟨(L + 1), (k + 1), (fun j : Int => if j = (L : Int) then ((flat1 t (k : Int)) + more) else F j), ?_, rfl, .inr ⟨rfl, rfl, ?_⟩⟩, ?_, hs3⟩
                              · refine ⟨by omega, by omega, fun j hj => ?_, fun j hj => ?_⟩
                                · show (if (j : Int) = (L : Int) then flat1 t (k : Int) + more else F (j : Int)) = t j + more
                                  rcases Nat.lt_or_ge j k with g | g
                                  · rw [if_neg (by omega)]
                                    exact hFe j g
                                  · obtain rfl : j = k := by omega
                                    rw [if_pos (by omega)]
                                    rfl
                                · rcases Nat.lt_or_ge j k with g | g
                                  · exact hB j g
                                  · obtain rfl : j = k := by omega
                                    have e : flat1 t (j : Int) = t j := rfl
                                    omega
                              · trivial
                              · show m - ((k + 1 : Nat) : Int).toNat < m - ((k : Nat) : Int).toNat
                                omega
                            · skip
                              have hF : Facts [((.le (.var 2) (.var 12)), false), ((.le (.lit (0)) (.var 12)), true), ((.inr .i64 (.add (.sel (.avar 1) (.var 12)) (.var 3))), true), ((.le (.lit (-1000000)) (.add (.sel (.avar 1) (.var 12)) (.var 3))), true), ((.le (.add (.sel (.avar 1) (.var 12)) (.var 3)) (.lit (1000000))), false)] := ⟨f_nle f1 rfl rfl, f_le f2 rfl rfl, f_in f3 rfl, f_le f4 rfl rfl, f_nle f5 rfl rfl, trivial⟩
                              refine out_run (P := Try.prog) (K := noK) (fl := []) (by kernel_rfl) noK_ok (facD_ok hF) hs2 (fin_run (r := (.pl (.bool true))) (by kernel_rfl) rfl fun W' hbel => ⟨?_, hbel⟩)
                              show Ending.returned (.bool true) = _
                              rfl
                          · skip
                            have hF : Facts [((.le (.var 2) (.var 12)), false), ((.le (.lit (0)) (.var 12)), true), ((.inr .i64 (.add (.sel (.avar 1) (.var 12)) (.var 3))), true), ((.le (.lit (-1000000)) (.add (.sel (.avar 1) (.var 12)) (.var 3))), false)] := ⟨f_nle f1 rfl rfl, f_le f2 rfl rfl, f_in f3 rfl, f_nle f4 rfl rfl, trivial⟩
                            refine out_run (P := Try.prog) (K := noK) (fl := []) (by kernel_rfl) noK_ok (facD_ok hF) hs2 (fin_run (r := (.pl (.bool true))) (by kernel_rfl) rfl fun W' hbel => ⟨?_, hbel⟩)
                            show Ending.returned (.bool true) = _
                            rfl
                    · skip
                      have hF : Facts [((.bvar 0), true), ((.le (.var 2) (.lit (210))), true), ((.le (.var 1) (.lit (0))), false), ((.le (.var 1) (.lit (100000))), true), ((.le (.var 2) (.lit (0))), true), ((.eq (.var 6) (.lit (0))), true), ((.eq (.var 5) (.var 8)), true), ((.eq (.var 4) (.var 7)), true), ((.eq (.var 8) (.lit (0))), true), ((.le (.lit (-100)) (.var 3)), true), ((.le (.var 3) (.lit (100))), false)] := ⟨f1, f_le f2 rfl rfl, f_nle f3 rfl rfl, f_le f4 rfl rfl, f_le f5 rfl rfl, f_eq f6 rfl rfl, f_eq f7 rfl rfl, f_eq f8 rfl rfl, f_eq f9 rfl rfl, f_le f10 rfl rfl, f_nle f11 rfl rfl, trivial⟩
                      refine call_start (P := Try.prog) (K := orK (orK (orK (trueK 6) (fewK 0)) (orK (ctK 4 false true) (reK 6))) (rtK 7 false false)) (fl := []) (by kernel_rfl) (by kernel_rfl) hx hfar (orK_ok (orK_ok (orK_ok (trueK_ok awake_ok) (fewK_ok (N := N) (n := n) (S := S) rfl rfl rfl rfl hN hn)) (orK_ok (ctK_ok (N := N) (n := n) (m := m) (S := S) (t := t) rfl rfl rfl rfl rfl (fun h => by cases h) (fun _ => by show (m : Int) = 0; omega) rfl rfl hN hn (by omega)) (reK_ok (N := N) (n := n) (S := S) rfl rfl rfl rfl hN hn))) (rtK_ok (N := N) (n := n) (m := m) (S := S) (t := t) rfl rfl rfl rfl rfl (fun h => by cases h) (fun h => by cases h) rfl rfl hN hn (by omega) f6)) (facD_ok hF) (fin_run (r := (.pl (.bool true))) (by kernel_rfl) rfl fun W' hbel => ⟨?_, hbel⟩)
                      show Ending.returned (.bool true) = _
                      rfl
                  · skip
                    have hF : Facts [((.bvar 0), true), ((.le (.var 2) (.lit (210))), true), ((.le (.var 1) (.lit (0))), false), ((.le (.var 1) (.lit (100000))), true), ((.le (.var 2) (.lit (0))), true), ((.eq (.var 6) (.lit (0))), true), ((.eq (.var 5) (.var 8)), true), ((.eq (.var 4) (.var 7)), true), ((.eq (.var 8) (.lit (0))), true), ((.le (.lit (-100)) (.var 3)), false)] := ⟨f1, f_le f2 rfl rfl, f_nle f3 rfl rfl, f_le f4 rfl rfl, f_le f5 rfl rfl, f_eq f6 rfl rfl, f_eq f7 rfl rfl, f_eq f8 rfl rfl, f_eq f9 rfl rfl, f_nle f10 rfl rfl, trivial⟩
                    refine call_start (P := Try.prog) (K := orK (orK (orK (trueK 6) (fewK 0)) (orK (ctK 4 false true) (reK 6))) (rtK 7 false false)) (fl := []) (by kernel_rfl) (by kernel_rfl) hx hfar (orK_ok (orK_ok (orK_ok (trueK_ok awake_ok) (fewK_ok (N := N) (n := n) (S := S) rfl rfl rfl rfl hN hn)) (orK_ok (ctK_ok (N := N) (n := n) (m := m) (S := S) (t := t) rfl rfl rfl rfl rfl (fun h => by cases h) (fun _ => by show (m : Int) = 0; omega) rfl rfl hN hn (by omega)) (reK_ok (N := N) (n := n) (S := S) rfl rfl rfl rfl hN hn))) (rtK_ok (N := N) (n := n) (m := m) (S := S) (t := t) rfl rfl rfl rfl rfl (fun h => by cases h) (fun h => by cases h) rfl rfl hN hn (by omega) f6)) (facD_ok hF) (fin_run (r := (.pl (.bool true))) (by kernel_rfl) rfl fun W' hbel => ⟨?_, hbel⟩)
                    show Ending.returned (.bool true) = _
                    rfl
                · skip
                  have hF : Facts [((.bvar 0), true), ((.le (.var 2) (.lit (210))), true), ((.le (.var 1) (.lit (0))), false), ((.le (.var 1) (.lit (100000))), true), ((.le (.var 2) (.lit (0))), true), ((.eq (.var 6) (.lit (0))), true), ((.eq (.var 5) (.var 8)), true), ((.eq (.var 4) (.var 7)), true), ((.eq (.var 8) (.lit (0))), false)] := ⟨f1, f_le f2 rfl rfl, f_nle f3 rfl rfl, f_le f4 rfl rfl, f_le f5 rfl rfl, f_eq f6 rfl rfl, f_eq f7 rfl rfl, f_eq f8 rfl rfl, f_ne f9 rfl rfl, trivial⟩
                  refine call_start (P := Try.prog) (K := orK (orK (orK (trueK 6) (fewK 0)) (orK (ctK 4 false true) (reK 6))) (rtK 7 false false)) (fl := []) (by kernel_rfl) (by kernel_rfl) hx hfar (orK_ok (orK_ok (orK_ok (trueK_ok awake_ok) (fewK_ok (N := N) (n := n) (S := S) rfl rfl rfl rfl hN hn)) (orK_ok (ctK_ok (N := N) (n := n) (m := m) (S := S) (t := t) rfl rfl rfl rfl rfl (fun h => by cases h) (fun _ => by show (m : Int) = 0; omega) rfl rfl hN hn (by omega)) (reK_ok (N := N) (n := n) (S := S) rfl rfl rfl rfl hN hn))) (rtK_ok (N := N) (n := n) (m := m) (S := S) (t := t) rfl rfl rfl rfl rfl (fun h => by cases h) (fun h => by cases h) rfl rfl hN hn (by omega) f6)) (facD_ok hF) (fin_run (r := (.pl (.bool true))) (by kernel_rfl) rfl fun W' hbel => ⟨?_, hbel⟩)
                  show Ending.returned (.bool true) = _
                  rfl
              · skip
                have hF : Facts [((.bvar 0), true), ((.le (.var 2) (.lit (210))), true), ((.le (.var 1) (.lit (0))), false), ((.le (.var 1) (.lit (100000))), true), ((.le (.var 2) (.lit (0))), true), ((.eq (.var 6) (.lit (0))), true), ((.eq (.var 5) (.var 8)), true), ((.eq (.var 4) (.var 7)), false)] := ⟨f1, f_le f2 rfl rfl, f_nle f3 rfl rfl, f_le f4 rfl rfl, f_le f5 rfl rfl, f_eq f6 rfl rfl, f_eq f7 rfl rfl, f_ne f8 rfl rfl, trivial⟩
                refine call_start (P := Try.prog) (K := orK (orK (orK (trueK 6) (fewK 0)) (orK (ctK 4 false true) (reK 6))) (rtK 7 false false)) (fl := []) (by kernel_rfl) (by kernel_rfl) hx hfar (orK_ok (orK_ok (orK_ok (trueK_ok awake_ok) (fewK_ok (N := N) (n := n) (S := S) rfl rfl rfl rfl hN hn)) (orK_ok (ctK_ok (N := N) (n := n) (m := m) (S := S) (t := t) rfl rfl rfl rfl rfl (fun h => by cases h) (fun _ => by show (m : Int) = 0; omega) rfl rfl hN hn (by omega)) (reK_ok (N := N) (n := n) (S := S) rfl rfl rfl rfl hN hn))) (rtK_ok (N := N) (n := n) (m := m) (S := S) (t := t) rfl rfl rfl rfl rfl (fun h => by cases h) (fun h => by cases h) rfl rfl hN hn (by omega) f6)) (facD_ok hF) (fin_run (r := (.pl (.bool false))) (by kernel_rfl) rfl fun W' hbel => ⟨?_, hbel⟩)
                show Ending.returned (.bool false) = _
                have e : ctR N n S m t = rtR N n S m t := by unfold ctR; rw [if_pos f6]
                exact absurd (by rw [e]) f8
            · skip
              have hF : Facts [((.bvar 0), true), ((.le (.var 2) (.lit (210))), true), ((.le (.var 1) (.lit (0))), false), ((.le (.var 1) (.lit (100000))), true), ((.le (.var 2) (.lit (0))), true), ((.eq (.var 6) (.lit (0))), true), ((.eq (.var 5) (.var 8)), false)] := ⟨f1, f_le f2 rfl rfl, f_nle f3 rfl rfl, f_le f4 rfl rfl, f_le f5 rfl rfl, f_eq f6 rfl rfl, f_ne f7 rfl rfl, trivial⟩
              refine call_start (P := Try.prog) (K := orK (orK (orK (trueK 6) (fewK 0)) (orK (ctK 4 false true) (reK 6))) (rtK 7 false false)) (fl := []) (by kernel_rfl) (by kernel_rfl) hx hfar (orK_ok (orK_ok (orK_ok (trueK_ok awake_ok) (fewK_ok (N := N) (n := n) (S := S) rfl rfl rfl rfl hN hn)) (orK_ok (ctK_ok (N := N) (n := n) (m := m) (S := S) (t := t) rfl rfl rfl rfl rfl (fun h => by cases h) (fun _ => by show (m : Int) = 0; omega) rfl rfl hN hn (by omega)) (reK_ok (N := N) (n := n) (S := S) rfl rfl rfl rfl hN hn))) (rtK_ok (N := N) (n := n) (m := m) (S := S) (t := t) rfl rfl rfl rfl rfl (fun h => by cases h) (fun h => by cases h) rfl rfl hN hn (by omega) f6)) (facD_ok hF) (fin_run (r := (.pl (.bool false))) (by kernel_rfl) rfl fun W' hbel => ⟨?_, hbel⟩)
              show Ending.returned (.bool false) = _
              have e : ctR N n S m t = rtR N n S m t := by unfold ctR; rw [if_pos f6]
              exact absurd (by rw [e]) f7
          · skip
            by_cases f7 : (ctR N n S m t).2 = (cnR N n S).2
            · skip
              by_cases f8 : (ctR N n S m t).1 = 0
              · skip
                have hF : Facts [((.bvar 0), true), ((.le (.var 2) (.lit (210))), true), ((.le (.var 1) (.lit (0))), false), ((.le (.var 1) (.lit (100000))), true), ((.le (.var 2) (.lit (0))), true), ((.eq (.var 6) (.lit (0))), false), ((.eq (.var 5) (.var 6)), true), ((.eq (.var 4) (.lit (0))), true)] := ⟨f1, f_le f2 rfl rfl, f_nle f3 rfl rfl, f_le f4 rfl rfl, f_le f5 rfl rfl, f_ne f6 rfl rfl, f_eq f7 rfl rfl, f_eq f8 rfl rfl, trivial⟩
                refine call_start (P := Try.prog) (K := orK (orK (trueK 6) (fewK 0)) (orK (ctK 4 false true) (reK 6))) (fl := []) (by kernel_rfl) (by kernel_rfl) hx hfar (orK_ok (orK_ok (trueK_ok awake_ok) (fewK_ok (N := N) (n := n) (S := S) rfl rfl rfl rfl hN hn)) (orK_ok (ctK_ok (N := N) (n := n) (m := m) (S := S) (t := t) rfl rfl rfl rfl rfl (fun h => by cases h) (fun _ => by show (m : Int) = 0; omega) rfl rfl hN hn (by omega)) (reK_ok (N := N) (n := n) (S := S) rfl rfl rfl rfl hN hn))) (facD_ok hF) (fin_run (r := (.pl (.bool true))) (by kernel_rfl) rfl fun W' hbel => ⟨?_, hbel⟩)
                show Ending.returned (.bool true) = _
                rfl
              · skip
                have hF : Facts [((.bvar 0), true), ((.le (.var 2) (.lit (210))), true), ((.le (.var 1) (.lit (0))), false), ((.le (.var 1) (.lit (100000))), true), ((.le (.var 2) (.lit (0))), true), ((.eq (.var 6) (.lit (0))), false), ((.eq (.var 5) (.var 6)), true), ((.eq (.var 4) (.lit (0))), false)] := ⟨f1, f_le f2 rfl rfl, f_nle f3 rfl rfl, f_le f4 rfl rfl, f_le f5 rfl rfl, f_ne f6 rfl rfl, f_eq f7 rfl rfl, f_ne f8 rfl rfl, trivial⟩
                refine call_start (P := Try.prog) (K := orK (orK (trueK 6) (fewK 0)) (orK (ctK 4 false true) (reK 6))) (fl := []) (by kernel_rfl) (by kernel_rfl) hx hfar (orK_ok (orK_ok (trueK_ok awake_ok) (fewK_ok (N := N) (n := n) (S := S) rfl rfl rfl rfl hN hn)) (orK_ok (ctK_ok (N := N) (n := n) (m := m) (S := S) (t := t) rfl rfl rfl rfl rfl (fun h => by cases h) (fun _ => by show (m : Int) = 0; omega) rfl rfl hN hn (by omega)) (reK_ok (N := N) (n := n) (S := S) rfl rfl rfl rfl hN hn))) (facD_ok hF) (fin_run (r := (.pl (.bool false))) (by kernel_rfl) rfl fun W' hbel => ⟨?_, hbel⟩)
                show Ending.returned (.bool false) = _
                have e : ctR N n S m t = (0, (cnR N n S).2) := by unfold ctR; rw [if_neg f6]
                exact absurd (by rw [e]) f8
            · skip
              have hF : Facts [((.bvar 0), true), ((.le (.var 2) (.lit (210))), true), ((.le (.var 1) (.lit (0))), false), ((.le (.var 1) (.lit (100000))), true), ((.le (.var 2) (.lit (0))), true), ((.eq (.var 6) (.lit (0))), false), ((.eq (.var 5) (.var 6)), false)] := ⟨f1, f_le f2 rfl rfl, f_nle f3 rfl rfl, f_le f4 rfl rfl, f_le f5 rfl rfl, f_ne f6 rfl rfl, f_ne f7 rfl rfl, trivial⟩
              refine call_start (P := Try.prog) (K := orK (orK (trueK 6) (fewK 0)) (orK (ctK 4 false true) (reK 6))) (fl := []) (by kernel_rfl) (by kernel_rfl) hx hfar (orK_ok (orK_ok (trueK_ok awake_ok) (fewK_ok (N := N) (n := n) (S := S) rfl rfl rfl rfl hN hn)) (orK_ok (ctK_ok (N := N) (n := n) (m := m) (S := S) (t := t) rfl rfl rfl rfl rfl (fun h => by cases h) (fun _ => by show (m : Int) = 0; omega) rfl rfl hN hn (by omega)) (reK_ok (N := N) (n := n) (S := S) rfl rfl rfl rfl hN hn))) (facD_ok hF) (fin_run (r := (.pl (.bool false))) (by kernel_rfl) rfl fun W' hbel => ⟨?_, hbel⟩)
              show Ending.returned (.bool false) = _
              have e : ctR N n S m t = (0, (cnR N n S).2) := by unfold ctR; rw [if_neg f6]
              exact absurd (by rw [e]) f7
        · skip
          have f6 : ((m : Int) ≤ 100000) := by
            first | omega | (have hq := fewF_n f1; omega) | (have hq := (cn_right hcn0).2.1; omega) | (have hq := htb 0 (by omega); have hq2 : flat1 t 0 = t 0 := rfl; constructor <;> omega) | (have hq := htb k (by omega); have hq2 : flat1 t (k : Int) = t k := rfl; constructor <;> omega)
          by_cases f7 : (cnR N n S).2 = 0
          · skip
            by_cases f8 : (ctR N n S m t).2 = (rtR N n S m t).2
            · skip
              by_cases f9 : (ctR N n S m t).1 = (rtR N n S m t).1
              · skip
                by_cases f10 : (rtR N n S m t).2 = 0
                · skip
                  by_cases f11 : (-100) ≤ more
                  · skip
                    by_cases f12 : more ≤ 100
                    · skip
                      have hF : Facts [((.bvar 0), true), ((.le (.var 2) (.lit (210))), true), ((.le (.var 1) (.lit (0))), false), ((.le (.var 1) (.lit (100000))), true), ((.le (.var 2) (.lit (0))), false), ((.le (.var 2) (.lit (100000))), true), ((.eq (.var 6) (.lit (0))), true), ((.eq (.var 5) (.var 8)), true), ((.eq (.var 4) (.var 7)), true), ((.eq (.var 8) (.lit (0))), true), ((.le (.lit (-100)) (.var 3)), true), ((.le (.var 3) (.lit (100))), true)] := ⟨f1, f_le f2 rfl rfl, f_nle f3 rfl rfl, f_le f4 rfl rfl, f_nle f5 rfl rfl, f_le f6 rfl rfl, f_eq f7 rfl rfl, f_eq f8 rfl rfl, f_eq f9 rfl rfl, f_eq f10 rfl rfl, f_le f11 rfl rfl, f_le f12 rfl rfl, trivial⟩
                      have hcn0 : (cnR N n S).2 = 0 := f7
                      have hrt0 : (rtR N n S m t).2 = 0 := f10
                      have hct0 : (ctR N n S m t).2 = 0 := by rw [f8]; exact hrt0
                      have hm210 : (m : Int) ≤ 210 := f2
                      have hmo1 : -100 ≤ more := f11
                      have hmo2 : more ≤ 100 := f12
                      have htb : ∀ j, j < m → -1000000 ≤ t j ∧ t j ≤ 1000000 := tr_right (rt_tr hrt0)
                      refine call_start (P := Try.prog) (K := orK (orK (orK (trueK 6) (fewK 0)) (orK (ctK 4 false false) (reK 6))) (rtK 7 false false)) (fl := []) (by kernel_rfl) (by kernel_rfl) hx hfar (orK_ok (orK_ok (orK_ok (trueK_ok awake_ok) (fewK_ok (N := N) (n := n) (S := S) rfl rfl rfl rfl hN hn)) (orK_ok (ctK_ok (N := N) (n := n) (m := m) (S := S) (t := t) rfl rfl rfl rfl rfl (fun h => by cases h) (fun h => by cases h) rfl rfl hN hn (by omega)) (reK_ok (N := N) (n := n) (S := S) rfl rfl rfl rfl hN hn))) (rtK_ok (N := N) (n := n) (m := m) (S := S) (t := t) rfl rfl rfl rfl rfl (fun h => by cases h) (fun h => by cases h) rfl rfl hN hn (by omega) f7)) (facD_ok hF) (enter_run (B := 11) (a' := lut4_a) (h' := lut4_h) (ρ' := rhoL W.heap.size ([N, (n : Int), (m : Int), more, (ctR N n S m t).1, (ctR N n S m t).2, (cnR N n S).2, (rtR N n S m t).1, (rtR N n S m t).2, (ctR N n S m (fun i => t i + more)).1, (ctR N n S m (fun i => t i + more)).2] ++ [0, 0]) [⟨A, n * 4, flat4 S⟩, ⟨B, m, flat1 t⟩] [(fewF N n S)] [(fun _ : Int => 0)]) (ds := []) (c := (loopIn (bodyC Try.prog 3) 0)) (by kernel_rfl) (by kernel_rfl) rfl (agree_list (l := [N, (n : Int), (m : Int), more, (ctR N n S m t).1, (ctR N n S m t).2, (cnR N n S).2, (rtR N n S m t).1, (rtR N n S m t).2, (ctR N n S m (fun i => t i + more)).1, (ctR N n S m (fun i => t i + more)).2]) (x := []) (Nat.le_refl _) rfl) trivial fun A1 W1 hs1 => ?_)
                      refine loop_okS (Inv := fun ρ a h => ∃ (L : Nat) (k : Nat) (F : Int → Int), (k ≤ m ∧ L = k ∧ (∀ j : Nat, j < k → F (j : Int) = t j + more) ∧ (∀ j : Nat, j < k → -1000000 ≤ t j + more ∧ t j + more ≤ 1000000)) ∧ ρ = rhoL W.heap.size ([N, (n : Int), (m : Int), more, (ctR N n S m t).1, (ctR N n S m t).2, (cnR N n S).2, (rtR N n S m t).1, (rtR N n S m t).2, (ctR N n S m (fun i => t i + more)).1, (ctR N n S m (fun i => t i + more)).2] ++ [(L : Int), (k : Int)]) [⟨A, n * 4, flat4 S⟩, ⟨B, m, flat1 t⟩] [(fewF N n S)] [F] ∧ ((a = lut4_a ∧ h = lut4_h ∧ (k = 0)) ∨ (a = lut4_1_a ∧ h = lut4_1_h ∧ (True)))) (μ := fun ρ => m - (@Rho.i ρ 12).toNat) ?_ _ _ _ ⟨0, 0, (fun _ : Int => 0), ?_, rfl, .inl ⟨rfl, rfl, ?_⟩⟩ A1 W1 hs1
                      rotate_left
                      · exact ⟨Nat.zero_le _, rfl, fun j hj => absurd hj (Nat.not_lt_zero j), fun j hj => absurd hj (Nat.not_lt_zero j)⟩
                      · rfl
                      first | clear hs1 hx | clear hs1
                      rintro ρ a h ⟨L, k, F, hinv, rfl, hhead⟩ A2 W2 hs2
                      letI : Rho := rhoL W.heap.size ([N, (n : Int), (m : Int), more, (ctR N n S m t).1, (ctR N n S m t).2, (cnR N n S).2, (rtR N n S m t).1, (rtR N n S m t).2, (ctR N n S m (fun i => t i + more)).1, (ctR N n S m (fun i => t i + more)).2] ++ [(L : Int), (k : Int)]) [⟨A, n * 4, flat4 S⟩, ⟨B, m, flat1 t⟩] [(fewF N n S)] [F]
                      obtain ⟨hk, hL, hFe, hB⟩ := hinv
                      rcases hhead with ⟨rfl, rfl, hcond⟩ | ⟨rfl, rfl, hcond⟩
                      · skip
                        by_cases f1 : (m : Int) ≤ 0
                        · skip
                          by_cases f2 : (n : Int) ≤ 0
                          · skip
                            by_cases f3 : (ctR N n S m t).2 = 0
                            · skip
                              have hF : Facts [((.le (.var 2) (.lit (0))), true), ((.le (.var 1) (.lit (0))), true), ((.eq (.var 5) (.lit (0))), true)] := ⟨f_le f1 rfl rfl, f_le f2 rfl rfl, f_eq f3 rfl rfl, trivial⟩
                              refine out_run (P := Try.prog) (K := ctK 4 true true) (fl := []) (by kernel_rfl) (ctK_ok (N := N) (n := n) (m := m) (S := S) (t := t) rfl rfl rfl rfl rfl (fun _ => by show (n : Int) = 0; omega) (fun _ => by show (m : Int) = 0; omega) rfl rfl hN hn (by omega)) (facD_ok hF) hs2 (fin_run (r := (.pl (.bool true))) (by kernel_rfl) rfl fun W' hbel => ⟨?_, hbel⟩)
                              show Ending.returned (.bool true) = _
                              rfl
                            · skip
                              have hF : Facts [((.le (.var 2) (.lit (0))), true), ((.le (.var 1) (.lit (0))), true), ((.eq (.var 5) (.lit (0))), false)] := ⟨f_le f1 rfl rfl, f_le f2 rfl rfl, f_ne f3 rfl rfl, trivial⟩
                              refine out_run (P := Try.prog) (K := ctK 4 true true) (fl := []) (by kernel_rfl) (ctK_ok (N := N) (n := n) (m := m) (S := S) (t := t) rfl rfl rfl rfl rfl (fun _ => by show (n : Int) = 0; omega) (fun _ => by show (m : Int) = 0; omega) rfl rfl hN hn (by omega)) (facD_ok hF) hs2 (fin_run (r := (.pl (.bool false))) (by kernel_rfl) rfl fun W' hbel => ⟨?_, hbel⟩)
                              show Ending.returned (.bool false) = _
                              exact absurd hct0 f3
                          · skip
                            have f3 : ((n : Int) ≤ 100000) := by
                              first | omega | (have hq := fewF_n f1; omega) | (have hq := (cn_right hcn0).2.1; omega) | (have hq := htb 0 (by omega); have hq2 : flat1 t 0 = t 0 := rfl; constructor <;> omega) | (have hq := htb k (by omega); have hq2 : flat1 t (k : Int) = t k := rfl; constructor <;> omega)
                            by_cases f4 : (ctR N n S m t).2 = 0
                            · skip
                              have hF : Facts [((.le (.var 2) (.lit (0))), true), ((.le (.var 1) (.lit (0))), false), ((.le (.var 1) (.lit (100000))), true), ((.eq (.var 5) (.lit (0))), true)] := ⟨f_le f1 rfl rfl, f_nle f2 rfl rfl, f_le f3 rfl rfl, f_eq f4 rfl rfl, trivial⟩
                              refine out_run (P := Try.prog) (K := ctK 4 false true) (fl := []) (by kernel_rfl) (ctK_ok (N := N) (n := n) (m := m) (S := S) (t := t) rfl rfl rfl rfl rfl (fun h => by cases h) (fun _ => by show (m : Int) = 0; omega) rfl rfl hN hn (by omega)) (facD_ok hF) hs2 (fin_run (r := (.pl (.bool true))) (by kernel_rfl) rfl fun W' hbel => ⟨?_, hbel⟩)
                              show Ending.returned (.bool true) = _
                              rfl
                            · skip
                              have hF : Facts [((.le (.var 2) (.lit (0))), true), ((.le (.var 1) (.lit (0))), false), ((.le (.var 1) (.lit (100000))), true), ((.eq (.var 5) (.lit (0))), false)] := ⟨f_le f1 rfl rfl, f_nle f2 rfl rfl, f_le f3 rfl rfl, f_ne f4 rfl rfl, trivial⟩
                              refine out_run (P := Try.prog) (K := ctK 4 false true) (fl := []) (by kernel_rfl) (ctK_ok (N := N) (n := n) (m := m) (S := S) (t := t) rfl rfl rfl rfl rfl (fun h => by cases h) (fun _ => by show (m : Int) = 0; omega) rfl rfl hN hn (by omega)) (facD_ok hF) hs2 (fin_run (r := (.pl (.bool false))) (by kernel_rfl) rfl fun W' hbel => ⟨?_, hbel⟩)
                              show Ending.returned (.bool false) = _
                              exact absurd hct0 f4
                        · skip
                          have f2 : (-9223372036854775808 : Int) ≤ ((flat1 t 0) + more) ∧ ((flat1 t 0) + more) ≤ 9223372036854775807 := by
                            first | omega | (have hq := fewF_n f1; omega) | (have hq := (cn_right hcn0).2.1; omega) | (have hq := htb 0 (by omega); have hq2 : flat1 t 0 = t 0 := rfl; constructor <;> omega) | (have hq := htb k (by omega); have hq2 : flat1 t (k : Int) = t k := rfl; constructor <;> omega)
                          by_cases f3 : (-1000000) ≤ ((flat1 t 0) + more)
                          · skip
                            by_cases f4 : ((flat1 t 0) + more) ≤ 1000000
                            · skip
                              have hF : Facts [((.le (.var 2) (.lit (0))), false), ((.inr .i64 (.add (.sel (.avar 1) (.lit (0))) (.var 3))), true), ((.le (.lit (-1000000)) (.add (.sel (.avar 1) (.lit (0))) (.var 3))), true), ((.le (.add (.sel (.avar 1) (.lit (0))) (.var 3)) (.lit (1000000))), true)] := ⟨f_nle f1 rfl rfl, f_in f2 rfl, f_le f3 rfl rfl, f_le f4 rfl rfl, trivial⟩
                              refine again_runP (P := Try.prog) (K := noK) (fl := []) (B := 11) (l := [.row 8 1 1]) (a' := lut4_1_a) (h' := lut4_1_h) (ρ' := rhoL W.heap.size ([N, (n : Int), (m : Int), more, (ctR N n S m t).1, (ctR N n S m t).2, (cnR N n S).2, (rtR N n S m t).1, (rtR N n S m t).2, (ctR N n S m (fun i => t i + more)).1, (ctR N n S m (fun i => t i + more)).2] ++ [(((L + 1) : Nat) : Int), (((k + 1) : Nat) : Int)]) [⟨A, n * 4, flat4 S⟩, ⟨B, m, flat1 t⟩] [(fewF N n S)] [(fun j : Int => if j = 0 then ((flat1 t 0) + more) else (fun _ : Int => 0) j)]) (ds := [.int (.lit (1)) (.var 11), .int (.lit (1)) (.var 12), .row (.upd .azero (.lit (0)) (.add (.sel (.avar 1) (.lit (0))) (.var 3))) (.avar 50), .int (.lit (1)) (.var 11)]) (by kernel_rfl) noK_ok (facD_ok hF) (by kernel_rfl) (agree_list (l := [N, (n : Int), (m : Int), more, (ctR N n S m t).1, (ctR N n S m t).2, (cnR N n S).2, (rtR N n S m t).1, (rtR N n S m t).2, (ctR N n S m (fun i => t i + more)).1, (ctR N n S m (fun i => t i + more)).2]) (Nat.le_refl _) rfl) ⟨(show (1 : Int) = (((L + 1) : Nat) : Int) from by first | rfl | (push_cast; omega)), (show (1 : Int) = (((k + 1) : Nat) : Int) from by first | rfl | (push_cast; omega)), rfl, (show (1 : Int) = (((L + 1) : Nat) : Int) from by first | rfl | (push_cast; omega)), trivial⟩ hs2 fun A3 W3 hs3 => ⟨_, _, _, ⟨(L + 1), (k + 1), (fun j : Int => if j = 0 then ((flat1 t 0) + more) else (fun _ : Int => 0) j), ?_, rfl, .inr ⟨rfl, rfl, ?_⟩⟩, ?_, hs3⟩
                              · refine ⟨by omega, by omega, fun j hj => ?_, fun j hj => ?_⟩
                                · obtain rfl : j = 0 := by omega
                                  show (if ((0 : Nat) : Int) = 0 then flat1 t 0 + more else 0) = t 0 + more
                                  exact if_pos (by simp)
                                · obtain rfl : j = 0 := by omega
                                  have e : flat1 t 0 = t 0 := rfl
                                  omega
                              · trivial
                              · show m - ((k + 1 : Nat) : Int).toNat < m - ((k : Nat) : Int).toNat
                                omega
                            · skip
                              have hF : Facts [((.le (.var 2) (.lit (0))), false), ((.inr .i64 (.add (.sel (.avar 1) (.lit (0))) (.var 3))), true), ((.le (.lit (-1000000)) (.add (.sel (.avar 1) (.lit (0))) (.var 3))), true), ((.le (.add (.sel (.avar 1) (.lit (0))) (.var 3)) (.lit (1000000))), false)] := ⟨f_nle f1 rfl rfl, f_in f2 rfl, f_le f3 rfl rfl, f_nle f4 rfl rfl, trivial⟩
                              refine out_run (P := Try.prog) (K := noK) (fl := []) (by kernel_rfl) noK_ok (facD_ok hF) hs2 (fin_run (r := (.pl (.bool true))) (by kernel_rfl) rfl fun W' hbel => ⟨?_, hbel⟩)
                              show Ending.returned (.bool true) = _
                              rfl
                          · skip
                            have hF : Facts [((.le (.var 2) (.lit (0))), false), ((.inr .i64 (.add (.sel (.avar 1) (.lit (0))) (.var 3))), true), ((.le (.lit (-1000000)) (.add (.sel (.avar 1) (.lit (0))) (.var 3))), false)] := ⟨f_nle f1 rfl rfl, f_in f2 rfl, f_nle f3 rfl rfl, trivial⟩
                            refine out_run (P := Try.prog) (K := noK) (fl := []) (by kernel_rfl) noK_ok (facD_ok hF) hs2 (fin_run (r := (.pl (.bool true))) (by kernel_rfl) rfl fun W' hbel => ⟨?_, hbel⟩)
                            show Ending.returned (.bool true) = _
                            rfl
                      · skip
                        by_cases f1 : (m : Int) ≤ (k : Int)
                        · skip
                          by_cases f2 : (n : Int) ≤ 0
                          · skip
                            by_cases f3 : (ctR N n S m (fun i => t i + more)).2 = 0
                            · skip
                              have hF : Facts [((.le (.var 2) (.var 12)), true), ((.le (.var 1) (.lit (0))), true), ((.eq (.var 10) (.lit (0))), true)] := ⟨f_le f1 rfl rfl, f_le f2 rfl rfl, f_eq f3 rfl rfl, trivial⟩
                              refine out_run (P := Try.prog) (K := ctK2 9 11 true) (fl := []) (by kernel_rfl) (ctK2_ok (N := N) (n := n) (m := m) (S := S) (t := fun i => t i + more) rfl rfl rfl rfl (by show (L : Int) = (m : Int); omega) (fun j hj => hFe j (by omega)) (fun _ => by show (n : Int) = 0; omega) rfl rfl hN hn (by omega)) (facD_ok hF) hs2 (fin_run (r := (.sb (.eq (.var 9) (.var 4)))) (by kernel_rfl) rfl fun W' hbel => ⟨?_, hbel⟩)
                              show Ending.returned (.bool (decide ((ctR N n S m (fun i => t i + more)).1 = (ctR N n S m t).1))) = _
                              rw [ct_more hcn0 hrt0 (fun j hj => hB j (by omega))]
                              simp
                            · skip
                              have hF : Facts [((.le (.var 2) (.var 12)), true), ((.le (.var 1) (.lit (0))), true), ((.eq (.var 10) (.lit (0))), false)] := ⟨f_le f1 rfl rfl, f_le f2 rfl rfl, f_ne f3 rfl rfl, trivial⟩
                              refine out_run (P := Try.prog) (K := ctK2 9 11 true) (fl := []) (by kernel_rfl) (ctK2_ok (N := N) (n := n) (m := m) (S := S) (t := fun i => t i + more) rfl rfl rfl rfl (by show (L : Int) = (m : Int); omega) (fun j hj => hFe j (by omega)) (fun _ => by show (n : Int) = 0; omega) rfl rfl hN hn (by omega)) (facD_ok hF) hs2 (fin_run (r := (.pl (.bool false))) (by kernel_rfl) rfl fun W' hbel => ⟨?_, hbel⟩)
                              show Ending.returned (.bool false) = _
                              exact absurd (by rw [ct_more hcn0 hrt0 (fun j hj => hB j (by omega)), hct0]) f3
                          · skip
                            have f3 : ((n : Int) ≤ 100000) := by
                              first | omega | (have hq := fewF_n f1; omega) | (have hq := (cn_right hcn0).2.1; omega) | (have hq := htb 0 (by omega); have hq2 : flat1 t 0 = t 0 := rfl; constructor <;> omega) | (have hq := htb k (by omega); have hq2 : flat1 t (k : Int) = t k := rfl; constructor <;> omega)
                            by_cases f4 : (ctR N n S m (fun i => t i + more)).2 = 0
                            · skip
                              have hF : Facts [((.le (.var 2) (.var 12)), true), ((.le (.var 1) (.lit (0))), false), ((.le (.var 1) (.lit (100000))), true), ((.eq (.var 10) (.lit (0))), true)] := ⟨f_le f1 rfl rfl, f_nle f2 rfl rfl, f_le f3 rfl rfl, f_eq f4 rfl rfl, trivial⟩
                              refine out_run (P := Try.prog) (K := ctK2 9 11 false) (fl := []) (by kernel_rfl) (ctK2_ok (N := N) (n := n) (m := m) (S := S) (t := fun i => t i + more) rfl rfl rfl rfl (by show (L : Int) = (m : Int); omega) (fun j hj => hFe j (by omega)) (fun h => by cases h) rfl rfl hN hn (by omega)) (facD_ok hF) hs2 (fin_run (r := (.sb (.eq (.var 9) (.var 4)))) (by kernel_rfl) rfl fun W' hbel => ⟨?_, hbel⟩)
                              show Ending.returned (.bool (decide ((ctR N n S m (fun i => t i + more)).1 = (ctR N n S m t).1))) = _
                              rw [ct_more hcn0 hrt0 (fun j hj => hB j (by omega))]
                              simp
                            · skip
                              have hF : Facts [((.le (.var 2) (.var 12)), true), ((.le (.var 1) (.lit (0))), false), ((.le (.var 1) (.lit (100000))), true), ((.eq (.var 10) (.lit (0))), false)] := ⟨f_le f1 rfl rfl, f_nle f2 rfl rfl, f_le f3 rfl rfl, f_ne f4 rfl rfl, trivial⟩
                              refine out_run (P := Try.prog) (K := ctK2 9 11 false) (fl := []) (by kernel_rfl) (ctK2_ok (N := N) (n := n) (m := m) (S := S) (t := fun i => t i + more) rfl rfl rfl rfl (by show (L : Int) = (m : Int); omega) (fun j hj => hFe j (by omega)) (fun h => by cases h) rfl rfl hN hn (by omega)) (facD_ok hF) hs2 (fin_run (r := (.pl (.bool false))) (by kernel_rfl) rfl fun W' hbel => ⟨?_, hbel⟩)
                              show Ending.returned (.bool false) = _
                              exact absurd (by rw [ct_more hcn0 hrt0 (fun j hj => hB j (by omega)), hct0]) f4
                        · skip
                          have f2 : (0 ≤ (k : Int)) := by
                            first | omega | (have hq := fewF_n f1; omega) | (have hq := (cn_right hcn0).2.1; omega) | (have hq := htb 0 (by omega); have hq2 : flat1 t 0 = t 0 := rfl; constructor <;> omega) | (have hq := htb k (by omega); have hq2 : flat1 t (k : Int) = t k := rfl; constructor <;> omega)
                          have f3 : (-9223372036854775808 : Int) ≤ ((flat1 t (k : Int)) + more) ∧ ((flat1 t (k : Int)) + more) ≤ 9223372036854775807 := by
                            first | omega | (have hq := fewF_n f1; omega) | (have hq := (cn_right hcn0).2.1; omega) | (have hq := htb 0 (by omega); have hq2 : flat1 t 0 = t 0 := rfl; constructor <;> omega) | (have hq := htb k (by omega); have hq2 : flat1 t (k : Int) = t k := rfl; constructor <;> omega)
                          by_cases f4 : (-1000000) ≤ ((flat1 t (k : Int)) + more)
                          · skip
                            by_cases f5 : ((flat1 t (k : Int)) + more) ≤ 1000000
                            · skip
                              have f6 : ((L : Int) ≤ 99999) := by
                                first | omega | (have hq := fewF_n f1; omega) | (have hq := (cn_right hcn0).2.1; omega) | (have hq := htb 0 (by omega); have hq2 : flat1 t 0 = t 0 := rfl; constructor <;> omega) | (have hq := htb k (by omega); have hq2 : flat1 t (k : Int) = t k := rfl; constructor <;> omega)
                              have f7 : (-9223372036854775808 : Int) ≤ ((k : Int) + 1) ∧ ((k : Int) + 1) ≤ 9223372036854775807 := by
                                first | omega | (have hq := fewF_n f1; omega) | (have hq := (cn_right hcn0).2.1; omega) | (have hq := htb 0 (by omega); have hq2 : flat1 t 0 = t 0 := rfl; constructor <;> omega) | (have hq := htb k (by omega); have hq2 : flat1 t (k : Int) = t k := rfl; constructor <;> omega)
                              have hF : Facts [((.le (.var 2) (.var 12)), false), ((.le (.lit (0)) (.var 12)), true), ((.inr .i64 (.add (.sel (.avar 1) (.var 12)) (.var 3))), true), ((.le (.lit (-1000000)) (.add (.sel (.avar 1) (.var 12)) (.var 3))), true), ((.le (.add (.sel (.avar 1) (.var 12)) (.var 3)) (.lit (1000000))), true), ((.le (.var 11) (.lit (99999))), true), ((.inr .i64 (.add (.var 12) (.lit (1)))), true)] := ⟨f_nle f1 rfl rfl, f_le f2 rfl rfl, f_in f3 rfl, f_le f4 rfl rfl, f_le f5 rfl rfl, f_le f6 rfl rfl, f_in f7 rfl, trivial⟩
                              refine again_runP (P := Try.prog) (K := noK) (fl := []) (B := 11) (l := [.mov 8 10]) (a' := lut4_1_a) (h' := lut4_1_h) (ρ' := rhoL W.heap.size ([N, (n : Int), (m : Int), more, (ctR N n S m t).1, (ctR N n S m t).2, (cnR N n S).2, (rtR N n S m t).1, (rtR N n S m t).2, (ctR N n S m (fun i => t i + more)).1, (ctR N n S m (fun i => t i + more)).2] ++ [(((L + 1) : Nat) : Int), (((k + 1) : Nat) : Int)]) [⟨A, n * 4, flat4 S⟩, ⟨B, m, flat1 t⟩] [(fewF N n S)] [(fun j : Int => if j = (L : Int) then ((flat1 t (k : Int)) + more) else F j)]) (ds := [.int (.add (.var 11) (.lit (1))) (.var 11), .int (.add (.var 12) (.lit (1))) (.var 12), .row (.upd (.avar 50) (.var 11) (.add (.sel (.avar 1) (.var 12)) (.var 3))) (.avar 50), .int (.add (.var 11) (.lit (1))) (.var 11)]) (by kernel_rfl) noK_ok (facD_ok hF) (by kernel_rfl) (agree_list (l := [N, (n : Int), (m : Int), more, (ctR N n S m t).1, (ctR N n S m t).2, (cnR N n S).2, (rtR N n S m t).1, (rtR N n S m t).2, (ctR N n S m (fun i => t i + more)).1, (ctR N n S m (fun i => t i + more)).2]) (Nat.le_refl _) rfl) ⟨(show (((L : Int) + 1) : Int) = (((L + 1) : Nat) : Int) from by first | rfl | (push_cast; omega)), (show (((k : Int) + 1) : Int) = (((k + 1) : Nat) : Int) from by first | rfl | (push_cast; omega)), rfl, (show (((L : Int) + 1) : Int) = (((L + 1) : Nat) : Int) from by first | rfl | (push_cast; omega)), trivial⟩ hs2 fun A3 W3 hs3 => ⟨_, _, _, ⟨(L + 1), (k + 1), (fun j : Int => if j = (L : Int) then ((flat1 t (k : Int)) + more) else F j), ?_, rfl, .inr ⟨rfl, rfl, ?_⟩⟩, ?_, hs3⟩
                              · refine ⟨by omega, by omega, fun j hj => ?_, fun j hj => ?_⟩
                                · show (if (j : Int) = (L : Int) then flat1 t (k : Int) + more else F (j : Int)) = t j + more
                                  rcases Nat.lt_or_ge j k with g | g
                                  · rw [if_neg (by omega)]
                                    exact hFe j g
                                  · obtain rfl : j = k := by omega
                                    rw [if_pos (by omega)]
                                    rfl
                                · rcases Nat.lt_or_ge j k with g | g
                                  · exact hB j g
                                  · obtain rfl : j = k := by omega
                                    have e : flat1 t (j : Int) = t j := rfl
                                    omega
                              · trivial
                              · show m - ((k + 1 : Nat) : Int).toNat < m - ((k : Nat) : Int).toNat
                                omega
                            · skip
                              have hF : Facts [((.le (.var 2) (.var 12)), false), ((.le (.lit (0)) (.var 12)), true), ((.inr .i64 (.add (.sel (.avar 1) (.var 12)) (.var 3))), true), ((.le (.lit (-1000000)) (.add (.sel (.avar 1) (.var 12)) (.var 3))), true), ((.le (.add (.sel (.avar 1) (.var 12)) (.var 3)) (.lit (1000000))), false)] := ⟨f_nle f1 rfl rfl, f_le f2 rfl rfl, f_in f3 rfl, f_le f4 rfl rfl, f_nle f5 rfl rfl, trivial⟩
                              refine out_run (P := Try.prog) (K := noK) (fl := []) (by kernel_rfl) noK_ok (facD_ok hF) hs2 (fin_run (r := (.pl (.bool true))) (by kernel_rfl) rfl fun W' hbel => ⟨?_, hbel⟩)
                              show Ending.returned (.bool true) = _
                              rfl
                          · skip
                            have hF : Facts [((.le (.var 2) (.var 12)), false), ((.le (.lit (0)) (.var 12)), true), ((.inr .i64 (.add (.sel (.avar 1) (.var 12)) (.var 3))), true), ((.le (.lit (-1000000)) (.add (.sel (.avar 1) (.var 12)) (.var 3))), false)] := ⟨f_nle f1 rfl rfl, f_le f2 rfl rfl, f_in f3 rfl, f_nle f4 rfl rfl, trivial⟩
                            refine out_run (P := Try.prog) (K := noK) (fl := []) (by kernel_rfl) noK_ok (facD_ok hF) hs2 (fin_run (r := (.pl (.bool true))) (by kernel_rfl) rfl fun W' hbel => ⟨?_, hbel⟩)
                            show Ending.returned (.bool true) = _
                            rfl
                    · skip
                      have hF : Facts [((.bvar 0), true), ((.le (.var 2) (.lit (210))), true), ((.le (.var 1) (.lit (0))), false), ((.le (.var 1) (.lit (100000))), true), ((.le (.var 2) (.lit (0))), false), ((.le (.var 2) (.lit (100000))), true), ((.eq (.var 6) (.lit (0))), true), ((.eq (.var 5) (.var 8)), true), ((.eq (.var 4) (.var 7)), true), ((.eq (.var 8) (.lit (0))), true), ((.le (.lit (-100)) (.var 3)), true), ((.le (.var 3) (.lit (100))), false)] := ⟨f1, f_le f2 rfl rfl, f_nle f3 rfl rfl, f_le f4 rfl rfl, f_nle f5 rfl rfl, f_le f6 rfl rfl, f_eq f7 rfl rfl, f_eq f8 rfl rfl, f_eq f9 rfl rfl, f_eq f10 rfl rfl, f_le f11 rfl rfl, f_nle f12 rfl rfl, trivial⟩
                      refine call_start (P := Try.prog) (K := orK (orK (orK (trueK 6) (fewK 0)) (orK (ctK 4 false false) (reK 6))) (rtK 7 false false)) (fl := []) (by kernel_rfl) (by kernel_rfl) hx hfar (orK_ok (orK_ok (orK_ok (trueK_ok awake_ok) (fewK_ok (N := N) (n := n) (S := S) rfl rfl rfl rfl hN hn)) (orK_ok (ctK_ok (N := N) (n := n) (m := m) (S := S) (t := t) rfl rfl rfl rfl rfl (fun h => by cases h) (fun h => by cases h) rfl rfl hN hn (by omega)) (reK_ok (N := N) (n := n) (S := S) rfl rfl rfl rfl hN hn))) (rtK_ok (N := N) (n := n) (m := m) (S := S) (t := t) rfl rfl rfl rfl rfl (fun h => by cases h) (fun h => by cases h) rfl rfl hN hn (by omega) f7)) (facD_ok hF) (fin_run (r := (.pl (.bool true))) (by kernel_rfl) rfl fun W' hbel => ⟨?_, hbel⟩)
                      show Ending.returned (.bool true) = _
                      rfl
                  · skip
                    have hF : Facts [((.bvar 0), true), ((.le (.var 2) (.lit (210))), true), ((.le (.var 1) (.lit (0))), false), ((.le (.var 1) (.lit (100000))), true), ((.le (.var 2) (.lit (0))), false), ((.le (.var 2) (.lit (100000))), true), ((.eq (.var 6) (.lit (0))), true), ((.eq (.var 5) (.var 8)), true), ((.eq (.var 4) (.var 7)), true), ((.eq (.var 8) (.lit (0))), true), ((.le (.lit (-100)) (.var 3)), false)] := ⟨f1, f_le f2 rfl rfl, f_nle f3 rfl rfl, f_le f4 rfl rfl, f_nle f5 rfl rfl, f_le f6 rfl rfl, f_eq f7 rfl rfl, f_eq f8 rfl rfl, f_eq f9 rfl rfl, f_eq f10 rfl rfl, f_nle f11 rfl rfl, trivial⟩
                    refine call_start (P := Try.prog) (K := orK (orK (orK (trueK 6) (fewK 0)) (orK (ctK 4 false false) (reK 6))) (rtK 7 false false)) (fl := []) (by kernel_rfl) (by kernel_rfl) hx hfar (orK_ok (orK_ok (orK_ok (trueK_ok awake_ok) (fewK_ok (N := N) (n := n) (S := S) rfl rfl rfl rfl hN hn)) (orK_ok (ctK_ok (N := N) (n := n) (m := m) (S := S) (t := t) rfl rfl rfl rfl rfl (fun h => by cases h) (fun h => by cases h) rfl rfl hN hn (by omega)) (reK_ok (N := N) (n := n) (S := S) rfl rfl rfl rfl hN hn))) (rtK_ok (N := N) (n := n) (m := m) (S := S) (t := t) rfl rfl rfl rfl rfl (fun h => by cases h) (fun h => by cases h) rfl rfl hN hn (by omega) f7)) (facD_ok hF) (fin_run (r := (.pl (.bool true))) (by kernel_rfl) rfl fun W' hbel => ⟨?_, hbel⟩)
                    show Ending.returned (.bool true) = _
                    rfl
                · skip
                  have hF : Facts [((.bvar 0), true), ((.le (.var 2) (.lit (210))), true), ((.le (.var 1) (.lit (0))), false), ((.le (.var 1) (.lit (100000))), true), ((.le (.var 2) (.lit (0))), false), ((.le (.var 2) (.lit (100000))), true), ((.eq (.var 6) (.lit (0))), true), ((.eq (.var 5) (.var 8)), true), ((.eq (.var 4) (.var 7)), true), ((.eq (.var 8) (.lit (0))), false)] := ⟨f1, f_le f2 rfl rfl, f_nle f3 rfl rfl, f_le f4 rfl rfl, f_nle f5 rfl rfl, f_le f6 rfl rfl, f_eq f7 rfl rfl, f_eq f8 rfl rfl, f_eq f9 rfl rfl, f_ne f10 rfl rfl, trivial⟩
                  refine call_start (P := Try.prog) (K := orK (orK (orK (trueK 6) (fewK 0)) (orK (ctK 4 false false) (reK 6))) (rtK 7 false false)) (fl := []) (by kernel_rfl) (by kernel_rfl) hx hfar (orK_ok (orK_ok (orK_ok (trueK_ok awake_ok) (fewK_ok (N := N) (n := n) (S := S) rfl rfl rfl rfl hN hn)) (orK_ok (ctK_ok (N := N) (n := n) (m := m) (S := S) (t := t) rfl rfl rfl rfl rfl (fun h => by cases h) (fun h => by cases h) rfl rfl hN hn (by omega)) (reK_ok (N := N) (n := n) (S := S) rfl rfl rfl rfl hN hn))) (rtK_ok (N := N) (n := n) (m := m) (S := S) (t := t) rfl rfl rfl rfl rfl (fun h => by cases h) (fun h => by cases h) rfl rfl hN hn (by omega) f7)) (facD_ok hF) (fin_run (r := (.pl (.bool true))) (by kernel_rfl) rfl fun W' hbel => ⟨?_, hbel⟩)
                  show Ending.returned (.bool true) = _
                  rfl
              · skip
                have hF : Facts [((.bvar 0), true), ((.le (.var 2) (.lit (210))), true), ((.le (.var 1) (.lit (0))), false), ((.le (.var 1) (.lit (100000))), true), ((.le (.var 2) (.lit (0))), false), ((.le (.var 2) (.lit (100000))), true), ((.eq (.var 6) (.lit (0))), true), ((.eq (.var 5) (.var 8)), true), ((.eq (.var 4) (.var 7)), false)] := ⟨f1, f_le f2 rfl rfl, f_nle f3 rfl rfl, f_le f4 rfl rfl, f_nle f5 rfl rfl, f_le f6 rfl rfl, f_eq f7 rfl rfl, f_eq f8 rfl rfl, f_ne f9 rfl rfl, trivial⟩
                refine call_start (P := Try.prog) (K := orK (orK (orK (trueK 6) (fewK 0)) (orK (ctK 4 false false) (reK 6))) (rtK 7 false false)) (fl := []) (by kernel_rfl) (by kernel_rfl) hx hfar (orK_ok (orK_ok (orK_ok (trueK_ok awake_ok) (fewK_ok (N := N) (n := n) (S := S) rfl rfl rfl rfl hN hn)) (orK_ok (ctK_ok (N := N) (n := n) (m := m) (S := S) (t := t) rfl rfl rfl rfl rfl (fun h => by cases h) (fun h => by cases h) rfl rfl hN hn (by omega)) (reK_ok (N := N) (n := n) (S := S) rfl rfl rfl rfl hN hn))) (rtK_ok (N := N) (n := n) (m := m) (S := S) (t := t) rfl rfl rfl rfl rfl (fun h => by cases h) (fun h => by cases h) rfl rfl hN hn (by omega) f7)) (facD_ok hF) (fin_run (r := (.pl (.bool false))) (by kernel_rfl) rfl fun W' hbel => ⟨?_, hbel⟩)
                show Ending.returned (.bool false) = _
                have e : ctR N n S m t = rtR N n S m t := by unfold ctR; rw [if_pos f7]
                exact absurd (by rw [e]) f9
            · skip
              have hF : Facts [((.bvar 0), true), ((.le (.var 2) (.lit (210))), true), ((.le (.var 1) (.lit (0))), false), ((.le (.var 1) (.lit (100000))), true), ((.le (.var 2) (.lit (0))), false), ((.le (.var 2) (.lit (100000))), true), ((.eq (.var 6) (.lit (0))), true), ((.eq (.var 5) (.var 8)), false)] := ⟨f1, f_le f2 rfl rfl, f_nle f3 rfl rfl, f_le f4 rfl rfl, f_nle f5 rfl rfl, f_le f6 rfl rfl, f_eq f7 rfl rfl, f_ne f8 rfl rfl, trivial⟩
              refine call_start (P := Try.prog) (K := orK (orK (orK (trueK 6) (fewK 0)) (orK (ctK 4 false false) (reK 6))) (rtK 7 false false)) (fl := []) (by kernel_rfl) (by kernel_rfl) hx hfar (orK_ok (orK_ok (orK_ok (trueK_ok awake_ok) (fewK_ok (N := N) (n := n) (S := S) rfl rfl rfl rfl hN hn)) (orK_ok (ctK_ok (N := N) (n := n) (m := m) (S := S) (t := t) rfl rfl rfl rfl rfl (fun h => by cases h) (fun h => by cases h) rfl rfl hN hn (by omega)) (reK_ok (N := N) (n := n) (S := S) rfl rfl rfl rfl hN hn))) (rtK_ok (N := N) (n := n) (m := m) (S := S) (t := t) rfl rfl rfl rfl rfl (fun h => by cases h) (fun h => by cases h) rfl rfl hN hn (by omega) f7)) (facD_ok hF) (fin_run (r := (.pl (.bool false))) (by kernel_rfl) rfl fun W' hbel => ⟨?_, hbel⟩)
              show Ending.returned (.bool false) = _
              have e : ctR N n S m t = rtR N n S m t := by unfold ctR; rw [if_pos f7]
              exact absurd (by rw [e]) f8
          · skip
            by_cases f8 : (ctR N n S m t).2 = (cnR N n S).2
            · skip
              by_cases f9 : (ctR N n S m t).1 = 0
              · skip
                have hF : Facts [((.bvar 0), true), ((.le (.var 2) (.lit (210))), true), ((.le (.var 1) (.lit (0))), false), ((.le (.var 1) (.lit (100000))), true), ((.le (.var 2) (.lit (0))), false), ((.le (.var 2) (.lit (100000))), true), ((.eq (.var 6) (.lit (0))), false), ((.eq (.var 5) (.var 6)), true), ((.eq (.var 4) (.lit (0))), true)] := ⟨f1, f_le f2 rfl rfl, f_nle f3 rfl rfl, f_le f4 rfl rfl, f_nle f5 rfl rfl, f_le f6 rfl rfl, f_ne f7 rfl rfl, f_eq f8 rfl rfl, f_eq f9 rfl rfl, trivial⟩
                refine call_start (P := Try.prog) (K := orK (orK (trueK 6) (fewK 0)) (orK (ctK 4 false false) (reK 6))) (fl := []) (by kernel_rfl) (by kernel_rfl) hx hfar (orK_ok (orK_ok (trueK_ok awake_ok) (fewK_ok (N := N) (n := n) (S := S) rfl rfl rfl rfl hN hn)) (orK_ok (ctK_ok (N := N) (n := n) (m := m) (S := S) (t := t) rfl rfl rfl rfl rfl (fun h => by cases h) (fun h => by cases h) rfl rfl hN hn (by omega)) (reK_ok (N := N) (n := n) (S := S) rfl rfl rfl rfl hN hn))) (facD_ok hF) (fin_run (r := (.pl (.bool true))) (by kernel_rfl) rfl fun W' hbel => ⟨?_, hbel⟩)
                show Ending.returned (.bool true) = _
                rfl
              · skip
                have hF : Facts [((.bvar 0), true), ((.le (.var 2) (.lit (210))), true), ((.le (.var 1) (.lit (0))), false), ((.le (.var 1) (.lit (100000))), true), ((.le (.var 2) (.lit (0))), false), ((.le (.var 2) (.lit (100000))), true), ((.eq (.var 6) (.lit (0))), false), ((.eq (.var 5) (.var 6)), true), ((.eq (.var 4) (.lit (0))), false)] := ⟨f1, f_le f2 rfl rfl, f_nle f3 rfl rfl, f_le f4 rfl rfl, f_nle f5 rfl rfl, f_le f6 rfl rfl, f_ne f7 rfl rfl, f_eq f8 rfl rfl, f_ne f9 rfl rfl, trivial⟩
                refine call_start (P := Try.prog) (K := orK (orK (trueK 6) (fewK 0)) (orK (ctK 4 false false) (reK 6))) (fl := []) (by kernel_rfl) (by kernel_rfl) hx hfar (orK_ok (orK_ok (trueK_ok awake_ok) (fewK_ok (N := N) (n := n) (S := S) rfl rfl rfl rfl hN hn)) (orK_ok (ctK_ok (N := N) (n := n) (m := m) (S := S) (t := t) rfl rfl rfl rfl rfl (fun h => by cases h) (fun h => by cases h) rfl rfl hN hn (by omega)) (reK_ok (N := N) (n := n) (S := S) rfl rfl rfl rfl hN hn))) (facD_ok hF) (fin_run (r := (.pl (.bool false))) (by kernel_rfl) rfl fun W' hbel => ⟨?_, hbel⟩)
                show Ending.returned (.bool false) = _
                have e : ctR N n S m t = (0, (cnR N n S).2) := by unfold ctR; rw [if_neg f7]
                exact absurd (by rw [e]) f9
            · skip
              have hF : Facts [((.bvar 0), true), ((.le (.var 2) (.lit (210))), true), ((.le (.var 1) (.lit (0))), false), ((.le (.var 1) (.lit (100000))), true), ((.le (.var 2) (.lit (0))), false), ((.le (.var 2) (.lit (100000))), true), ((.eq (.var 6) (.lit (0))), false), ((.eq (.var 5) (.var 6)), false)] := ⟨f1, f_le f2 rfl rfl, f_nle f3 rfl rfl, f_le f4 rfl rfl, f_nle f5 rfl rfl, f_le f6 rfl rfl, f_ne f7 rfl rfl, f_ne f8 rfl rfl, trivial⟩
              refine call_start (P := Try.prog) (K := orK (orK (trueK 6) (fewK 0)) (orK (ctK 4 false false) (reK 6))) (fl := []) (by kernel_rfl) (by kernel_rfl) hx hfar (orK_ok (orK_ok (trueK_ok awake_ok) (fewK_ok (N := N) (n := n) (S := S) rfl rfl rfl rfl hN hn)) (orK_ok (ctK_ok (N := N) (n := n) (m := m) (S := S) (t := t) rfl rfl rfl rfl rfl (fun h => by cases h) (fun h => by cases h) rfl rfl hN hn (by omega)) (reK_ok (N := N) (n := n) (S := S) rfl rfl rfl rfl hN hn))) (facD_ok hF) (fin_run (r := (.pl (.bool false))) (by kernel_rfl) rfl fun W' hbel => ⟨?_, hbel⟩)
              show Ending.returned (.bool false) = _
              have e : ctR N n S m t = (0, (cnR N n S).2) := by unfold ctR; rw [if_neg f7]
              exact absurd (by rw [e]) f8
    · skip
      have hF : Facts [((.bvar 0), true), ((.le (.var 2) (.lit (210))), false)] := ⟨f1, f_nle f2 rfl rfl, trivial⟩
      refine call_start (P := Try.prog) (K := orK (trueK 6) (fewK 0)) (fl := []) (by kernel_rfl) (by kernel_rfl) hx hfar (orK_ok (trueK_ok awake_ok) (fewK_ok (N := N) (n := n) (S := S) rfl rfl rfl rfl hN hn)) (facD_ok hF) (fin_run (r := (.pl (.bool true))) (by kernel_rfl) rfl fun W' hbel => ⟨?_, hbel⟩)
      show Ending.returned (.bool true) = _
      rfl
theorem turns_law {W : World} (N : Int) (hN : I64 N) (A : Option Addr) (n c : Nat) (F : Int → Int) (hS : RowR W A (n * 4) F) (hc : n ≤ c) (mc : c ≤ maxLen) (_ : ∀ j : Nat, j < n * 4 → I64 (F j)) (_ : A = none → c = 0)
    (B : Option Addr) (m d : Nat) (G : Int → Int) (hT : RowR W B (m * 1) G) (hd : m ≤ d) (_ : d ≤ maxLen) (ht : ∀ j : Nat, j < m * 1 → I64 (G j)) (_ : B = none → d = 0) (more : Int) (_ : I64 more) :
    Calls Try.prog 3 #[.agg #[.int .i64 N, .slice A n c], .slice B m d, .int .i64 more] W fun e w' => e = .returned (.bool true) ∧ Below W.heap.size W w' :=
  turns_all N A B n c m d (fun i j => F ((i * 4 + j : Nat) : Int)) (fun i => G (i : Int)) more W (row_flat4 hS) (by rw [Nat.mul_one] at hT; exact row_list hT) hN hc hd (by have h : maxLen = 9223372036854775807 := rfl; omega) (fun j hj => ht j (by omega))

end Go.Proofs.Ytmglofemnobakaa
