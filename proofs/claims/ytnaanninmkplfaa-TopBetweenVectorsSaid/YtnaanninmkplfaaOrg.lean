/- Contracts: two lists of ranges are held against each other. -/
import Derived.Test.YtnaanninmkplfaaOeq
import Derived.Test.YtnaanninmkplfaaOwt
import Derived.BigRegion
namespace Go.Proofs.Ytnaanninmkplfaa
open Go.RowKit
set_option maxHeartbeats 400000
set_option maxRecDepth 100000

/-- ranges in memory -/
def Rn (w : World) (A : Option Addr) (L : List (Int × Int)) : Prop := 0 < L.length → ∃ b off, A = some ⟨b, off, none⟩ ∧ b < w.heap.size ∧ ∀ (i : Nat) (q : Int × Int), L[i]? = some q → w.cell? ⟨b, off + i * 2, none⟩ = some (.int .i64 q.1) ∧ w.cell? ⟨b, off + i * 2 + 1, none⟩ = some (.int .i64 q.2)
theorem Rn.below {w w' : World} {A : Option Addr} {L : List (Int × Int)} (h : Rn w A L) (hb : Below w.heap.size w w') : Rn w' A L := fun h0 => by
  obtain ⟨b, off, e, hl, hc⟩ := h h0
  exact ⟨b, off, e, Nat.lt_of_lt_of_le hl hb.size, fun i q hi => ⟨(hb.cell (p := ⟨b, off + i * 2, none⟩) hl).trans (hc i q hi).1, (hb.cell (p := ⟨b, off + i * 2 + 1, none⟩) hl).trans (hc i q hi).2⟩⟩
theorem cellsR_get {L : List (Int × Int)} {i : Nat} {q : Int × Int} (h : L[i]? = some q) : (cellsR L)[i * 2]? = some (.int .i64 q.1) ∧ (cellsR L)[i * 2 + 1]? = some (.int .i64 q.2) := by
  induction L generalizing i with
  | nil => simp at h
  | cons p L ih =>
    have e : cellsR (p :: L) = .int .i64 p.1 :: .int .i64 p.2 :: cellsR L := rfl
    rw [e]
    cases i with
    | zero => simp at h; subst h; exact ⟨rfl, rfl⟩
    | succ i =>
      simp at h
      have := ih h
      rw [show (i + 1) * 2 = i * 2 + 1 + 1 by omega]
      simpa using this
theorem OwnR.rn {w : World} {base : Nat} {v : Value} {L : List (Int × Int)} (h : OwnR w base v L) : ∃ A c, v = .slice A L.length c ∧ Rn w A L := by
  rcases h.2 with ⟨rfl, h0⟩ | ⟨g, cap, cur, rfl, hb, hg, hr⟩
  · exact ⟨none, 0, by rw [h0], fun h1 => by omega⟩
  · refine ⟨_, _, rfl, fun _ => ⟨g, 0, rfl, (Array.getElem?_eq_some_iff.1 hg).1, fun i q hi => ?_⟩⟩
    have hlt : i < L.length := (List.getElem?_eq_some_iff.1 hi).1
    obtain ⟨h1, h2⟩ := cellsR_get hi
    rw [Nat.zero_add]
    exact ⟨(World.ownsRow.cellAt h (i * 2) (by omega)).trans h1, (World.ownsRow.cellAt h (i * 2 + 1) (by omega)).trans h2⟩

theorem ranges_any (A B : Option Addr) (c d : Nat) (L M : List (Int × Int)) (w : World) (ha : Rn w A L) (hb : Rn w B M) (hn : L.length ≤ 1000000) (hm : M.length ≤ 1000000) :
    Calls Try.prog 54 #[.slice A L.length c, .slice B M.length d] w fun e w' => e = .returned (.bool (decide (L = M))) ∧ Below w.heap.size w w' := by
  have HA := Lib.hid ha
  have HB := Lib.hid hb
  obtain ⟨n, hn0⟩ : ∃ n, n = L.length := ⟨_, rfl⟩
  obtain ⟨m, hm0⟩ : ∃ m, m = M.length := ⟨_, rfl⟩
  rw [← hn0] at hn ⊢
  rw [← hm0] at hm ⊢
  have HN := Lib.hid hn0
  have HM := Lib.hid hm0
  clear ha hb hn0 hm0
  by_cases hnm : n = m
  · subst hnm
    go_enter Try.func54, Try.ntmps54
    go_wp2
    go_loopw [5] (fun i wr => ∃ k : Nat, k ≤ n ∧ i = .int .i64 (k : Int) ∧ (∀ j : Nat, j < k → L[j]? = M[j]?) ∧ Below w.heap.size w wr) (fun i _ => n - (intOf i).toNat)
    case atStart => exact ⟨0, Nat.zero_le _, rfl, fun j hj => absurd hj (by omega), Below.refl _ _⟩
    case round =>
      obtain ⟨k, hk, rfl, hz, hbel⟩ := hrel
      have HZ := Lib.hid hz
      clear hz
      by_cases hlt : k < n
      · obtain ⟨b1, o1, rfl, hb1, hc1⟩ := HA.out (by have := HN.out; omega)
        obtain ⟨b2, o2, rfl, hb2, hc2⟩ := HB.out (by have := HM.out; omega)
        obtain ⟨q1, hq1⟩ : ∃ q, L[k]? = some q := ⟨L[k]'(by have := HN.out; omega), List.getElem?_eq_getElem _⟩
        obtain ⟨q2, hq2⟩ : ∃ q, M[k]? = some q := ⟨M[k]'(by have := HM.out; omega), List.getElem?_eq_getElem _⟩
        have c1 := (hbel.cell (p := ⟨b1, o1 + k * 2, none⟩) hb1).trans (hc1 k q1 hq1).1
        have c2 := (hbel.cell (p := ⟨b1, o1 + k * 2 + 1, none⟩) hb1).trans (hc1 k q1 hq1).2
        have c3 := (hbel.cell (p := ⟨b2, o2 + k * 2, none⟩) hb2).trans (hc2 k q2 hq2).1
        have c4 := (hbel.cell (p := ⟨b2, o2 + k * 2 + 1, none⟩) hb2).trans (hc2 k q2 hq2).2
        obtain ⟨x1, y1⟩ := q1
        obtain ⟨x2, y2⟩ := q2
        have HQ1 := Lib.hid hq1
        have HQ2 := Lib.hid hq2
        simp only at c1 c2 c3 c4
        have u1 : (0 : Int) ≤ (k : Int) := by omega
        have u2 : (k : Int) < (n : Int) := by omega
        clear hc1 hc2 hq1 hq2
        by_cases hxy : x1 = x2 ∧ y1 = y2
        · have HE := Lib.hid hxy
          obtain ⟨e1, e2⟩ := hxy
          go_wp2
          go_region
          go_wp2
          go_roundw
          case rel => exact ⟨k + 1, by omega, by go_num, fun j hj => by
            rcases Nat.lt_or_ge j k with g | g
            · exact HZ.out j g
            · obtain rfl : j = k := by omega
              rw [HQ1.out, HQ2.out, HE.out.1, HE.out.2], hbel.drew⟩
          case measure => simp [intOf]; omega
        · have HE : Hid (decide (L = M) = false) := by
            refine decide_eq_false fun h => hxy ?_
            have h1 := HQ1.out
            rw [h, HQ2.out] at h1
            simp at h1
            exact ⟨h1.1.symm, h1.2.symm⟩
          by_cases e1 : x1 = x2
          · have e2 : ¬ y1 = y2 := fun h => hxy ⟨e1, h⟩
            clear hxy
            go_wp2
            go_region
            go_wp2
            go_ret
            exact ⟨congrArg (fun b => Ending.returned (.bool b)) HE.out.symm, hbel.drew⟩
          · clear hxy
            go_wp2
            go_region
            go_wp2
            go_ret
            exact ⟨congrArg (fun b => Ending.returned (.bool b)) HE.out.symm, hbel.drew⟩
      · have HE : Hid (decide (L = M) = true) := by
          refine decide_eq_true (List.ext_getElem? fun j => ?_)
          rcases Nat.lt_or_ge j k with g | g
          · exact HZ.out j g
          · rw [List.getElem?_eq_none (by have := HN.out; omega), List.getElem?_eq_none (by have := HM.out; omega)]
        go_wp2
        go_ret
        exact ⟨congrArg (fun b => Ending.returned (.bool b)) HE.out.symm, hbel⟩
  · have e1 : ((n : Int) != (m : Int)) = true := by rw [bne_iff_ne]; omega
    have HE : Hid (decide (L = M) = false) := decide_eq_false fun h => hnm (by rw [HN.out, HM.out, h])
    clear hnm
    go_enter Try.func54, Try.ntmps54
    go_wp2
    go_ret
    exact ⟨congrArg (fun b => Ending.returned (.bool b)) HE.out.symm, Below.refl _ _⟩
end Go.Proofs.Ytnaanninmkplfaa
