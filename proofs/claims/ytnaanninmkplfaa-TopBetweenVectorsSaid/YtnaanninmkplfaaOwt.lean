/- Contracts of package orbit: ranges of ticks that gro by one tick. -/
import Derived.Test.YtnaanninmkplfaaOlo
import Derived.Deep.AppendLies
import Derived.Deep.RegionLaw
import Derived.Laws.OwnMore
namespace Go.Proofs.Ytnaanninmkplfaa
open Go.RowKit
set_option maxHeartbeats 400000
set_option maxRecDepth 100000

/-- ranges with one more tick behind them -/
def gro (L : List (Int × Int)) (t : Int) : List (Int × Int) :=
  match L.getLast? with
  | some q => if q.2 = t - 1 then L.dropLast ++ [(q.1, t)] else L ++ [(t, t)]
  | none => [(t, t)]
theorem gro_nil (t : Int) : gro [] t = [(t, t)] := rfl
theorem gro_join {M : List (Int × Int)} {a b t : Int} (h : b = t - 1) : gro (M ++ [(a, b)]) t = M ++ [(a, t)] := by
  unfold gro
  rw [List.getLast?_concat]
  simp only
  rw [if_pos h, List.dropLast_concat]
theorem gro_new {M : List (Int × Int)} {a b t : Int} (h : b ≠ t - 1) : gro (M ++ [(a, b)]) t = M ++ [(a, b)] ++ [(t, t)] := by
  unfold gro
  rw [List.getLast?_concat]
  simp only
  rw [if_neg h]
theorem gro_len (L : List (Int × Int)) (t : Int) : (gro L t).length ≤ L.length + 1 := by
  rcases List.eq_nil_or_concat L with rfl | ⟨M, ⟨a, b⟩, rfl⟩
  · simp [gro_nil]
  · by_cases h : b = t - 1
    · rw [List.concat_eq_append, gro_join h]; simp
    · rw [List.concat_eq_append, gro_new h]; simp

/-- the cells of ranges -/
def cellsR (L : List (Int × Int)) : List Value := L.flatMap fun q => [.int .i64 q.1, .int .i64 q.2]
theorem cellsR_app (L M : List (Int × Int)) : cellsR (L ++ M) = cellsR L ++ cellsR M := by simp [cellsR]
theorem cellsR_len (L : List (Int × Int)) : (cellsR L).length = L.length * 2 := by
  induction L with
  | nil => rfl
  | cons q L ih =>
    have : cellsR (q :: L) = [.int .i64 q.1, .int .i64 q.2] ++ cellsR L := rfl
    rw [this, List.length_append, ih]
    simp
    omega
theorem cellsR_one (a b : Int) : cellsR [(a, b)] = [.int .i64 a, .int .i64 b] := rfl
theorem cellsR_set (M : List (Int × Int)) (a b t : Int) : (cellsR (M ++ [(a, b)])).set (M.length * 2 + 1) (.int .i64 t) = cellsR (M ++ [(a, t)]) := by
  rw [cellsR_app, cellsR_app, List.set_append_right _ _ (by rw [cellsR_len]; omega), cellsR_len]
  rw [show M.length * 2 + 1 - M.length * 2 = 1 by omega]
  rfl
theorem cellsR_last (M : List (Int × Int)) (a b : Int) : (cellsR (M ++ [(a, b)]))[M.length * 2 + 1]? = some (.int .i64 b) := by
  rw [cellsR_app, List.getElem?_append_right (by rw [cellsR_len]; omega), cellsR_len]
  rw [show M.length * 2 + 1 - M.length * 2 = 1 by omega]
  rfl

theorem infoR : (Try.prog.info? 46).map (fun i => (i.zero, i.size, i.bytes)) = some (some (.agg #[.int .i64 0, .int .i64 0]), 2, 16) := by kernel_rfl

/-- a row of ranges of the call's own -/
def OwnR (w : World) (base : Nat) (v : Value) (L : List (Int × Int)) : Prop := w.ownsRow base 46 2 v L.length (cellsR L)

theorem news_r (w : World) (a b : Int) : ∀ (j : Nat) (u : Value), [Value.int .i64 a, .int .i64 b][j]? = some u → (w.alloc (.cells #[.int .i64 a, .int .i64 b] 46)).cell? ((⟨w.heap.size, 0, none⟩ : Addr).add j) = some u := by
  intro j u hj
  have hA := At.new w 46 #[.int .i64 a, .int .i64 b]
  match j, hj with
  | 0, hj => simp at hj; subst hj; have h := hA.cell 0; simp at h; simp [Addr.add]
  | 1, hj => simp at hj; subst hj; have h := hA.cell 1; simp at h; simp [Addr.add]
theorem news_one (a b : Int) : ∀ u ∈ [Value.int .i64 a, .int .i64 b], u.oneCell' = true := by
  intro u hu
  simp at hu
  rcases hu with rfl | rfl <;> rfl

theorem grown_alloc {w w' : World} {o : Obj} {row : Option Nat} (h : (w.alloc o).grownBy w' row) : w.grownBy w' row :=
  ⟨h.os, h.tape, h.output, Nat.le_trans (by simp) h.size, fun k hk hn => (h.block k (by simp; omega) hn).trans ((World.grownBy_alloc w o row).block k hk hn)⟩

theorem withTick_any (v : Value) (L : List (Int × Int)) (t : Int) (base : Nat) (w : World) (hown : OwnR w base v L) (hb : base ≤ w.heap.size) (hL : L.length ≤ 100000) (ht : 0 ≤ t ∧ t ≤ 1000000000) :
    Calls Try.prog 111 #[v, .int .i64 t] w fun e w' => ∃ v', e = .returned v' ∧ OwnR w' base v' (gro L t) ∧ w.grownBy w' v.ownBlock := by
  obtain ⟨i0, hi, hz0, hz1, hz2⟩ := info_parts infoR
  have HI := Lib.hid hi
  have HZ0 := Lib.hid hz0
  have HZ1 := Lib.hid hz1
  have HZ2 := Lib.hid hz2
  clear hi hz0 hz1 hz2
  rcases List.eq_nil_or_concat L with rfl | ⟨M, ⟨a, b⟩, rfl⟩
  · have hv : ∃ A c, v = .slice A 0 c := by
      rcases hown.2 with ⟨rfl, _⟩ | ⟨g, cap, cur, rfl, _⟩
      · exact ⟨_, _, rfl⟩
      · exact ⟨_, _, rfl⟩
    obtain ⟨A, c, rfl⟩ := hv
    have HOWN := Lib.hid hown
    have HB := Lib.hid hb
    clear hown hL hb
    go_enter Try.func111, Try.ntmps111
    go_wp2_with (at_builtin; refine wpList_append_own _ rfl (.tmp 27) (.tmp 31) 97 rfl base 46 i0 (.agg #[.int .i64 0, .int .i64 0]) 2 16 Try.underlying97 HI.out HZ0.out HZ1.out HZ2.out rfl (by decide) (.slice A 0 c) 0 [] rfl (HOWN.out.alloc _) ⟨w.heap.size, 0, none⟩ 1 1 [.int .i64 t, .int .i64 t] rfl rfl (news_r w t t) (news_one t t) (by decide) (by decide) (by have := HB.out; simp; omega) ?_; intro v' w1 hown' hgw _)
    go_ret
    exact ⟨_, rfl, by simpa [OwnR, gro_nil, cellsR_one] using hown', grown_alloc hgw⟩
  · rw [List.concat_eq_append] at hown hL ⊢
    have hv : ∃ g c, v = .slice (some ⟨g, 0, none⟩) (M.length + 1) c := by
      rcases hown.2 with ⟨_, h⟩ | ⟨g, cap, cur, h, _⟩
      · simp at h
      · exact ⟨g, cap, by simpa using h⟩
    obtain ⟨g, c, rfl⟩ := hv
    have hown : w.ownsRow base 46 2 (.slice (some ⟨g, 0, none⟩) (M.length + 1) c) (M.length + 1) (cellsR (M ++ [(a, b)])) := by simpa [OwnR] using hown
    have hcell := hown.cellAt (M.length * 2 + 1) (by omega)
    have hfr := hown.frozenAt (M.length * 2 + 1)
    have hst := hown.stored (M.length * 2 + 1) (.int .i64 t)
    rw [cellsR_last] at hcell
    rw [cellsR_set] at hst
    have e1 : (0 : Int) ≤ (M.length : Int) := by omega
    have e2 : (M.length : Int) < ((M.length + 1 : Nat) : Int) := by omega
    have hm : M.length < 100000 := by simp at hL; omega
    have e4 : IntKind.i64.wrap (t - 1) = t - 1 := IntWalk.i64_in _ (by omega)
    have HOWN := Lib.hid hown
    have HST := Lib.hid hst
    have HB := Lib.hid hb
    have HL := Lib.hid hL
    clear hown hst hb hL
    by_cases hj : b = t - 1
    · have d1 : decide (b = t - 1) = true := by simpa using hj
      have d2 : (b == t - 1) = true := by simpa using hj
      have HJ := Lib.hid hj
      clear hj
      go_enter Try.func111, Try.ntmps111
      go_wp2_with fail
      go_ret
      refine ⟨_, rfl, ?_, HST.out.2⟩
      rw [gro_join HJ.out]
      simpa [OwnR] using HST.out.1
    · have d1 : decide (b = t - 1) = false := by simpa using hj
      have d2 : (b == t - 1) = false := by simpa using hj
      have HJ := Lib.hid hj
      clear hj
      go_enter Try.func111, Try.ntmps111
      go_wp2_with (at_builtin; refine wpList_append_own _ rfl (.tmp 27) (.tmp 31) 97 rfl base 46 i0 (.agg #[.int .i64 0, .int .i64 0]) 2 16 Try.underlying97 HI.out HZ0.out HZ1.out HZ2.out rfl (by decide) (.slice (some ⟨g, 0, none⟩) (M.length + 1) c) (M.length + 1) (cellsR (M ++ [(a, b)])) rfl (HOWN.out.alloc _) ⟨w.heap.size, 0, none⟩ 1 1 [.int .i64 t, .int .i64 t] rfl rfl (news_r w t t) (news_one t t) (by unfold maxLen; omega) (by omega) (by have := HB.out; simp; omega) ?_; intro v' w1 hown' hgw _)
      go_ret
      refine ⟨_, rfl, ?_, grown_alloc hgw⟩
      rw [gro_new HJ.out]
      rw [OwnR, cellsR_app, cellsR_one]
      simpa using hown'
end Go.Proofs.Ytnaanninmkplfaa
