/- Contract of the reference: ranges with one more tick behind them, in memory of their own. -/
import Derived.Test.YtegmjanpeaibcaaOps
import Derived.Test.YtegmjanpeaibcaaOcp
import Derived.Laws.AppendOwnNone
namespace Go.Proofs.Ytegmjanpeaibcaa
open Go.RowKit
set_option maxHeartbeats 1600000
set_option maxRecDepth 100000

theorem src_news {w W : World} {base g c : Nat} {M N : List (Int × Int)} {k : Nat} (h : w.ownsRow base 46 2 (.slice (some ⟨g, 0, none⟩) k c) k (cellsR (M ++ N))) (hb : Below w.heap.size w W) :
    ∀ (j : Nat) (u : Value), (cellsR M)[j]? = some u → W.cell? ((⟨g, 0, none⟩ : Addr).add j) = some u := by
  intro j u hj
  have hlt : j < (cellsR M).length := (List.getElem?_eq_some_iff.1 hj).1
  have h1 := h.cells (g := g) rfl j u (by rw [cellsR_app, List.getElem?_append_left hlt]; exact hj)
  have hadd : (⟨g, 0, none⟩ : Addr).add j = ⟨g, j, none⟩ := by unfold Addr.add; split <;> simp_all
  rw [hadd] at h1 ⊢
  exact (hb.cell (p := ⟨g, j, none⟩) (h.lt g rfl).2).trans h1
theorem cellsR_ones (M : List (Int × Int)) : ∀ u ∈ cellsR M, u.oneCell' = true := by
  intro u hu
  unfold cellsR at hu
  obtain ⟨q, _, hq⟩ := List.mem_flatMap.1 hu
  simp at hq
  rcases hq with rfl | rfl <;> rfl
theorem own_empty {W : World} {a base : Nat} (h : At W a 46 #[]) (hb : base ≤ a) : W.ownsRow base 46 2 (.slice (some ⟨a, 0, none⟩) 0 0) 0 [] :=
  ⟨by simp, .inr ⟨a, 0, #[], rfl, hb, h, by omega, by unfold maxLen; omega, rfl, rfl⟩⟩
theorem news_at {W : World} {b : Nat} {p q : Int} (h : At W b 46 #[.int .i64 p, .int .i64 q]) : ∀ (j : Nat) (u : Value), [Value.int .i64 p, .int .i64 q][j]? = some u → W.cell? ((⟨b, 0, none⟩ : Addr).add j) = some u := by
  intro j u hj
  match j, hj with
  | 0, hj => simp at hj; subst hj; have h := h.cell 0; simp at h; simp [Addr.add, h]
  | 1, hj => simp at hj; subst hj; have h := h.cell 1; simp at h; simp [Addr.add, h]

section
variable {ops : Array Oper} {o : Oper} {a : Act} {K : Act → World → Prop} {Q : Exit → Act → World → Prop} {E : Prop} {W : World}
/-- the copy of ranges, at a step of a drawn region -/
theorem step_grow1 (hgd : o.guard = none) (s x : Operand) (ho : o.op = .call { callee := .builtin .append, args := #[s, x], argTypes := #[97, 97] }) (base a1 g cap : Nat) (M : List (Int × Int))
    (hs : a.eval s = .slice (some ⟨a1, 0, none⟩) 0 0) (hx : a.eval x = .slice (some ⟨g, 0, none⟩) M.length cap) (hA : At W a1 46 #[]) (hb : base ≤ a1) (hm : M.length ≤ 100000)
    (hnews : ∀ (j : Nat) (u : Value), (cellsR M)[j]? = some u → W.cell? ((⟨g, 0, none⟩ : Addr).add j) = some u)
    (h : ∀ v' w', w'.ownsRow base 46 2 v' M.length (cellsR M) → W.grownBy w' (some a1) → K (a.put o.dst v') w') :
    if Region.wanted o (yielded ops a.tmps) = true then Oper.wp Try.prog o a W K Q else E := by
  have hw : Region.wanted o (yielded ops a.tmps) = true := by simp [Region.wanted, hgd]
  rw [if_pos hw]
  obtain ⟨i0, hi, hz0, hz1, hz2⟩ := info_parts infoR
  have hlt := hA.lt
  refine wp_append_own _ s x 97 ho base 46 i0 (.agg #[.int .i64 0, .int .i64 0]) 2 16 Try.underlying97 hi hz0 hz1 hz2 rfl (by decide) (.slice (some ⟨a1, 0, none⟩) 0 0) 0 [] hs (own_empty hA hb) ⟨g, 0, none⟩ M.length cap (cellsR M) hx (cellsR_len M) hnews (cellsR_ones M) (by unfold maxLen; omega) (by omega) (by omega) ?_
  intro v' w' hown hg _
  exact h v' w' (by simpa using hown) hg
/-- one range more -/
theorem step_grow2 (hgd : o.guard = none) (s x : Operand) (ho : o.op = .call { callee := .builtin .append, args := #[s, x], argTypes := #[97, 97] }) (base b2 : Nat) (p q : Int) (v : Value) (M : List (Int × Int))
    (hs : a.eval s = v) (hx : a.eval x = .slice (some ⟨b2, 0, none⟩) 1 1) (hown : W.ownsRow base 46 2 v M.length (cellsR M)) (hB : At W b2 46 #[.int .i64 p, .int .i64 q]) (hb : base ≤ W.heap.size) (hm : M.length ≤ 100000)
    (h : ∀ v' w', OwnR w' base v' (M ++ [(p, q)]) → W.grownBy w' v.ownBlock → K (a.put o.dst v') w') :
    if Region.wanted o (yielded ops a.tmps) = true then Oper.wp Try.prog o a W K Q else E := by
  have hw : Region.wanted o (yielded ops a.tmps) = true := by simp [Region.wanted, hgd]
  rw [if_pos hw]
  obtain ⟨i0, hi, hz0, hz1, hz2⟩ := info_parts infoR
  refine wp_append_own _ s x 97 ho base 46 i0 (.agg #[.int .i64 0, .int .i64 0]) 2 16 Try.underlying97 hi hz0 hz1 hz2 rfl (by decide) v M.length (cellsR M) hs hown ⟨b2, 0, none⟩ 1 1 [.int .i64 p, .int .i64 q] hx rfl (news_at hB) (news_one p q) (by unfold maxLen; omega) (by omega) hb ?_
  intro v' w' hown hg _
  refine h v' w' ?_ hg
  rw [OwnR, cellsR_app, cellsR_one]
  simpa using hown
end

theorem hold_at {A B : World} {g : Nat} {t : TypeId} {cs : Array Value} {row : Option Nat} {G : Prop} (h : At A g t cs) (hg : A.grownBy B row) (hr : row ≠ some g) (k : At B g t cs → G) : G := k (at_grown h hg hr)

theorem hold_cell {A B : World} {g i : Nat} {v : Value} {row : Option Nat} {G : Prop} (h : A.cell? ⟨g, i, none⟩ = some v) (hg : A.grownBy B row) (hl : g < A.heap.size) (hr : some g ≠ row) (k : B.cell? ⟨g, i, none⟩ = some v → G) : G := k ((hg.cell_far ⟨g, i, none⟩ hl hr).trans h)
theorem hold_below {B : Nat} {a w w' : World} {row : Option Nat} {G : Prop} (h : Below B a w) (hg : w.grownBy w' row) (hB : B ≤ w.heap.size) (hr : ∀ k, row = some k → B ≤ k) (k : Below B a w' → G) : G := k (h.grown hg hB hr)

theorem grown_join (M : List (Int × Int)) (a b t : Int) (g c : Nat) (base : Nat) (w : World) (hown : OwnR w base (.slice (some ⟨g, 0, none⟩) (M.length + 1) c) (M ++ [(a, b)])) (hL : M.length ≤ 90000) (ht : 0 ≤ t ∧ t ≤ 1000000000) (hj : b = t - 1) :
    Calls Try.prog 109 #[.slice (some ⟨g, 0, none⟩) (M.length + 1) c, .int .i64 t] w fun e w' => (∃ v', e = .returned v' ∧ OwnR w' w.heap.size v' (M ++ [(a, t)])) ∧ Below w.heap.size w w' := by
  have hown : w.ownsRow base 46 2 (.slice (some ⟨g, 0, none⟩) (M.length + 1) c) (M.length + 1) (cellsR (M ++ [(a, b)])) := by simpa [OwnR] using hown
  have hlt := (hown.lt g rfl).2
  have hc1 := hown.cellAt (M.length * 2 + 1) (by omega)
  have hc0 := hown.cellAt (M.length * 2) (by omega)
  rw [cellsR_last] at hc1
  have e0 : (cellsR (M ++ [(a, b)]))[M.length * 2]? = some (.int .i64 a) := by
    rw [cellsR_app, List.getElem?_append_right (by rw [cellsR_len]; omega), cellsR_len, show M.length * 2 - M.length * 2 = 0 by omega]
    rfl
  rw [e0] at hc0
  have hcap : M.length + 1 ≤ c := by
    rcases hown.2 with ⟨q, _⟩ | ⟨g', cap, cur, q, _, _, q2, _⟩
    · cases q
    · cases q
      exact q2
  have f1 : (0 : Int) ≤ (M.length : Int) := by omega
  have f2 : (M.length : Int) < ((M.length + 1 : Nat) : Int) := by omega
  have f3 : IntKind.i64.wrap (t - 1) = t - 1 := IntWalk.i64_in _ (by omega)
  have f4 : decide (0 < M.length + 1) = true := by simp
  have d1 : decide (b = t - 1) = true := by simpa using hj
  have d2 : (b == t - 1) = true := by simpa using hj
  have HOWN := Lib.hid hown
  have HL := Lib.hid hL
  have f5 : (M.length : Int) ≤ 90000 := by omega
  have f6 : IntKind.i64.wrap (M.length : Int) = (M.length : Int) := IntWalk.i64_in _ (by omega)
  have f7 : (M.length : Int) ≤ (c : Int) := by omega
  have f8 : M.length ≤ c := by omega
  have f9 : (M.length : Int) < (M.length : Int) + 1 := by omega
  have hlt0 : (cellsR M).length = M.length * 2 := cellsR_len M
  have HSC : Hid (∀ W : World, Below w.heap.size w W → W.cell? ⟨g, M.length * 2, none⟩ = some (.int .i64 a)) := fun W hW => (hW.cell (p := ⟨g, M.length * 2, none⟩) hlt).trans hc0
  clear hown hj e0
  go_enter Try.func109, Try.ntmps109
  go_wp2_with fail
  go_region_law (first
    | (refine step_grow1 rfl (.tmp 21) (.tmp 25) rfl w.heap.size w.heap.size g c M ?_ ?_ ?_ ?_ ?_ ?_ ?_; (focus (first | (simp [Act.eval]; done) | (unfold Act.put; simp [Act.eval]; done))); (focus (first | (simp [Act.eval]; done) | (unfold Act.put; simp [Act.eval]; done))); (focus ((repeat (first | (with_reducible assumption) | ((with_reducible refine at_new ?_); first | omega | (simp; done)) | (with_reducible refine At.alloc ?_ _) | (with_reducible refine at_drew ?_))); done)); (focus omega); (focus omega); (focus (refine src_news HOWN.out ?_; ((repeat (first | (with_reducible exact Below.refl _ _) | (with_reducible refine Below.drew ?_) | (with_reducible refine below_drewNs ?_) | (with_reducible refine below_new ?_ (by first | omega | (simp; done) | (simp; omega))))); done))); intro v1 w1 hown1 hg1; (refine hold_cell (g := g) (i := M.length * 2) (v := .int .i64 a) ?_ hg1 ?_ ?_ ?_); (focus (refine HSC.out _ ?_; ((repeat (first | (with_reducible exact Below.refl _ _) | (with_reducible refine Below.drew ?_) | (with_reducible refine below_drewNs ?_) | (with_reducible refine below_new ?_ (by first | omega | (simp; done) | (simp; omega))))); done))); (focus (simp; omega)); (focus (simp; omega)); intro q0; (refine hold_below (B := w.heap.size) (a := w) ?_ hg1 ?_ ?_ ?_); (focus ((repeat (first | (with_reducible exact Below.refl _ _) | (with_reducible refine Below.drew ?_) | (with_reducible refine below_drewNs ?_) | (with_reducible refine below_new ?_ (by first | omega | (simp; done) | (simp; omega))))); done)); (focus (first | omega | (simp; done) | (simp; omega))); (focus (intro k h; simp at h; omega)); intro hb1; (first | ((with_reducible refine hold_at (g := (w.heap.size + 1)) (t := 46) (cs := #[.int .i64 a, .int .i64 t]) ?_ hg1 ?_ ?_); (focus ((repeat (first | (with_reducible assumption) | ((with_reducible refine at_new ?_); first | omega | (simp; done)) | (with_reducible refine At.alloc ?_ _) | (with_reducible refine at_drew ?_))); done)); (focus (simp; done)); intro qb) | skip))
    | (refine step_grow1 rfl (.tmp 21) (.tmp 25) rfl w.heap.size (w.heap.size + 1) g c M ?_ ?_ ?_ ?_ ?_ ?_ ?_; (focus (first | (simp [Act.eval]; done) | (unfold Act.put; simp [Act.eval]; done))); (focus (first | (simp [Act.eval]; done) | (unfold Act.put; simp [Act.eval]; done))); (focus ((repeat (first | (with_reducible assumption) | ((with_reducible refine at_new ?_); first | omega | (simp; done)) | (with_reducible refine At.alloc ?_ _) | (with_reducible refine at_drew ?_))); done)); (focus omega); (focus omega); (focus (refine src_news HOWN.out ?_; ((repeat (first | (with_reducible exact Below.refl _ _) | (with_reducible refine Below.drew ?_) | (with_reducible refine below_drewNs ?_) | (with_reducible refine below_new ?_ (by first | omega | (simp; done) | (simp; omega))))); done))); intro v1 w1 hown1 hg1; (refine hold_cell (g := g) (i := M.length * 2) (v := .int .i64 a) ?_ hg1 ?_ ?_ ?_); (focus (refine HSC.out _ ?_; ((repeat (first | (with_reducible exact Below.refl _ _) | (with_reducible refine Below.drew ?_) | (with_reducible refine below_drewNs ?_) | (with_reducible refine below_new ?_ (by first | omega | (simp; done) | (simp; omega))))); done))); (focus (simp; omega)); (focus (simp; omega)); intro q0; (refine hold_below (B := w.heap.size) (a := w) ?_ hg1 ?_ ?_ ?_); (focus ((repeat (first | (with_reducible exact Below.refl _ _) | (with_reducible refine Below.drew ?_) | (with_reducible refine below_drewNs ?_) | (with_reducible refine below_new ?_ (by first | omega | (simp; done) | (simp; omega))))); done)); (focus (first | omega | (simp; done) | (simp; omega))); (focus (intro k h; simp at h; omega)); intro hb1; (first | ((with_reducible refine hold_at (g := w.heap.size) (t := 46) (cs := #[.int .i64 a, .int .i64 t]) ?_ hg1 ?_ ?_); (focus ((repeat (first | (with_reducible assumption) | ((with_reducible refine at_new ?_); first | omega | (simp; done)) | (with_reducible refine At.alloc ?_ _) | (with_reducible refine at_drew ?_))); done)); (focus (simp; done)); intro qb) | skip))
    | (refine step_grow2 rfl (.tmp 26) (.tmp 35) rfl w.heap.size w1.heap.size a t v1 M ?_ ?_ ?_ ?_ ?_ ?_ ?_; (focus (first | (simp [Act.eval]; done) | (unfold Act.put; simp [Act.eval]; done))); (focus (first | (simp [Act.eval]; done) | (unfold Act.put; simp [Act.eval]; done))); (focus (exact (hown1.alloc _))); (focus (exact (at_new rfl))); (focus (have := hb1.size; first | omega | (simp; omega))); (focus omega); intro v2 w2 hown2 hg2)
    | (refine step_grow2 rfl (.tmp 26) (.tmp 35) rfl w.heap.size (w.heap.size + 1) a t v1 M ?_ ?_ ?_ ?_ ?_ ?_ ?_; (focus (first | (simp [Act.eval]; done) | (unfold Act.put; simp [Act.eval]; done))); (focus (first | (simp [Act.eval]; done) | (unfold Act.put; simp [Act.eval]; done))); (focus (exact hown1)); (focus (exact qb)); (focus (have := hb1.size; first | omega | (simp; omega))); (focus omega); intro v2 w2 hown2 hg2)
    | (refine step_grow2 rfl (.tmp 26) (.tmp 35) rfl w.heap.size w.heap.size a t v1 M ?_ ?_ ?_ ?_ ?_ ?_ ?_; (focus (first | (simp [Act.eval]; done) | (unfold Act.put; simp [Act.eval]; done))); (focus (first | (simp [Act.eval]; done) | (unfold Act.put; simp [Act.eval]; done))); (focus (exact hown1)); (focus (exact qb)); (focus (have := hb1.size; first | omega | (simp; omega))); (focus omega); intro v2 w2 hown2 hg2))
  all_goals
    go_wp2
    go_ret
    refine ⟨⟨_, rfl, hown2⟩, ?_⟩
    first
      | exact hb1.grown hg2 hb1.size (fun k h => (hown1.lt k h).1)
      | exact (below_new hb1 hb1.size).grown hg2 (by have := hb1.size; simp; omega) (fun k h => (hown1.lt k h).1)

/-- the same at a plain region -/
theorem list_grow1 {ops : Array Oper} {rest : List Oper} {o : Oper} {a : Act} {Q : Exit → Act → World → Prop} {W : World} (hgd : o.guard = none) (s x : Operand) (ho : o.op = .call { callee := .builtin .append, args := #[s, x], argTypes := #[97, 97] }) (base a1 g cap : Nat) (M : List (Int × Int))
    (hs : a.eval s = .slice (some ⟨a1, 0, none⟩) 0 0) (hx : a.eval x = .slice (some ⟨g, 0, none⟩) M.length cap) (hA : At W a1 46 #[]) (hb : base ≤ a1) (hm : M.length ≤ 100000)
    (hnews : ∀ (j : Nat) (u : Value), (cellsR M)[j]? = some u → W.cell? ((⟨g, 0, none⟩ : Addr).add j) = some u)
    (h : ∀ v' w', w'.ownsRow base 46 2 v' M.length (cellsR M) → W.grownBy w' (some a1) → wpList Try.prog ops Q rest (a.put o.dst v') w') : wpList Try.prog ops Q (o :: rest) a W := by
  obtain ⟨i0, hi, hz0, hz1, hz2⟩ := info_parts infoR
  have hlt := hA.lt
  refine wpList_append_own _ hgd s x 97 ho base 46 i0 (.agg #[.int .i64 0, .int .i64 0]) 2 16 Try.underlying97 hi hz0 hz1 hz2 rfl (by decide) (.slice (some ⟨a1, 0, none⟩) 0 0) 0 [] hs (own_empty hA hb) ⟨g, 0, none⟩ M.length cap (cellsR M) hx (cellsR_len M) hnews (cellsR_ones M) (by unfold maxLen; omega) (by omega) (by omega) ?_
  intro v' w' hown hg _
  exact h v' w' (by simpa using hown) hg
theorem list_grow2 {ops : Array Oper} {rest : List Oper} {o : Oper} {a : Act} {Q : Exit → Act → World → Prop} {W : World} (hgd : o.guard = none) (s x : Operand) (ho : o.op = .call { callee := .builtin .append, args := #[s, x], argTypes := #[97, 97] }) (base b2 : Nat) (p q : Int) (v : Value) (M : List (Int × Int))
    (hs : a.eval s = v) (hx : a.eval x = .slice (some ⟨b2, 0, none⟩) 1 1) (hown : W.ownsRow base 46 2 v M.length (cellsR M)) (hB : At W b2 46 #[.int .i64 p, .int .i64 q]) (hb : base ≤ W.heap.size) (hm : M.length ≤ 100000)
    (h : ∀ v' w', OwnR w' base v' (M ++ [(p, q)]) → W.grownBy w' v.ownBlock → wpList Try.prog ops Q rest (a.put o.dst v') w') : wpList Try.prog ops Q (o :: rest) a W := by
  obtain ⟨i0, hi, hz0, hz1, hz2⟩ := info_parts infoR
  refine wpList_append_own _ hgd s x 97 ho base 46 i0 (.agg #[.int .i64 0, .int .i64 0]) 2 16 Try.underlying97 hi hz0 hz1 hz2 rfl (by decide) v M.length (cellsR M) hs hown ⟨b2, 0, none⟩ 1 1 [.int .i64 p, .int .i64 q] hx rfl (news_at hB) (news_one p q) (by unfold maxLen; omega) (by omega) hb ?_
  intro v' w' hown hg _
  refine h v' w' ?_ hg
  rw [OwnR, cellsR_app, cellsR_one]
  simpa using hown

theorem grown_new (M : List (Int × Int)) (a b t : Int) (g c : Nat) (base : Nat) (w : World) (hown : OwnR w base (.slice (some ⟨g, 0, none⟩) (M.length + 1) c) (M ++ [(a, b)])) (hL : M.length ≤ 90000) (ht : 0 ≤ t ∧ t ≤ 1000000000) (hj : b ≠ t - 1) :
    Calls Try.prog 109 #[.slice (some ⟨g, 0, none⟩) (M.length + 1) c, .int .i64 t] w fun e w' => (∃ v', e = .returned v' ∧ OwnR w' w.heap.size v' (M ++ [(a, b)] ++ [(t, t)])) ∧ Below w.heap.size w w' := by
  have hown : w.ownsRow base 46 2 (.slice (some ⟨g, 0, none⟩) (M.length + 1) c) (M.length + 1) (cellsR (M ++ [(a, b)])) := by simpa [OwnR] using hown
  have hlt := (hown.lt g rfl).2
  have hc1 := hown.cellAt (M.length * 2 + 1) (by omega)
  rw [cellsR_last] at hc1
  have hnews : ∀ (j : Nat) (u : Value), (cellsR (M ++ [(a, b)]))[j]? = some u → (w.alloc (.cells #[] 46)).cell? ((⟨g, 0, none⟩ : Addr).add j) = some u := by
    refine src_news (base := base) (k := M.length + 1) (c := c) (N := []) (by simpa using hown) ?_
    exact below_new (Below.refl _ w) (Nat.le_refl _)
  have hl2 : (M ++ [(a, b)]).length = M.length + 1 := by simp
  have f1 : (0 : Int) ≤ (M.length : Int) := by omega
  have f2 : (M.length : Int) < ((M.length + 1 : Nat) : Int) := by omega
  have f3 : IntKind.i64.wrap (t - 1) = t - 1 := IntWalk.i64_in _ (by omega)
  have f4 : decide (0 < M.length + 1) = true := by simp
  have d1 : decide (b = t - 1) = false := by simpa using hj
  have d2 : (b == t - 1) = false := by simpa using hj
  have HNEWS := Lib.hid hnews
  have HL2 := Lib.hid hl2
  have f5 : (M.length : Int) ≤ 90000 := by omega
  have HL := Lib.hid hL
  clear hown hj hnews hl2
  go_enter Try.func109, Try.ntmps109
  go_wp2_with (first
    | (at_builtin; refine list_grow1 rfl (.tmp 37) (.tmp 38) rfl w.heap.size w.heap.size g c (M ++ [(a, b)]) rfl (by rw [HL2.out]; rfl) (at_new rfl) (Nat.le_refl _) (by rw [HL2.out]; have := HL.out; omega) HNEWS.out ?_; intro v1 w1 hown1 hg1; have hb1 : Below w.heap.size w w1 := (below_new (Below.refl _ w) (Nat.le_refl _)).grown hg1 (by simp) (fun k h => by simp at h; omega))
    | (at_builtin; refine list_grow2 rfl (.tmp 39) (.tmp 43) rfl w.heap.size w1.heap.size t t v1 (M ++ [(a, b)]) rfl rfl (hown1.alloc _) (at_new rfl) (by have := hb1.size; simp; omega) (by rw [HL2.out]; have := HL.out; omega) ?_; intro v2 w2 hown2 hg2))
  go_ret
  refine ⟨⟨_, rfl, hown2⟩, ?_⟩
  exact (below_new hb1 hb1.size).grown hg2 (by have := hb1.size; simp; omega) (fun k h => (hown1.lt k h).1)

theorem grown_nil (t : Int) (w : World) :
    Calls Try.prog 109 #[.slice none 0 0, .int .i64 t] w fun e w' => (∃ v', e = .returned v' ∧ OwnR w' w.heap.size v' [(t, t)]) ∧ Below w.heap.size w w' := by
  obtain ⟨i0, hi, _, _, _⟩ := info_parts infoR
  have HI := Lib.hid hi
  clear hi
  go_enter Try.func109, Try.ntmps109
  go_wp2_with (first
    | (at_builtin; refine wpList_append_own_none _ rfl (.tmp 37) (.tmp 38) 97 rfl w.heap.size 46 i0 2 Try.underlying97 HI.out (.slice (some ⟨w.heap.size, 0, none⟩) 0 0) 0 [] rfl (own_empty (at_new rfl) (Nat.le_refl _)) rfl ?_)
    | (at_builtin; refine list_grow2 rfl (.tmp 39) (.tmp 43) rfl w.heap.size (w.heap.size + 1) t t (.slice (some ⟨w.heap.size, 0, none⟩) 0 0) [] rfl rfl (own_empty ((at_new rfl).alloc _) (Nat.le_refl _)) (at_new (by simp)) (by simp; omega) (by simp) ?_; intro v2 w2 hown2 hg2))
  go_ret
  refine ⟨⟨_, rfl, by simpa using hown2⟩, ?_⟩
  exact (below_new (below_new (Below.refl _ w) (Nat.le_refl _)) (by simp)).grown hg2 (by simp; omega) (fun k h => by simp [Value.ownBlock] at h; omega)

/-- ranges with one more tick, whatever they are -/
theorem grown_any (v : Value) (L : List (Int × Int)) (t : Int) (base : Nat) (w : World) (hown : OwnR w base v L) (hnil : L = [] → v = .slice none 0 0) (hL : L.length ≤ 90000) (ht : 0 ≤ t ∧ t ≤ 1000000000) :
    Calls Try.prog 109 #[v, .int .i64 t] w fun e w' => (∃ v', e = .returned v' ∧ OwnR w' w.heap.size v' (gro L t)) ∧ Below w.heap.size w w' := by
  rcases List.eq_nil_or_concat L with rfl | ⟨M, ⟨a, b⟩, rfl⟩
  · rw [hnil rfl, gro_nil]
    exact grown_nil t w
  · rw [List.concat_eq_append] at hown hL ⊢
    have hv : ∃ g c, v = .slice (some ⟨g, 0, none⟩) (M.length + 1) c := by
      rcases hown.2 with ⟨_, h⟩ | ⟨g, cap, cur, h, _⟩
      · simp at h
      · exact ⟨g, cap, by simpa using h⟩
    obtain ⟨g, c, rfl⟩ := hv
    have hm : M.length ≤ 90000 := by simp at hL; omega
    by_cases hj : b = t - 1
    · rw [gro_join hj]
      exact grown_join M a b t g c base w hown hm ht hj
    · rw [gro_new hj]
      exact grown_new M a b t g c base w hown hm ht hj
end Go.Proofs.Ytegmjanpeaibcaa
