/- Calls reckoned: every call that is reckoned, from a world in which nothing is known, comes out so. -/
import Derived.Test.YtmglofemnobakaaEvl
namespace Go.Proofs.Ytmglofemnobakaa
open Go.RowKit

def resSem (tm : Array Value) : ResultVar → Sem Value
  | .tmp t => pure (tm.getD t undef)
  | .cell p t => do loadVar t (← asAddr (tm.getD p undef))

section
variable {P : Program} {R : Rec} {V : Nat → Prop} {m g : Nat → Nat} {h h' : RH} {w w' : World} {ro : Option Nat} {n : Nat} {a a' : RA} {A : Act} {e : Exit} {Q : Exit → Act → World → Prop} {r : RV} {v : Value}

/-- the deferred calls of loops -/
theorem take_ok [Rho] {fn : Func} {A : Act} {tm : Array Value} {Rr : Ending → World → Prop} {rs : List RV} : ∀ (ds : List Nat) (h h1 : RH) (m g : Nat → Nat) (V : Nat → Prop) (w : World), takeD ds h = some h1 → RepW P V m g h w → (∀ d ∈ ds, V d) →
    (∀ w', Ext m g h w m g h1 w' → RepW P V m g h1 w' → h1.n = h.n → ∃ v, (results fn tm).run P w' = .ok v w' ∧ Rr (.returned v) w') →
    LeavesInM Fence.wide n P fn tm Rr (ds.map fun d => { target := .collected (m d), args := #[] }) .returning w
  | [], h, h1, m, g, V, w, he, hw, _, hk => by
    simp only [takeD, Option.some.injEq] at he
    subst he
    exact hk w Ext.refl hw rfl
  | d :: ds, h, h1, m, g, V, w, he, hw, hv, hk => by
    simp only [takeD] at he
    split at he
    · rename_i hd
      obtain ⟨_, hb⟩ := hw.live d _ hd
      have hb : w.heap[m d]? = some (.deferred (some [])) := hb
      have hlt := (Array.getElem?_eq_some_iff.1 hb).1
      obtain ⟨x1, x2⟩ := put_step (w' := w.putObj (m d) (.deferred none)) hw hd (.defd true) (fun B hB => World.putObj_heap_other hB) (by simp) rfl rfl rfl (by show _ = _; exact World.putObj_heap_same hlt)
      refine ⟨by simp, .inl ⟨m d, _, rfl, run_takeDeferred hb, ?_⟩⟩
      refine take_ok (A := A) (rs := rs) ds _ h1 m g V _ he x2 (fun d' hd' => hv d' (List.mem_cons_of_mem _ hd')) ?_
      intro w' y1 y2 y3
      exact hk w' (x1.trans y1) y2 y3
    · cases he
theorem result_ok [Rho] {a : RA} {x : ResultVar} (he : resultD P a h x = some r) (ha : RepT V m g a.tmps a.sz A.tmps) (hw : RepW P V m g h w) :
    ∃ v, (resSem A.tmps x).run P w = .ok v w ∧ Rep V m g r v := by
  unfold resultD at he
  split at he
  · rename_i t
    cases he
    exact ⟨_, rfl, ha.2.2 t⟩
  · rename_i p t
    split at he
    · rename_i b off hp
      have := ha.2.2 p
      rw [← ra_get, hp] at this
      simp only [Rep] at this
      obtain ⟨v, h1, h2⟩ := loadD_run he hw
      exact ⟨v, by simp only [resSem]; rw [this.2]; simp [asAddr, h1], h2⟩
    · cases he
theorem resultsL_ok [Rho] {a : RA} : ∀ (xs : List ResultVar) (rs : List RV), resultsD P a h xs = some rs → RepT V m g a.tmps a.sz A.tmps → RepW P V m g h w →
    ∃ vs, (xs.mapM (resSem A.tmps)).run P w = .ok vs w ∧ RepL V m g rs vs
  | [], rs, he, _, _ => by
    simp only [resultsD, Option.some.injEq] at he
    subst he
    exact ⟨[], by simp, by simp [RepL]⟩
  | x :: xs, rs, he, ha, hw => by
    simp only [resultsD] at he
    cases h1 : resultD P a h x with
    | none => rw [h1] at he; cases he
    | some r =>
      rw [h1] at he
      cases h2 : resultsD P a h xs with
      | none => rw [h2] at he; cases he
      | some rs' =>
        rw [h2] at he
        simp only [Option.some.injEq] at he
        subst he
        obtain ⟨v, y1, y2⟩ := result_ok h1 ha hw
        obtain ⟨vs, z1, z2⟩ := resultsL_ok xs rs' h2 ha hw
        refine ⟨v :: vs, ?_, repL_cons'.2 ⟨y2, z2⟩⟩
        rw [List.mapM_cons]
        simp only [Sem.run_bind, y1, Result.andThen_ok, z1, Sem.run_pure]
theorem results_ok [Rho] {fn : Func} {a : RA} {rs : List RV} (he : resultsD P a h fn.results.toList = some rs) (ha : RepT V m g a.tmps a.sz A.tmps) (hw : RepW P V m g h w) :
    ∃ v, (results fn A.tmps).run P w = .ok v w ∧ Rep V m g (packD rs) v := by
  obtain ⟨vs, h1, h2⟩ := resultsL_ok _ _ he ha hw
  have h3 : (fn.results.mapM (resSem A.tmps)).run P w = .ok vs.toArray w := by
    rw [Array.mapM_eq_mapM_toList]
    simp [h1]
  have h4 : (results fn A.tmps).run P w = .ok (if h : vs.toArray.size = 1 then vs.toArray[0] else .tuple vs.toArray) w := by
    show ((fn.results.mapM (resSem A.tmps)) >>= fun vs => pure (if h : vs.size = 1 then vs[0] else .tuple vs)).run P w = _
    rw [Sem.run_bind, h3]
    rfl
  refine ⟨_, h4, ?_⟩
  have hl := repL_len h2
  match rs, vs, h2, hl with
  | [], [], _, _ => simp [packD, Rep, RepL]
  | [r], [v], h2, _ => simpa [packD] using (repL_cons'.1 h2).1
  | r1 :: r2 :: rs, v1 :: v2 :: vs, h2, _ => simp only [packD, Rep]; exact ⟨_, by simp, h2⟩

theorem rt_row8 : ∀ (k i j : Nat), rtGet (List.replicate k row8) i j = ru
  | 0, _, _ => rfl
  | k + 1, 0, j => by
    rw [List.replicate_succ, rtGet_zero]
    unfold row8
    match j with
    | 0 => rfl
    | 1 => rfl
    | 2 => rfl
    | 3 => rfl
    | 4 => rfl
    | 5 => rfl
    | 6 => rfl
    | 7 => rfl
    | j + 8 => rfl
  | k + 1, i + 1, j => by rw [List.replicate_succ, rtGet_succ]; exact rt_row8 k i j
theorem start_ok [Rho] {N : Nat} {args : List RV} {xs : Array Value} (hx : RepL V m g args xs.toList) (hl : args.length ≤ N) : RepA V m g (startA N args) { tmps := xs ++ Array.replicate (N - xs.size) undef, defers := [] } := by
  have hxl := repL_len hx
  simp only [Array.length_toList] at hxl
  have h0 : RepA V m g { tmps := List.replicate (N / 8 + 1) row8, sz := N, dfs := [] } { tmps := Array.replicate N undef, defers := [] } := by
    refine ⟨⟨⟨fun l hl => ?_, by simp; omega⟩, by simp, fun i => ?_⟩, rfl, fun d hd => by cases hd⟩
    · rw [(List.mem_replicate.1 hl).2]; rfl
    · rw [rt_row8]
      have : (Array.replicate N undef).getD i undef = undef := by
        rw [Array.getD_eq_getD_getElem?, Array.getElem?_replicate]
        split <;> rfl
      rw [this]
      exact rep_ru
  have h1 := repA_setFrom (i := 0) h0 hx
  have h2 : (xs.toList.zipIdx 0).foldl (fun (t : Array Value) (y : Value × Nat) => t.setIfInBounds y.2 y.1) (Array.replicate N undef) = xs ++ Array.replicate (N - xs.size) undef := by
    have := fill_set xs.toList 0 0 (Array.replicate N undef) (by simp; omega)
    apply Array.toList_inj.1
    simp only [Nat.zero_add, Nat.add_zero] at this
    rw [this]
    simp
  have h3 : RepA V m g (startA N args) { tmps := (xs.toList.zipIdx 0).foldl (fun (t : Array Value) (y : Value × Nat) => t.setIfInBounds y.2 y.1) (Array.replicate N undef), defers := [] } := h1
  rw [h2] at h3
  exact h3

theorem leave_ok [Rho] {fn : Func} {rs : List ResultVar} {a : RA} {m1 g1 : Nat → Nat} {h1 : RH} {w1 : World} (hrs : rs = fn.results.toList) (he : leaveD P rs a h1 = some (r, h')) (e1 : Ext m g h w m1 g1 h1 w1) (ha : RepA (VX V h h1) m1 g1 a A) (hw : RepW P (VX V h h1) m1 g1 h1 w1) :
    LeavesInM Fence.wide n P fn A.tmps (fun e W' => ∃ v, e = .returned v ∧ Good P V m g h w r h' v W') A.defers .returning w1 := by
  subst hrs
  unfold leaveD at he
  split at he
  · rename_i h2 ht
    cases hr : resultsD P a h2 fn.results.toList with
    | none => rw [hr] at he; cases he
    | some rs =>
      rw [hr] at he
      simp only [Option.map_some, Option.some.injEq, Prod.mk.injEq] at he
      obtain ⟨rfl, rfl⟩ := he
      rw [ha.2.1]
      refine take_ok (A := A) (rs := rs) a.dfs h1 h2 m1 g1 (VX V h h1) w1 ht hw ha.2.2 ?_
      intro w' x1 x2 x3
      obtain ⟨v, y1, y2⟩ := results_ok (A := A) hr ha.1 x2
      refine ⟨v, y1, v, rfl, ?_⟩
      have hx := e1.trans x1
      refine ⟨m1, g1, hx, ?_, ?_⟩
      · rw [← vx_trans e1.n_le x1.n_le, vx_self x3]; exact y2
      · rw [← vx_trans e1.n_le x1.n_le, vx_self x3]; exact x2
  · cases he
theorem stepCall_ok [Rho] (hR : RecOk P R) {k : Nat} {args : List RV} {xs : Array Value} (he : stepCall P R k args h = some (r, h')) (hx : RepL V m g args xs.toList) (hw : RepW P V m g h w) :
    CallsIn Fence.wide n P k xs w (fun e W' => ∃ v, e = .returned v ∧ Good P V m g h w r h' v W') := by
  unfold stepCall at he
  split at he
  · rename_i fn hf
    split at he
    · rename_i c hb
      split at he
      · rename_i hl
        have hl := Nat.le_of_ble_eq_true hl
        refine callsIn_of_wp_marks hf hb trivial ?_ rfl
        unfold leaveE at he
        split at he
        · rename_i a1 h1 hc
          exact hR.code none c _ h _ a1 h1 hc V m g _ w n _ (start_ok hx hl) hw (fun l hl => by cases hl) (fun m1 g1 A1 W1 x1 x2 x3 => leave_ok rfl he x1 x2 x3)
        · rename_i a1 h1 hc
          exact hR.code none c _ h _ a1 h1 hc V m g _ w n _ (start_ok hx hl) hw (fun l hl => by cases hl) (fun m1 g1 A1 W1 x1 x2 x3 => leave_ok rfl he x1 x2 x3)
        · cases he
      · cases he
    · cases he
  · cases he

theorem range_ok [Rho] (hR : RecOk P R) {f : Operand} {ps : Array Tmp} {s b : Code} (he : rangeD P R (a.eval f) ps s b a h = some (e, a', h')) (ha : RepA V m g a A) (hw : RepW P V m g h w)
    (hq : ∀ m' g' A' W', Ext m g h w m' g' h' W' → RepA (VX V h h') m' g' a' A' → RepW P (VX V h h') m' g' h' W' → Q e A' W') : (Code.rangeFunc f ps s b).wpIn (fen none) n P Q A w := by
  unfold rangeD at he
  split at he
  · rename_i k first cap hfv
    split at he
    · rename_i hen
      split at he
      · rename_i r1 h2 hc
        refine wpIn_rangeFunc fun fn _ => ?_
        have hrf := repA_eval ha f
        rw [hfv] at hrf
        simp only [Rep] at hrf
        obtain ⟨a1, b1, f1, f2, f3⟩ := hrf
        have p1 := push_step (w' := w.alloc (.deferred (some []))) hw (.defd false) 0 (x := .deferred (some [])) rfl rfl rfl rfl (by show _ = _; simp only [if_true]; exact World.alloc_heap_new w _)
        obtain ⟨e1, w1⟩ := p1
        have ra1 := repA_mono (e1.agree hw.lt) ha
        have m1n : (fun k => if k = h.n then w.heap.size else m k) h.n = w.heap.size := by simp
        generalize (fun k => if k = h.n then w.heap.size else m k) = m1 at e1 w1 ra1 m1n
        generalize (fun k => if k = h.n then (0 : Nat) else g k) = g1 at e1 w1 ra1
        have hv1 : VX V h (h.push (.defd false)) h.n := .inr ⟨Nat.le_refl _, by rw [push_n]; omega⟩
        have p2 := push_step (w' := (w.alloc (.deferred (some []))).alloc (.loop { state := .ready, pending := none, fn := fn, tmps := A.tmps, params := ps, assign := s, body := b, defers := w.heap.size })) w1 (.loop .ready none a.tmps a.sz ps s b h.n) 0
          (x := .loop { state := .ready, pending := none, fn := fn, tmps := A.tmps, params := ps, assign := s, body := b, defers := w.heap.size }) rfl rfl rfl rfl (by
            have hag : ∀ k, VX V h (h.push (.defd false)) k → VX (VX V h (h.push (.defd false))) (h.push (.defd false)) ((h.push (.defd false)).push (.loop .ready none a.tmps a.sz ps s b h.n)) k ∧ (fun k => if k = (h.push (.defd false)).n then (w.alloc (.deferred (some []))).heap.size else m1 k) k = m1 k ∧ (fun k => if k = (h.push (.defd false)).n then (0 : Nat) else g1 k) k = g1 k := fun k hk => ⟨.inl hk, by have := w1.lt k hk; simp [show k ≠ (h.push (.defd false)).n by omega]⟩
            refine ⟨fn, A.tmps, ?_, repT_mono hag ra1.1, (hag _ hv1).1⟩
            have e0 : (fun k => if k = (h.push (.defd false)).n then (w.alloc (.deferred (some []))).heap.size else m1 k) h.n = w.heap.size := by rw [(hag _ hv1).2.1, m1n]
            rw [e0]
            simp only [if_true]
            exact World.alloc_heap_new _ _)
        obtain ⟨e2, w2⟩ := p2
        have m2l : (fun k => if k = (h.push (.defd false)).n then (w.alloc (.deferred (some []))).heap.size else m1 k) (h.n + 1) = w.heap.size + 1 := by simp [push_n]
        have m2n : (fun k => if k = (h.push (.defd false)).n then (w.alloc (.deferred (some []))).heap.size else m1 k) h.n = w.heap.size := by simp [push_n, m1n]
        generalize (fun k => if k = (h.push (.defd false)).n then (w.alloc (.deferred (some []))).heap.size else m1 k) = m2 at e2 w2 m2l m2n
        generalize (fun k => if k = (h.push (.defd false)).n then (0 : Nat) else g1 k) = g2 at e2 w2
        have hrun := run_enterLoop_outer (P := P) (w := w) fn A.tmps ps s b
        generalize hW2 : (w.alloc (.deferred (some []))).alloc (.loop { state := .ready, pending := none, fn := fn, tmps := A.tmps, params := ps, assign := s, body := b, defers := w.heap.size }) = W2 at e2 w2 hrun
        have hle1 : h.n ≤ (h.push (.defd false)).n := e1.n_le
        rw [vx_trans hle1 e2.n_le] at w2
        have e12 := e1.trans e2
        generalize hH : (h.push (.defd false)).push (.loop .ready none a.tmps a.sz ps s b h.n) = H at *
        have hHn : H.n = h.n + 1 + 1 := by rw [← hH]; rfl
        have hvl : VX V h H (h.n + 1) := .inr ⟨by omega, by omega⟩
        have hvd : VX V h H h.n := .inr ⟨Nat.le_refl _, by omega⟩
        have hmono := e12.agree hw.lt
        refine ⟨w.heap.size + 1, [{ target := .collected w.heap.size, args := #[] }], W2, { target := .fn (.func k) b1, args := a1 ++ #[.func (.yield (w.heap.size + 1)) #[] #[]] }, W2, k, a1 ++ #[.func (.yield (w.heap.size + 1)) #[] #[]] ++ b1, W2, hrun, ?_, fun _ _ => trivial, ?_, fun h => by simp [fen, Fence.wide] at h, ?_⟩
        · simp only [resolve, f1]
          simp [Deferred.ofValue, Act.eval]
        · simp only [invoke]
          exact enters_run hen _ _
        have hargs : RepL (VX V h H) m2 g2 (first ++ [.yld (Nat.succ h.n)] ++ cap) (a1 ++ #[Value.func (.yield (w.heap.size + 1)) #[] #[]] ++ b1).toList := by
          have q1 := repL_mono hmono _ _ f2
          have q2 := repL_mono hmono _ _ f3
          have q3 : Rep (VX V h H) m2 g2 (.yld (Nat.succ h.n)) (.func (.yield (w.heap.size + 1)) #[] #[]) := by
            simp only [Rep]
            exact ⟨hvl, by rw [show m2 (Nat.succ h.n) = w.heap.size + 1 from m2l]⟩
          have := repL_append (repL_append q1 (repL_one q3)) q2
          simpa using this
        generalize a1 ++ #[Value.func (.yield (w.heap.size + 1)) #[] #[]] ++ b1 = args at hargs ⊢
        have hcall := hR.call k _ H r1 h2 hc (VX V h H) m2 g2 args W2 (n - 1) hargs w2
        refine CallsIn.mono (show CallsIn (fen none) (n - 1) P k args W2 _ from hcall) ?_
        · rintro ee W3 ⟨v, rfl, m3, g3, x1, _, x3⟩
          have hl3 : h.n + 1 < H.n := by omega
          have m3l : m3 (h.n + 1) = w.heap.size + 1 := by rw [ext_live x1 hl3, m2l]
          have m3n : m3 h.n = w.heap.size := by rw [ext_live x1 (by omega), m2n]
          rw [vx_trans e12.n_le x1.n_le] at x3
          have ha3 : RepA (VX V h h2) m3 g3 { a with dfs := h.n :: a.dfs } { A with defers := [{ target := .collected w.heap.size, args := #[] }] ++ A.defers } := by
            have := repA_mono ((e12.trans x1).agree hw.lt) ha
            refine ⟨this.1, ?_, ?_⟩
            · show _ = _
              simp only [List.map_cons, m3n, List.singleton_append]
              rw [this.2.1]
            · intro d hd
              rcases List.mem_cons.1 hd with rfl | hd
              · exact .inr ⟨Nat.le_refl _, by have := x1.n_le; omega⟩
              · exact this.2.2 d hd
          unfold rangeEnd at he
          split at he
          · rename_i t z p s' b' d hat
            cases he
            obtain ⟨rec, q1, q2, q3, _, _, _, _, q8, q9⟩ := loop_put (st' := .exhausted) (pe' := none) x3 hat
            rw [show m3 (Nat.succ h.n) = w.heap.size + 1 from m3l] at q1 q8 q9
            have hend := run_endLoop (P := P) q1 (by rw [q2]; decide)
            rw [q3] at hend
            refine ⟨none, _, hend, ?_⟩
            have hx := (e12.trans x1).trans q8
            refine hq m3 g3 _ _ hx ?_ ?_
            · exact ha3
            · exact q9
          · rename_i c t z p s' b' d hat
            obtain ⟨rec, q1, q2, q3, _, _, _, _, q8, q9⟩ := loop_put (st' := .exhausted) (pe' := some c) x3 hat
            rw [show m3 (Nat.succ h.n) = w.heap.size + 1 from m3l] at q1 q8 q9
            have hend := run_endLoop (P := P) q1 (by rw [q2]; decide)
            rw [q3] at hend
            refine ⟨some c, _, hend, ?_⟩
            have hx := (e12.trans x1).trans q8
            refine hR.code none c _ _ e a' h' he (VX V h h2) m3 g3 _ _ n Q ha3 q9 (fun l hl => by cases hl) ?_
            intro m' g' A' W' y1 y2 y3
            have hvx : VX (VX V h h2) (h2.put (Nat.succ h.n) (some (.loop .exhausted (some c) t z p s' b' d))) h' = VX V h h' := vx_trans (h1 := h2.put (Nat.succ h.n) (some (.loop .exhausted (some c) t z p s' b' d))) (by have := (e12.trans x1).n_le; exact this) y1.n_le
            rw [hvx] at y2 y3
            exact hq m' g' A' W' (hx.trans y1) y2 y3
          · cases he
      · cases he
    · cases he
  · cases he

/-- one step of the reckoning -/
theorem stepCode_ok [Rho] (hm : P.follows .mixedOrders = true) (hR : AllOk P R) {c : Code} (he : stepCode P R ro c a h = some (e, a', h')) (ha : RepA V m g a A) (hw : RepW P V m g h w) (hro : ∀ l, ro = some l → V l)
    (hq : ∀ m' g' A' W', Ext m g h w m' g' h' W' → RepA (VX V h h') m' g' a' A' → RepW P (VX V h h') m' g' h' W' → Q e A' W') : c.wpIn (fen (ro.map m)) n P Q A w := by
  have hself : ∀ {a1 : RA}, RepA V m g a1 A → RepA (VX V h h) m g a1 A := fun h => by rw [vx_self rfl]; exact h
  have hselfw : RepW P (VX V h h) m g h w := by rw [vx_self rfl]; exact hw
  cases c with
  | skip =>
    simp only [stepCode, Option.some.injEq, Prod.mk.injEq] at he
    obtain ⟨rfl, rfl, rfl⟩ := he
    exact wpIn_skip (hq m g A w Ext.refl (hself ha) hselfw)
  | label l =>
    simp only [stepCode, Option.some.injEq, Prod.mk.injEq] at he
    obtain ⟨rfl, rfl, rfl⟩ := he
    exact wpIn_label (hq m g A w Ext.refl (hself ha) hselfw)
  | exit id =>
    simp only [stepCode, Option.some.injEq, Prod.mk.injEq] at he
    obtain ⟨rfl, rfl, rfl⟩ := he
    exact wpIn_exit (hq m g A w Ext.refl (hself ha) hselfw)
  | ret =>
    simp only [stepCode, Option.some.injEq, Prod.mk.injEq] at he
    obtain ⟨rfl, rfl, rfl⟩ := he
    exact wpIn_ret (hq m g A w Ext.refl (hself ha) hselfw)
  | region id ops draw =>
    cases draw with
    | false =>
      simp only [stepCode, codeRegion] at he
      cases hs : seqD P R ops.toList ops.toList a h with
      | none => rw [hs] at he; cases he
      | some s =>
        obtain ⟨a1, h1⟩ := s
        rw [hs] at he
        simp only [Option.map_some, Option.some.injEq, Prod.mk.injEq] at he
        obtain ⟨rfl, rfl, rfl⟩ := he
        refine wpIn_region ?_
        rw [List.range_eq_range', ← Array.length_toList]
        exact seqD_ok hR.toRecOk ops.toList 0 a a1 h h1 V m g A w (by simp) hs ha hw hq
    | true =>
      simp only [stepCode, codeRegion] at he
      cases hs : drawD P R ops.toList a h with
      | none => rw [hs] at he; cases he
      | some s =>
        obtain ⟨a1, h1⟩ := s
        rw [hs] at he
        simp only [Option.map_some, Option.some.injEq, Prod.mk.injEq] at he
        obtain ⟨rfl, rfl, rfl⟩ := he
        exact draw_ok hm hR.toRecOk hs ha hw hq
  | seq x y =>
    simp only [stepCode] at he
    refine wpIn_seq (seq_ok hR.toRecOk he ha hw hro (fun a1 h1 hy m1 g1 A1 W1 x1 x2 x3 => ?_) hq)
    rw [← round_map hro (fun k hk => ext_live x1 (hw.lt k hk))]
    refine hR.code ro y a1 h1 e a' h' hy _ m1 g1 A1 W1 n Q x2 x3 (fun l hl => .inl (hro l hl)) ?_
    intro m' g' A' W' y1 y2 y3
    rw [vx_trans x1.n_le y1.n_le] at y2 y3
    exact hq m' g' A' W' (x1.trans y1) y2 y3
  | cond x t f =>
    simp only [stepCode] at he
    have hc := repA_eval ha x
    unfold codeCond at he
    split at he
    · rename_i hx
      rw [hx] at hc
      simp only [Rep] at hc
      exact wpIn_cond_true hc (hR.code ro t a h e a' h' he V m g A w n Q ha hw hro hq)
    · rename_i hx
      rw [hx] at hc
      simp only [Rep] at hc
      exact wpIn_cond_false hc (hR.code ro f a h e a' h' he V m g A w n Q ha hw hro hq)
    · rename_i b hx
      rw [hx] at hc
      simp only [Rep] at hc
      split at he
      · rename_i hb
        rw [askD_ok hR.dec _ _ hb] at hc
        exact wpIn_cond_true hc (hR.code ro t a h e a' h' he V m g A w n Q ha hw hro hq)
      · rename_i hb
        rw [askD_ok hR.dec _ _ hb] at hc
        exact wpIn_cond_false hc (hR.code ro f a h e a' h' he V m g A w n Q ha hw hro hq)
      · cases he
    · cases he
  | block id x =>
    simp only [stepCode] at he
    unfold codeBlock at he
    split at he
    · rename_i e1 a1 h1 hx
      simp only [Option.some.injEq, Prod.mk.injEq] at he
      obtain ⟨rfl, rfl, rfl⟩ := he
      exact wpIn_block (hR.code ro x a h e1 a1 h1 hx V m g A w n _ ha hw hro (fun m' g' A' W' y1 y2 y3 => jumpD_ok (hq m' g' A' W' y1 y2 y3)))
    · cases he
  | loop x =>
    simp only [stepCode] at he
    refine loop_wp (seq_ok hR.toRecOk he ha hw hro (fun a1 h1 hy m1 g1 A1 W1 x1 x2 x3 => ?_) hq)
    rw [← round_map hro (fun k hk => ext_live x1 (hw.lt k hk))]
    refine hR.again ro x a1 h1 e a' h' hy _ m1 g1 A1 W1 n Q x2 x3 (fun l hl => .inl (hro l hl)) ?_
    intro m' g' A' W' y1 y2 y3
    rw [vx_trans x1.n_le y1.n_le] at y2 y3
    exact hq m' g' A' W' (x1.trans y1) y2 y3
  | rangeFunc f ps s b =>
    simp only [stepCode] at he
    cases ro with
    | none => exact range_ok hR.toRecOk he ha hw hq
    | some l => cases he
  | scope x => simp [stepCode] at he
  | goto l => simp [stepCode] at he
  | refuse s => simp [stepCode] at he
theorem again_ok [Rho] (hR : AllOk P R) {c : Code} (he : stepCode P R ro (.loop c) a h = some (e, a', h')) (ha : RepA V m g a A) (hw : RepW P V m g h w) (hro : ∀ l, ro = some l → V l)
    (hq : ∀ m' g' A' W', Ext m g h w m' g' h' W' → RepA (VX V h h') m' g' a' A' → RepW P (VX V h h') m' g' h' W' → Q e A' W') : InLoop (fen (ro.map m)) n P c Q A w := by
  simp only [stepCode] at he
  refine inLoop_wp (seq_ok hR.toRecOk he ha hw hro (fun a1 h1 hy m1 g1 A1 W1 x1 x2 x3 => ?_) hq)
  rw [← round_map hro (fun k hk => ext_live x1 (hw.lt k hk))]
  refine hR.again ro c a1 h1 e a' h' hy _ m1 g1 A1 W1 n Q x2 x3 (fun l hl => .inl (hro l hl)) ?_
  intro m' g' A' W' y1 y2 y3
  rw [vx_trans x1.n_le y1.n_le] at y2 y3
  exact hq m' g' A' W' (x1.trans y1) y2 y3
theorem step_all [Rho] (hm : P.follows .mixedOrders = true) (hR : AllOk P R) : AllOk P (stepR P R) where
  code := fun _ _ _ _ _ _ _ he _ _ _ _ _ _ _ ha hw hro hq => stepCode_ok hm hR he ha hw hro hq
  call := fun _ _ _ _ _ he _ _ _ _ _ _ hx hw => stepCall_ok hR.toRecOk he hx hw
  again := fun _ _ _ _ _ _ _ he _ _ _ _ _ _ _ ha hw hro hq => again_ok hR he ha hw hro hq
  dec := hR.dec
theorem evD_all [Rho] (hm : P.follows .mixedOrders = true) {D : SE → Option Bool} (hD : DOk D) : ∀ k, AllOk P (evD P D k)
  | 0 => AllOk.mk (RecOk.mk (fun _ _ _ _ _ _ _ he => by cases he) (fun _ _ _ _ _ he => by cases he) hD) (fun _ _ _ _ _ _ _ he => by cases he)
  | k + 1 => step_all hm (evD_all hm hD k)
theorem ev_all [Rho] (hm : P.follows .mixedOrders = true) (k : Nat) : AllOk P (ev P k) := evD_all hm noD_ok k
/-- nothing has a name -/
abbrev rho0 : Rho := ⟨⟨fun _ => 0, fun _ => false, fun _ _ => 0, 0, fun _ => (0, 0), fun _ => 0⟩⟩
theorem far0 (w : World) : @Far rho0 w := @Far.mk rho0 w (Nat.zero_le _) (fun _ h => absurd h (Nat.lt_irrefl 0)) (fun _ _ h => absurd h (Nat.not_lt_zero _))

mutual
theorem rep_of_plain [Rho] : ∀ (r : RV) (v : Value), r.plain = some v → Rep V m g r v
  | .pl v, x, h => by simp only [RV.plain, Option.some.injEq] at h; simp [Rep, h]
  | .agg l, x, h => by
    simp only [RV.plain] at h
    cases hl : RV.plainL l with
    | none => rw [hl] at h; cases h
    | some vs =>
      rw [hl] at h
      simp only [Option.some.injEq] at h
      simp only [Rep]
      exact ⟨vs.toArray, h.symm, by simpa using repL_of_plain l vs hl⟩
  | .tup l, x, h => by
    simp only [RV.plain] at h
    cases hl : RV.plainL l with
    | none => rw [hl] at h; cases h
    | some vs =>
      rw [hl] at h
      simp only [Option.some.injEq] at h
      simp only [Rep]
      exact ⟨vs.toArray, h.symm, by simpa using repL_of_plain l vs hl⟩
  | .unk, x, h => by simp [RV.plain] at h
  | .ptr _ _, x, h => by simp [RV.plain] at h
  | .slc _ _ _ _, x, h => by simp [RV.plain] at h
  | .fn k [] [], x, h => by
    simp only [RV.plain, Option.some.injEq] at h
    simp only [Rep]
    exact ⟨#[], #[], h.symm, by simp [RepL], by simp [RepL]⟩
  | .fn _ (_ :: _) _, x, h => by simp [RV.plain] at h
  | .fn _ [] (_ :: _), x, h => by simp [RV.plain] at h
  | .yld _, x, h => by simp [RV.plain] at h
  | .si _ _, x, h => by simp [RV.plain] at h
  | .sb _, x, h => by simp [RV.plain] at h
  | .fsl _ _ _ _, x, h => by simp [RV.plain] at h
  | .fpt _ _ _, x, h => by simp [RV.plain] at h
  | .osl _ _ _, x, h => by simp [RV.plain] at h
  | .opt _ _ _ _, x, h => by simp [RV.plain] at h
  | .mp _, x, h => by simp [RV.plain] at h
theorem repL_of_plain [Rho] : ∀ (l : List RV) (xs : List Value), RV.plainL l = some xs → RepL V m g l xs
  | [], xs, h => by simp only [RV.plainL, Option.some.injEq] at h; rw [← h]; simp [RepL]
  | r :: rs, xs, h => by
    simp only [RV.plainL] at h
    cases hp : RV.plain r with
    | none => rw [hp] at h; cases h
    | some v =>
      rw [hp] at h
      cases hq : RV.plainL rs with
      | none => rw [hq] at h; cases h
      | some vs =>
        rw [hq] at h
        simp only [Option.some.injEq] at h
        rw [← h]
        exact repL_cons'.2 ⟨rep_of_plain r v hp, repL_of_plain rs vs hq⟩
end

/-- nothing is known of the world -/
theorem world_none [Rho] (hf : Far w) : RepW P (fun _ => False) m g h0 w := by
  refine ⟨rfl, fun k o hk => ?_, fun k1 k2 o1 o2 e1 => ?_, fun k hk => hk.elim, hf, fun k hk => hk.elim⟩
  · have := at_some_lt hk
    have : k < 0 := this
    omega
  · have := at_some_lt e1
    have : k1 < 0 := this
    omega
/-- A CALL THAT IS RECKONED: whatever the world, it returns what was reckoned, and leaves what was there. -/
theorem closed (hm : P.follows .mixedOrders = true) {N k : Nat} {args : List RV} {xs : List Value} (hx : RV.plainL args = some xs) (he : ∃ h', (ev P N).call k args h0 = some (r, h') ) (w : World) :
    Calls P k xs.toArray w fun e w' => (∃ v, e = .returned v ∧ ∀ u, r.plain = some u → v = u) ∧ Below w.heap.size w w' := by
  obtain ⟨h', he⟩ := he
  letI := rho0
  have := (ev_all hm N).call k args h0 r h' he (fun _ => False) (fun _ => 0) (fun _ => 0) xs.toArray w 0 (by simpa using repL_of_plain args xs hx) (world_none (far0 w))
  refine (callsIn_wide.1 this).mono ?_
  rintro e w' ⟨v, rfl, m', g', e1, e2, _⟩
  refine ⟨⟨v, rfl, fun u hu => rep_plain _ _ _ hu e2⟩, ⟨e1.os, e1.tape, e1.output, e1.size, fun B hB => e1.frame B hB fun j hj => ?_⟩⟩
  have : j < 0 := hj.1
  omega
end
end Go.Proofs.Ytmglofemnobakaa
