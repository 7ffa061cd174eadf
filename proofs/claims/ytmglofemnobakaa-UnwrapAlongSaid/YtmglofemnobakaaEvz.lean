/- Calls reckoned: operations that call; rounds; operations one behind the other. -/
import Derived.Test.YtmglofemnobakaaEvy
namespace Go.Proofs.Ytmglofemnobakaa
open Go.RowKit

/-- the wide fence, in a round or in none -/
def fen (ro : Option Nat) : Fence := { Fence.wide with round := ro }

structure RecOk [Rho] (P : Program) (R : Rec) : Prop where
  code : ∀ ro c a h e a' h', R.code ro c a h = some (e, a', h') → ∀ (V : Nat → Prop) (m g : Nat → Nat) (A : Act) (W : World) (n : Nat) (Q : Exit → Act → World → Prop), RepA V m g a A → RepW P V m g h W → (∀ l, ro = some l → V l) →
    (∀ m' g' A' W', Ext m g h W m' g' h' W' → RepA (VX V h h') m' g' a' A' → RepW P (VX V h h') m' g' h' W' → Q e A' W') → c.wpIn (fen (ro.map m)) n P Q A W
  call : ∀ k args h r h', R.call k args h = some (r, h') → ∀ (V : Nat → Prop) (m g : Nat → Nat) (xs : Array Value) (W : World) (n : Nat), RepL V m g args xs.toList → RepW P V m g h W →
    CallsIn Fence.wide n P k xs W (fun e W' => ∃ v, e = .returned v ∧ Good P V m g h W r h' v W')
  dec : DOk R.dec

section
variable {P : Program} {V : Nat → Prop} {m g : Nat → Nat} {h h' : RH} {w w' : World} {ρ : Operand → RV} {o : Oper} {r : RV} {v : Value} {R : Rec}

theorem mem_markAll {base k : Nat} {ch : List Nat} : ∀ {l : List Nat}, k ∈ markAll base l ch ↔ k ∈ ch ∨ (k ∈ l ∧ k < base)
  | [] => by simp [markAll]
  | b :: bs => by
    simp only [markAll, mem_mark, mem_markAll (l := bs), List.mem_cons]
    constructor
    · rintro ((h | ⟨h1, h2⟩) | ⟨rfl, h⟩)
      · exact .inl h
      · exact .inr ⟨.inr h1, h2⟩
      · exact .inr ⟨.inl rfl, h⟩
    · rintro (h | ⟨rfl | h1, h2⟩)
      · exact .inl (.inl h)
      · exact .inr ⟨rfl, h2⟩
      · exact .inl (.inr ⟨h1, h2⟩)
theorem at_same {h1 h2 : RH} (hb : h1.bl = h2.bl) (hn : h1.n = h2.n) (k : Nat) : h1.at? k = h2.at? k := by unfold RH.at?; rw [hb, hn]
theorem repW_same [Rho] {h1 h2 : RH} (hb : h1.bl = h2.bl) (hn : h1.n = h2.n) (hw : RepW P V m g h1 w) : RepW P V m g h2 w :=
  ⟨by have := hw.sound; unfold RH.Sound at *; rw [← hb, ← hn]; exact this, fun k o hk => hw.live k o (by rw [at_same hb hn]; exact hk), fun k1 k2 o1 o2 e1 e2 => hw.inj k1 k2 o1 o2 (by rw [at_same hb hn]; exact e1) (by rw [at_same hb hn]; exact e2), fun k hk => by rw [← hn]; exact hw.lt k hk, hw.far, hw.low⟩
/-- a step that was reckoned by itself, in what goes on around it -/
theorem retag {m' g' : Nat → Nat} {h1 : RH} {w' : World} (he : Ext m g { bl := h.bl, n := h.n, base := h.n, ch := [] } w m' g' h1 w') (ch2 : List Nat) (c1 : ∀ k, k ∈ h.ch → k ∈ ch2) (c2 : ∀ k, k ∈ h1.ch → k < h.base → k ∈ ch2) (c3 : ∀ k, k ∈ ch2 → k ∈ h.ch ∨ k < h.base) :
    Ext m g h w m' g' { bl := h1.bl, n := h1.n, base := h.base, ch := ch2 } w' := by
  have e0 : ∀ k, h.at? k = ({ bl := h.bl, n := h.n, base := h.n, ch := [] } : RH).at? k := at_same rfl rfl
  have e1 : ∀ k, ({ bl := h1.bl, n := h1.n, base := h.base, ch := ch2 } : RH).at? k = h1.at? k := at_same rfl rfl
  have tt : ∀ j, Touch { bl := h.bl, n := h.n, base := h.n, ch := [] } h1 j → Touch h { bl := h1.bl, n := h1.n, base := h.base, ch := ch2 } j := fun j ⟨t1, t2, t3⟩ => by
    refine ⟨t1, ?_, by rw [e0]; exact t3⟩
    rcases t2 with t2 | t2
    · by_cases hb : j < h.base
      · exact .inl (c2 j t2 hb)
      · exact .inr (by omega)
    · exact absurd t2 (by simp only at t1 ⊢; omega)
  refine ⟨he.n_le, rfl, c1, c3, he.old, fun k a b => ?_, fun k hk e => by rw [e1]; exact he.dead k hk (by rw [← e0]; exact e), fun k hk hb hc => ?_, he.size, he.os, he.tape, he.output, fun B hB hf => he.frame B hB fun j hj => hf j (tt j hj)⟩
  · rcases he.new k a b with ⟨j, hj, e⟩ | e
    · exact .inl ⟨j, tt j hj, e⟩
    · exact .inr e
  · rw [e1, e0]
    exact he.rel k hk hk (fun hm => hc (c2 k hm hb))

theorem tidy_ok [Rho] {h1 : RH} {r' : RV} (ht : tidy h r h1 = some (r', h')) (hw : RepW P V m g h w) (hg : Good P V m g { bl := h.bl, n := h.n, base := h.n, ch := [] } w r h1 v w') : Good P V m g h w r' h' v w' := by
  obtain ⟨m', g', e1, e2, e3⟩ := hg
  have vx : ∀ b c, VX V { bl := h.bl, n := h.n, base := h.n, ch := [] } h1 = VX V h { bl := h1.bl, n := h1.n, base := b, ch := c } := fun _ _ => rfl
  unfold tidy at ht
  split at ht
  · rename_i hch
    have quiet : ∀ B, B < w.heap.size → w'.heap[B]? = w.heap[B]? := fun B hB => e1.frame B hB fun j ⟨t1, t2, _⟩ => by
      rw [hch] at t2
      rcases t2 with t2 | t2
      · cases t2
      · exact absurd t2 (by simp only at t1 ⊢; omega)
    split at ht
    · rename_i hf
      cases ht
      exact ⟨m, g, Ext.still e1.size e1.os e1.tape e1.output quiet, by rw [vx_self rfl]; exact rep_flat2 hf e2, by rw [vx_self rfl]; exact hw.still quiet⟩
    · cases ht
      refine ⟨m', g', retag e1 _ (fun _ hk => hk) (fun k hk => by rw [hch] at hk; cases hk) (fun _ hk => .inl hk), ?_, ?_⟩
      · rw [← vx]; exact e2
      · rw [← vx]; exact repW_same (h1 := h1) rfl rfl e3
  · cases ht
    refine ⟨m', g', retag e1 _ (fun _ hk => mem_markAll.2 (.inl hk)) (fun k hk hb => mem_markAll.2 (.inr ⟨hk, hb⟩)) (fun k hk => (mem_markAll.1 hk).imp id And.right), ?_, ?_⟩
    · rw [← vx]; exact e2
    · rw [← vx]; exact repW_same (h1 := h1) rfl rfl e3
theorem repW_tag [Rho] (hw : RepW P V m g h w) : RepW P V m g { bl := h.bl, n := h.n, base := h.n, ch := [] } w := repW_same (h1 := h) rfl rfl hw
theorem callD_ok [Rho] (hR : RecOk P R) {k : Nat} {args : List RV} {xs : Array Value} (he : callD R k args h = some (r, h')) (hw : RepW P V m g h w) (hx : RepL V m g args xs.toList) (n : Nat) :
    CallsIn Fence.wide n P k xs w (fun e W' => ∃ v, e = .returned v ∧ Good P V m g h w r h' v W') := by
  unfold callD at he
  split at he
  · rename_i r1 h1 hc
    rw [forceH_eq] at he
    refine (hR.call k args _ r1 h1 hc V m g xs w n hx (repW_tag hw)).mono ?_
    rintro e W' ⟨v, rfl, hg⟩
    exact ⟨v, rfl, tidy_ok he hw (by
      have : r = r1 := by
        unfold tidy at he
        split at he
        · split at he <;> (cases he; rfl)
        · cases he; rfl
      exact hg)⟩
  · cases he

theorem enters_run {k : Nat} (hk : enters P k = some true) : ∀ args w, (callFunc k args).run P w = .ok (.enter k args) w := by
  intro args w
  unfold enters at hk
  split at hk
  · rename_i fn hf
    split at hk
    · cases hk
    · rename_i hnm
      simp only [Option.some.injEq] at hk
      have hnm : ¬ fn.name = "runtime.NumGoroutine" := by simpa using hnm
      have hb : ¬ fn.body = none := by cases hq : fn.body <;> simp [hq] at hk ⊢
      simp [callFunc, hf, hnm, hb]
  · cases hk

theorem good_trans [Rho] {m1 g1 : Nat → Nat} {h1 : RH} {w1 : World} (he : Ext m g h w m1 g1 h1 w1) (hg : Good P (VX V h h1) m1 g1 h1 w1 r h' v w') : Good P V m g h w r h' v w' := by
  obtain ⟨m', g', e1, e2, e3⟩ := hg
  rw [vx_trans he.n_le e1.n_le] at e2 e3
  exact ⟨m', g', he.trans e1, e2, e3⟩

variable {ro : Option Nat} {n : Nat} {A : Act} {K : Act → World → Prop} {Q : Exit → Act → World → Prop}
theorem op_wp (hd : ∀ c, o.op ≠ .defer c) (hg : Gives P (execOp A.eval o) w v w') (hk : K (A.put o.dst v) w') : o.wpIn (fen ro) n P A w K Q := by
  refine ⟨fun _ _ => trivial, ?_⟩
  rw [Oper.semAt_eq _ _ _ hd]
  rcases hg with h | ⟨h, rfl⟩
  · rw [h]; exact hk
  · rw [h]; exact hk
theorem op_call (hd : ∀ c, o.op ≠ .defer c) {k : Nat} {xs : Array Value} (hg : (execOp A.eval o).run P w = .ok (.enter k xs) w) (hc : ∀ n, CallsIn Fence.wide n P k xs w (fun e W' => ∃ v, e = .returned v ∧ K (A.put o.dst v) W')) : o.wpIn (fen ro) n P A w K Q := by
  refine ⟨fun _ _ => trivial, ?_⟩
  rw [Oper.semAt_eq _ _ _ hd, hg]
  refine ⟨fun h => by simp [fen, Fence.wide] at h, ?_⟩
  refine CallsIn.mono (show CallsIn (fen ro) (n - 1) P k xs w _ from hc (n - 1)) ?_
  rintro e W' ⟨v, rfl, hk⟩
  exact hk

theorem setParams_ok [Rho] : ∀ (ps : List Tmp) (args : List RV) (xs : List Value) (a : RA) (A : Act), RepA V m g a A → RepL V m g args xs → args.length = ps.length →
    RepA V m g (setParams ps args a) { A with tmps := (ps.zip xs).foldl (fun t (p, u) => t.setIfInBounds p u) A.tmps }
  | [], args, xs, a, A, hA, hx, hl => by
    have : args = [] := List.length_eq_zero_iff.1 (by simpa using hl)
    subst this
    rw [repL_nil.1 hx]
    exact hA
  | p :: ps, [], xs, a, A, hA, hx, hl => by simp at hl
  | p :: ps, r :: rs, xs, a, A, hA, hx, hl => by
    obtain ⟨v, vs, rfl, h1, h2⟩ := repL_cons.1 hx
    exact setParams_ok ps rs vs _ _ (repA_set (d := p) hA h1) h2 (by simpa using hl)

theorem putObj_other {w : World} {r B : Nat} {o : Obj} (hB : B ≠ r) : (w.putObj r o).heap[B]? = w.heap[B]? := World.putObj_heap_other hB
/-- the record of a loop is written -/
theorem loop_put [Rho] {b : Nat} {st st' : LoopState} {pe pe' : Option Code} {t : RT} {sz : Nat} {ps : Array Tmp} {s bd : Code} {d : Nat} (hw : RepW P V m g h w) (hb : h.at? b = some (.loop st pe t sz ps s bd d)) :
    ∃ rec : Loop, w.heap[m b]? = some (.loop rec) ∧ rec.state = st ∧ rec.pending = pe ∧ rec.params = ps ∧ rec.assign = s ∧ rec.body = bd ∧ RepT V m g t sz rec.tmps ∧
      Ext m g h w m g (h.put b (some (.loop st' pe' t sz ps s bd d))) (w.putObj (m b) (.loop { rec with state := st', pending := pe' })) ∧
      RepW P V m g (h.put b (some (.loop st' pe' t sz ps s bd d))) (w.putObj (m b) (.loop { rec with state := st', pending := pe' })) := by
  obtain ⟨hv, fn, tm, h1, h2, h3⟩ := hw.live b _ hb
  refine ⟨_, h1, rfl, rfl, rfl, rfl, rfl, h2, ?_⟩
  refine put_step hw hb _ (fun B hB => World.putObj_heap_other hB) (by simp) rfl rfl rfl ?_
  exact ⟨fn, tm, World.putObj_heap_same (Array.getElem?_eq_some_iff.1 h1).1, h2, h3⟩

theorem ext_live {m' g' : Nat → Nat} {h1 : RH} {w1 : World} (he : Ext m g h w m' g' h1 w1) {k : Nat} (hk : k < h.n) : m' k = m k := (he.old k hk).1

theorem roundEnd_ok [Rho] {b : Nat} {e : Exit} {A1 : Act} (he : roundEnd b e h = some (r, h')) (hw : RepW P V m g h w) {Rr : Ending → World → Prop} (hk : ∀ v W', Good P V m g h w r h' v W' → Rr (.returned v) W') : roundPost P (m b) Rr e A1 w := by
  unfold roundEnd at he
  split at he
  · rename_i st pe t sz ps s bd d hb
    have go : ∀ (jump : Option Code) (st' : LoopState) (bv : Bool), bv = jump.isNone → st' = (if jump.isNone then .ready else .done) → r = .pl (.bool bv) → h' = h.put b (some (.loop st' jump t sz ps s bd d)) → ∃ v w', (Instr.endRound (m b) jump).run P w = .ok v w' ∧ Rr (.returned v) w' := by
      intro jump st' bv e1 e2 e3 e4
      obtain ⟨rec, q1, q2, q3, q4, q5, q6, q7, q8, q9⟩ := loop_put (st' := st') (pe' := jump) hw hb
      refine ⟨.bool jump.isNone, _, run_endRound jump q1, hk _ _ ⟨m, g, ?_, ?_, ?_⟩⟩
      · rw [e4, ← e2]; exact q8
      · rw [e3, e1]; simp [Rep]
      · rw [e4, vx_self (put_n ..), ← e2]; exact q9
    split at he
    · cases he; exact go none .ready true rfl rfl rfl rfl
    · cases he; exact go (some .ret) .done false rfl rfl rfl rfl
    · rename_i id; cases he; exact go (some (.exit id)) .done false rfl rfl rfl rfl
    · cases he
  · cases he
theorem roundD_ok [Rho] (hR : RecOk P R) (hd : ∀ c, o.op ≠ .defer c) {b : Nat} {args : List RV} {xs : Array Value} (he : roundD R b args h = some (r, h')) (hw : RepW P V m g h w) (hx : RepL V m g args xs.toList) (hvb : V b)
    (hg : (execOp A.eval o).run P w = (Instr.yield (m b) xs).run P w) (hk : ∀ v W', Good P V m g h w r h' v W' → K (A.put o.dst v) W') : o.wpIn (fen ro) n P A w K Q := by
  have hbn := hw.lt b hvb
  refine ⟨fun _ _ => trivial, ?_⟩
  rw [Oper.semAt_eq _ _ _ hd, hg]
  unfold roundD at he
  split at he
  · rename_i pe t sz ps s bd d hb
    obtain ⟨rec, q1, q2, q3, q4, q5, q6, q7, _, _⟩ := loop_put (st' := .busy) (pe' := pe) hw hb
    split at he
    · rename_i hl
      have hl := Nat.eq_of_beq_eq_true hl
      have hxl := repL_len hx
      simp only [Array.length_toList] at hxl
      rw [run_yield (P := P) (args := xs) q1 (by rw [q4]; omega)]
      refine ⟨fun h => by simp [fen, Fence.wide] at h, ?_⟩
      split at he
      · rename_i a1 h1 hcode
        refine roundIn_of_wpIn trivial ?_
        rw [q5, q6]
        have hA0 : RepA V m g { tmps := t, sz := sz, dfs := [] } { tmps := rec.tmps, defers := [] } := ⟨q7, rfl, fun d hd => by cases hd⟩
        have hA1 := setParams_ok ps.toList args xs.toList _ _ hA0 hx (by simpa using hl)
        have hz : (rec.params.zip xs).foldl (fun tmps (t, a) => tmps.setIfInBounds t a) rec.tmps = (ps.toList.zip xs.toList).foldl (fun t (p, u) => t.setIfInBounds p u) rec.tmps := by
          rw [q4, ← Array.foldl_toList]
          simp
        rw [hz]
        refine hR.code (some b) s _ h _ a1 h1 hcode V m g _ w (n - 1) _ hA1 hw (fun l hl => by cases hl; exact hvb) ?_
        intro m1 g1 A1 W1 e1 ra1 rw1
        unfold roundBody at he
        split at he
        · rename_i pe1 t1 sz1 ps1 s1 bd1 d1 hb1
          have hm1 : m1 b = m b := ext_live e1 hbn
          split at he
          · rename_i e2 a2 h2 hcode2
            obtain ⟨rec1, p1, p2, p3, p4, p5, p6, p7, p8, p9⟩ := loop_put (st' := .busy) (pe' := pe1) rw1 hb1
            have hrec : ({ rec1 with state := .busy, pending := pe1 } : Loop) = { rec1 with state := .busy } := by rw [← p3]
            rw [hrec] at p8 p9
            refine ⟨W1.putObj (m b) (.loop { rec1 with state := .busy }), ?_, ?_⟩
            · rw [← hm1]
              exact run_beginRound (P := P) (w := W1) (l := m1 b) p1 p2
            · refine (show bd.wpIn (fen (some (m b))) (n - 1) P _ A1 _ from ?_)
              rw [← hm1]
              have hbn1 : b < h1.n := at_some_lt hb1
              refine hR.code (some b) bd a1 _ e2 a2 h2 hcode2 _ m1 g1 A1 _ (n - 1) _ ra1 p9 (fun l hl => by cases hl; exact .inl hvb) ?_
              intro m2 g2 A2 W2 x1 x2 x3
              have hm2 : m2 b = m1 b := ext_live x1 hbn1
              rw [← hm2]
              refine roundEnd_ok he x3 fun v W' hgood => ?_
              refine hk v W' (good_trans e1 (good_trans p8 ?_))
              rw [vx_self (put_n ..)]
              exact good_trans x1 hgood
          · cases he
        · cases he
      · cases he
    · cases he
  · cases he

theorem map_two {α β : Type} {f : α → β} {l : List α} {x y : β} (h : l.map f = [x, y]) : ∃ a b, l = [a, b] ∧ f a = x ∧ f b = y := by
  match l, h with
  | [a, b], h => simp at h; exact ⟨a, b, rfl, h.1, h.2⟩
theorem map_one {α β : Type} {f : α → β} {l : List α} {x : β} (h : l.map f = [x]) : ∃ a, l = [a] ∧ f a = x := by
  match l, h with
  | [a], h => simp at h; exact ⟨a, rfl, h⟩
theorem exec_builtin {ρ' : Operand → Value} {c : Call} {b : Builtin} (ho : o.op = .call c) (hc : c.callee = .builtin b) : execOp ρ' o = builtin b c.argTypes o.type (c.args.map fun | .const _ => true | _ => false) (c.args.map ρ') := by
  simp only [execOp, ho, resolve, hc]
  rfl
theorem mm_ok [Rho] {D : SE → Option Bool} (hD : DOk D) {mx : Bool} {x y : RV} {x' y' : Value} (he : evMM D mx x y h = some (r, h')) (hw : RepW P V m g h w) (hx : Rep V m g x x') (hy : Rep V m g y y') :
    ∃ v, ((match mx with | true => Builtin.max2 x' y' | false => Builtin.min2 x' y').run P w = .ok v w) ∧ Good P V m g h w r h' v w := by
  unfold evMM at he
  split at he
  · rename_i k a ha
    split at he
    · rename_i k' b hb
      split at he
      · rename_i hk
        have hk := of_decide_eq_true hk
        subst hk
        have ex := sI_rep ha hx
        have ey := sI_rep hb hy
        split at he
        · rename_i hq
          cases he
          have hq := askD_ok hD _ _ hq
          rw [mkNot_ev] at hq
          refine ⟨y', ?_, good_same hw hy⟩
          subst ex ey
          cases mx
          · simp only [mkLe_ev, Bool.not_eq_true', decide_eq_false_iff_not] at hq
            have : b.ev.i < a.ev.i := by omega
            simp [Builtin.min2, this]
          · simp only [mkLe_ev, Bool.not_eq_true', decide_eq_false_iff_not] at hq
            have : a.ev.i < b.ev.i := by omega
            simp [Builtin.max2, this]
        · rename_i hq
          cases he
          have hq := askD_ok hD _ _ hq
          rw [mkNot_ev] at hq
          refine ⟨x', ?_, good_same hw hx⟩
          subst ex ey
          cases mx
          · simp only [mkLe_ev, Bool.not_eq_false', decide_eq_true_eq] at hq
            have : ¬ b.ev.i < a.ev.i := by omega
            simp [Builtin.min2, this]
          · simp only [mkLe_ev, Bool.not_eq_false', decide_eq_true_eq] at hq
            have : ¬ a.ev.i < b.ev.i := by omega
            simp [Builtin.max2, this]
        · cases he
      · cases he
    · cases he
  · cases he
theorem builtin_ok [Rho] {D : SE → Option Bool} (hD : DOk D) {ρ' : Operand → Value} {c : Call} {b : Builtin} (ho : o.op = .call c) (hc : c.callee = .builtin b) (he : builtinD P D o ρ b (c.args.toList.map ρ) c.argTypes.toList h = some (r, h')) (hw : RepW P V m g h w) (hρ : ∀ x ∈ o.op.operands, Rep V m g (ρ x) (ρ' x)) :
    ∃ v w', Gives P (execOp ρ' o) w v w' ∧ Good P V m g h w r h' v w' := by
  have hmem : ∀ x ∈ c.args.toList, Rep V m g (ρ x) (ρ' x) := fun x hx => hρ x (by rw [ho]; simp [Op.operands, Call.operands]; exact .inr (by simpa using hx))
  have hpl : ∀ {r h'}, plainOp P o ρ h = some (r, h') → ∃ v w', Gives P (execOp ρ' o) w v w' ∧ Good P V m g h w r h' v w' := fun he => plain_ok (by rw [ho]; intro _ _ e; cases e) he hw hρ
  have hmm : ∀ (mx : Bool) (x y : RV), b = (match mx with | true => .max | false => .min) → c.args.toList.map ρ = [x, y] → evMM D mx x y h = some (r, h') → ∃ v w', Gives P (execOp ρ' o) w v w' ∧ Good P V m g h w r h' v w' := fun mx x y hb e1 he => by
    obtain ⟨a1, a2, q1, q2, q3⟩ := map_two e1
    have h1 := hmem a1 (by rw [q1]; simp)
    have h2 := hmem a2 (by rw [q1]; simp)
    rw [q2] at h1
    rw [q3] at h2
    obtain ⟨v, r1, r2⟩ := mm_ok hD he hw h1 h2
    refine ⟨v, w, .inl ?_, r2⟩
    have e3 : c.args.map ρ' = #[ρ' a1, ρ' a2] := by apply Array.toList_inj.1; simp [q1]
    rw [exec_builtin ho hc, e3, hb]
    cases mx
    · simp only [builtin, Builtin.min_, List.foldlM, Sem.run_bind, r1, Result.andThen_ok, Sem.run_pure]
    · simp only [builtin, Builtin.max_, List.foldlM, Sem.run_bind, r1, Result.andThen_ok, Sem.run_pure]
  unfold builtinD at he
  split at he
  · split at he
    · rename_i e1
      exact hmm false _ _ rfl e1 he
    · rename_i e1
      exact hmm false _ _ rfl e1 he
    · exact hpl he
  · split at he
    · rename_i e1
      exact hmm true _ _ rfl e1 he
    · rename_i e1
      exact hmm true _ _ rfl e1 he
    · exact hpl he
  · split at he
    · rename_i s x t u e1 e2
      obtain ⟨a1, a2, q1, q2, q3⟩ := map_two e1
      have h1 := hmem a1 (by rw [q1]; simp)
      have h2 := hmem a2 (by rw [q1]; simp)
      rw [q2] at h1
      rw [q3] at h2
      obtain ⟨v, w', r1, r2⟩ := append_ok hD (ty := o.type) he hw h1 h2
      refine ⟨v, w', .inl ?_, r2⟩
      have e3 : c.args.map ρ' = #[ρ' a1, ρ' a2] := by apply Array.toList_inj.1; simp [q1]
      have e4 : c.argTypes = #[t, u] := by apply Array.toList_inj.1; simp [e2]
      rw [exec_builtin ho hc, e3, e4]
      simp only [builtin, Sem.run_bind, r1, Result.andThen_ok]
      rfl
    · cases he
  · split at he
    · rename_i b off len k t e1 e2
      obtain ⟨a1, q1, q2⟩ := map_one e1
      have h1 := hmem a1 (by rw [q1]; simp)
      rw [q2] at h1
      unfold builtinLen at he
      split at he
      · rename_i elem hel
        have hu := elemD_under hel
        cases he
        have hx2 : ∃ k, ρ' a1 = .slice (some ⟨m b, off, none⟩) len k := by
          cases k <;> simp only [Rep] at h1
          · exact ⟨_, h1.2.2⟩
          · exact ⟨_, h1.2⟩
        obtain ⟨k', hx2⟩ := hx2
        refine ⟨.int .i64 (.ofNat len), w, .inl ?_, good_same hw (by simp only [Rep])⟩
        have e3 : c.args.map ρ' = #[ρ' a1] := by apply Array.toList_inj.1; simp [q1]
        have e4 : c.argTypes = #[t] := by apply Array.toList_inj.1; simp [e2]
        rw [exec_builtin ho hc, e3, e4, hx2]
        simp [builtin, Builtin.len_, run_underlying hu, goInt]
      · cases he
    · rename_i id sz off len t e1 e2
      obtain ⟨a1, q1, q2⟩ := map_one e1
      have h1 := hmem a1 (by rw [q1]; simp)
      rw [q2] at h1
      unfold builtinF at he
      split at he
      · rename_i elem hel
        have hu := elemD_under hel
        cases he
        simp only [Rep] at h1
        obtain ⟨A, c0, L, O, hx2, _, h2, _⟩ := h1
        refine ⟨.int .i64 len.ev.i, w, .inl ?_, good_same hw mkSI_rep⟩
        have e3 : c.args.map ρ' = #[ρ' a1] := by apply Array.toList_inj.1; simp [q1]
        have e4 : c.argTypes = #[t] := by apply Array.toList_inj.1; simp [e2]
        rw [exec_builtin ho hc, e3, e4, hx2, h2]
        simp [builtin, Builtin.len_, run_underlying hu, goInt]
      · cases he
    · rename_i b sz len t e1 e2
      obtain ⟨a1, q1, q2⟩ := map_one e1
      have h1 := hmem a1 (by rw [q1]; simp)
      rw [q2] at h1
      unfold builtinF at he
      split at he
      · rename_i elem hel
        have hu := elemD_under hel
        cases he
        simp only [Rep] at h1
        obtain ⟨_, L, h2, _, hx2⟩ := h1
        refine ⟨.int .i64 len.ev.i, w, .inl ?_, good_same hw mkSI_rep⟩
        have e3 : c.args.map ρ' = #[ρ' a1] := by apply Array.toList_inj.1; simp [q1]
        have e4 : c.argTypes = #[t] := by apply Array.toList_inj.1; simp [e2]
        rw [exec_builtin ho hc, e3, e4, hx2, h2]
        simp [builtin, Builtin.len_, run_underlying hu, goInt]
      · cases he
    · exact hpl he
  · split at he
    · rename_i b off len k x t ts e1 e2
      obtain ⟨a1, a2, q1, q2, q3⟩ := map_two e1
      have h1 := hmem a1 (by rw [q1]; simp)
      have h2 := hmem a2 (by rw [q1]; simp)
      rw [q2] at h1
      rw [q3] at h2
      obtain ⟨v, w', r1, r2⟩ := copy_ok (ts := ts) (ty := o.type) he hw h1 h2
      refine ⟨v, w', .inl ?_, r2⟩
      have e3 : c.args.map ρ' = #[ρ' a1, ρ' a2] := by apply Array.toList_inj.1; simp [q1]
      have e4 : c.argTypes = (t :: ts).toArray := by apply Array.toList_inj.1; simp [e2]
      rw [exec_builtin ho hc, e3, e4]
      simp only [builtin, Sem.run_bind, r1, Result.andThen_ok]
      rfl
    · cases he
  · exact hpl he
theorem exec_value {ρ' : Operand → Value} {c : Call} {f : Operand} {fn : Fn} {first cap : Array Value} (ho : o.op = .call c) (hc : c.callee = .value f) (hf : ρ' f = .func fn first cap) : execOp ρ' o = invoke (.fn fn cap) (first ++ c.args.map ρ') := by
  simp only [execOp, ho, resolve, hc, hf]
  rfl
theorem call_ok [Rho] (hR : RecOk P R) {c : Call} (ho : o.op = .call c) (he : evCall P R o ρ c h = some (r, h')) (hw : RepW P V m g h w) (hρ : ∀ x ∈ o.op.operands, Rep V m g (ρ x) (A.eval x)) (hk : ∀ v W', Good P V m g h w r h' v W' → K (A.put o.dst v) W') :
    o.wpIn (fen ro) n P A w K Q := by
  have hd : ∀ c, o.op ≠ .defer c := by rw [ho]; intro _ e; cases e
  have hfin : (∃ v w', Gives P (execOp A.eval o) w v w' ∧ Good P V m g h w r h' v w') → o.wpIn (fen ro) n P A w K Q := fun ⟨v, w', h1, h2⟩ => op_wp hd h1 (hk v w' h2)
  have hargs : RepL V m g (c.args.toList.map ρ) (c.args.map A.eval).toList := by
    have := repL_map (ρ' := A.eval) c.args.toList (fun x hx => hρ x (by rw [ho]; simp [Op.operands, Call.operands]; exact .inr (by simpa using hx)))
    simpa using this
  unfold evCall at he
  split at he
  · rename_i b hc
    exact hfin (builtin_ok hR.dec ho hc he hw hρ)
  · rename_i f hc
    have hrf := hρ f (by rw [ho]; simp [Op.operands, Call.operands, hc])
    unfold evFun at he
    split at he
    · rename_i k
      split at he
      · rename_i hen
        refine op_call hd (k := k) (xs := #[] ++ c.args.map A.eval ++ #[]) ?_ fun n => (callD_ok hR he hw (xs := #[] ++ c.args.map A.eval ++ #[]) (by simpa using hargs) n).mono ?_
        · rw [exec_value ho hc (fn := .func k) (first := #[]) (cap := #[]) rfl]
          simp only [invoke]
          exact enters_run hen _ _
        · rintro e W' ⟨v, rfl, hg⟩
          exact ⟨v, rfl, hk v W' hg⟩
      · exact hfin (plain_ok (by rw [ho]; intro _ _ e; cases e) he hw hρ)
      · cases he
    · unfold evCallV at he
      split at he
      · rename_i k first cap hfv
        split at he
        · rename_i hen
          rw [hfv] at hrf
          simp only [Rep] at hrf
          obtain ⟨a', b', e1, e2, e3⟩ := hrf
          refine op_call hd (k := k) (xs := a' ++ c.args.map A.eval ++ b') ?_ fun n => (callD_ok hR he hw (xs := a' ++ c.args.map A.eval ++ b') (by simpa using repL_append (repL_append e2 hargs) e3) n).mono ?_
          · rw [exec_value ho hc e1]
            simp only [invoke]
            exact enters_run hen _ _
          · rintro e W' ⟨v, rfl, hg⟩
            exact ⟨v, rfl, hk v W' hg⟩
        · cases he
      · rename_i b hfv
        rw [hfv] at hrf
        simp only [Rep] at hrf
        refine roundD_ok hR hd (xs := #[] ++ c.args.map A.eval) he hw (by simpa using hargs) hrf.1 ?_ hk
        rw [exec_value ho hc hrf.2]
        simp only [invoke]
      · cases he
  · cases he
theorem makeMap_ok [Rho] {t : TypeId} {rs : Option Operand} {ρ' : Operand → Value} (he : evMakeMap rs h = some (r, h')) (hw : RepW P V m g h w) :
    ∃ v w', Gives P (do pure (.value (← Instr.makeMap t (rs.map ρ')))) w v w' ∧ Good P V m g h w r h' v w' := by
  unfold evMakeMap at he
  split at he
  · cases he
    have p1 := push_step (w' := w.alloc (.map #[] 0)) hw (.mpo [] 0) 0 (x := .map #[] 0) rfl rfl rfl rfl (by
      show (w.alloc (.map #[] 0)).heap[(fun k => if k = h.n then w.heap.size else m k) h.n]? = some (.map #[] 0)
      simp only [if_true]
      exact heap_alloc_new w _)
    refine ⟨_, _, .inl (by simp [Instr.makeMap]; rfl), _, _, p1.1, ?_, p1.2⟩
    simp only [Rep, if_true]
    exact ⟨.inr ⟨Nat.le_refl _, by rw [push_n]; omega⟩, trivial⟩
  · cases he
theorem lookup_ok [Rho] {t : TypeId} {x i : RV} {x' i' : Value} {ok : Bool} (he : evLookup P t x i ok h = some (r, h')) (hw : RepW P V m g h w) (hx : Rep V m g x x') (hi : Rep V m g i i') :
    ∃ v w', Gives P (do pure (.value (← Instr.lookup t x' i' ok))) w v w' ∧ Good P V m g h w r h' v w' := by
  unfold evLookup at he
  split at he
  · rename_i b
    split at he
    · rename_i es cl hat
      split at he
      · rename_i k hk
        obtain rfl := rep_plain _ _ _ hk hi
        simp only [Rep] at hx
        obtain ⟨hvb, rfl⟩ := hx
        have hheap : w.heap[m b]? = some (.map es.toArray cl) := (hw.live b _ hat).2
        split at he
        · rename_i v f hg
          unfold mapGet at hg
          split at hg
          · rename_i key elem hu
            split at hg
            · rename_i u hck
              have hck := pureOf_run P w _ _ hck
              have main : (Instr.lookup t (.map (some (m b))) i' ok).run P w = .ok (if ok then .tuple #[v, .bool f] else v) w := by
                simp only [Instr.lookup, Sem.run_bind, run_underlying hu, Result.andThen_ok, Go.getObj, Sem.run, hheap]
                split at hg
                · rename_i p hf
                  cases hg
                  have hf := pureOf_run P w _ _ hf
                  simp [hck, hf]
                · rename_i hf
                  have hf := pureOf_run P w _ _ hf
                  split at hg
                  · rename_i z hz
                    cases hg
                    simp [hck, hf, zeroD_run hz]
                  · cases hg
                · cases hg
              cases ok with
              | true =>
                cases he
                refine ⟨_, w, .inl (by simp only [Sem.run_bind, main]; rfl), good_same hw ?_⟩
                simp only [Rep]
                exact ⟨_, rfl, repL_cons'.2 ⟨by simp only [Rep], repL_one (by simp only [Rep])⟩⟩
              | false =>
                cases he
                exact ⟨_, w, .inl (by simp only [Sem.run_bind, main]; rfl), good_same hw (by simp only [Rep]; rfl)⟩
            · cases hg
          · cases hg
        · cases he
      · cases he
    · cases he
  · cases he
theorem mapPut_ok [Rho] {t : TypeId} {x i y : RV} {x' i' y' : Value} (he : evMapPut P t x i y h = some (r, h')) (hw : RepW P V m g h w) (hx : Rep V m g x x') (hi : Rep V m g i i') (hy : Rep V m g y y') :
    ∃ v w', Gives P (do Instr.mapUpdate t x' i' y'; pure .skip) w v w' ∧ Good P V m g h w r h' v w' := by
  unfold evMapPut at he
  split at he
  · rename_i b
    split at he
    · rename_i es cl hat
      split at he
      · rename_i k hk
        obtain rfl := rep_plain _ _ _ hk hi
        split at he
        · rename_i u hu0
          obtain rfl := rep_plain _ _ _ hu0 hy
          simp only [Rep] at hx
          obtain ⟨hvb, rfl⟩ := hx
          have hheap : w.heap[m b]? = some (.map es.toArray cl) := (hw.live b _ hat).2
          split at he
          · rename_i es' cl' hg
            cases he
            have main : (Instr.mapUpdate t (.map (some (m b))) i' y').run P w = .ok () (w.putObj (m b) (.map es'.toArray cl')) := by
              unfold mapPut at hg
              split at hg
              · rename_i key elem hu
                split at hg
                · rename_i _ hck
                  have hck := pureOf_run P w _ _ hck
                  simp only [Instr.mapUpdate, Sem.run_bind, run_underlying hu, Result.andThen_ok, Go.getObj, Sem.run, hheap]
                  split at hg
                  · rename_i p hf
                    have hf := pureOf_run P w _ _ hf
                    split at hg
                    · rename_i e hes
                      split at hg
                      · rename_i hsb
                        cases hg
                        have hm2 : (es.modify p.1 fun e => { e with key := i', val := y' }) = es.set p.1 { e with key := i', val := y' } := by
                          simp only [List.modify_eq_set, hes]
                          rfl
                        simp [hck, hf, hes, hsb, hm2, Instr.keyThatStays, Go.setObj, Sem.run, World.putObj, hheap]
                      · cases hg
                    · cases hg
                  · rename_i hf
                    have hf := pureOf_run P w _ _ hf
                    cases hg
                    simp [hck, hf, Go.setObj, Sem.run, World.putObj, hheap]
                  · cases hg
                · cases hg
              · cases hg
            have hput := put_step (w' := w.putObj (m b) (.map es'.toArray cl')) hw hat (.mpo es' cl') (fun B hB => World.putObj_heap_other hB) (by simp) rfl rfl rfl (by
              show (w.putObj (m b) (.map es'.toArray cl')).heap[m b]? = _
              exact World.putObj_heap_same (Array.getElem?_eq_some_iff.1 hheap).1)
            exact ⟨undef, _, .inr ⟨by simp only [Sem.run_bind, main]; rfl, rfl⟩, m, g, hput.1, rep_ru, by rw [vx_self (put_n ..)]; exact hput.2⟩
          · cases he
        · cases he
      · cases he
    · cases he
  · cases he
theorem evOp_ok [Rho] (hR : RecOk P R) (he : evOp P R o ρ h = some (r, h')) (hw : RepW P V m g h w) (hρ : ∀ x ∈ o.op.operands, Rep V m g (ρ x) (A.eval x)) (hk : ∀ v W', Good P V m g h w r h' v W' → K (A.put o.dst v) W') :
    o.wpIn (fen ro) n P A w K Q := by
  have fin : (∀ c, o.op ≠ .defer c) → (∃ v w', Gives P (execOp A.eval o) w v w' ∧ Good P V m g h w r h' v w') → o.wpIn (fen ro) n P A w K Q := fun hd ⟨v, w', h1, h2⟩ => op_wp hd h1 (hk v w' h2)
  unfold evOp at he
  split at he <;> rename_i ho
  · cases he
    refine fin (by rw [ho]; intro _ e; cases e) ⟨_, w, .inl (by simp only [execOp, ho]; rfl), good_same hw (hρ _ (by rw [ho]; simp [Op.operands]))⟩
  · cases he
    refine fin (by rw [ho]; intro _ e; cases e) ⟨_, w, .inl (by simp only [execOp, ho]; rfl), good_same hw (hρ _ (by rw [ho]; simp [Op.operands]))⟩
  · refine fin (by rw [ho]; intro _ e; cases e) ?_
    simp only [execOp, ho]
    exact pick_ok hR.dec he hw (hρ _ (by rw [ho]; simp [Op.operands])) (hρ _ (by rw [ho]; simp [Op.operands])) (hρ _ (by rw [ho]; simp [Op.operands]))
  · refine fin (by rw [ho]; intro _ e; cases e) ?_
    simp only [execOp, ho]
    exact alloc_ok he hw
  · refine fin (by rw [ho]; intro _ e; cases e) ?_
    simp only [execOp, ho]
    exact box_ok he hw (hρ _ (by rw [ho]; simp [Op.operands]))
  · exact fin (by rw [ho]; intro _ e; cases e) (build_ok ho he hw hρ)
  · exact fin (by rw [ho]; intro _ e; cases e) (buildSlice_ok ho he hw hρ)
  · refine fin (by rw [ho]; intro _ e; cases e) ?_
    simp only [execOp, ho]
    exact load_ok he hw (hρ _ (by rw [ho]; simp [Op.operands]))
  · refine fin (by rw [ho]; intro _ e; cases e) ?_
    simp only [execOp, ho]
    exact store_ok he hw (hρ _ (by rw [ho]; simp [Op.operands])) (hρ _ (by rw [ho]; simp [Op.operands]))
  · exact fin (by rw [ho]; intro _ e; cases e) (nil_ok ho he hw (hρ _ (by rw [ho]; simp [Op.operands])))
  · exact fin (by rw [ho]; intro _ e; cases e) (bin_ok hR.dec ho he hw hρ)
  · exact fin (by rw [ho]; intro _ e; cases e) (makeFunc_ok ho he hw hρ)
  · refine fin (by rw [ho]; intro _ e; cases e) ?_
    simp only [execOp, ho]
    rename_i t lo co
    have hl := hρ lo (by rw [ho]; simp [Op.operands])
    have hcc := hρ co (by rw [ho]; simp [Op.operands])
    split at he
    · rename_i hv
      rw [hv] at hl
      exact makeN_ok hR.dec he hw hl hcc
    · exact make_ok he hw hl hcc
  · exact fin (by rw [ho]; intro _ e; cases e) (slice_ok ho he hw hρ)
  · refine fin (by rw [ho]; intro _ e; cases e) ?_
    simp only [execOp, ho]
    exact fieldAddr_ok he hw (hρ _ (by rw [ho]; simp [Op.operands]))
  · exact fin (by rw [ho]; intro _ e; cases e) (field_ok ho he hw hρ)
  · refine fin (by rw [ho]; intro _ e; cases e) ?_
    simp only [execOp, ho]
    rename_i t xo io
    have hx := hρ xo (by rw [ho]; simp [Op.operands])
    have hi := hρ io (by rw [ho]; simp [Op.operands])
    split at he
    · rename_i hv
      rw [hv] at hx
      simp only [Rep] at hx
      exact indexF_ok hR.dec he hw hx hi
    · rename_i hv
      rw [hv] at hx
      exact indexO_ok hR.dec he hw hx hi
    · exact indexAddr_ok he hw hx hi
  · exact fin (by rw [ho]; intro _ e; cases e) (index_ok ho he hw hρ)
  · exact fin (by rw [ho]; intro _ e; cases e) (extract_ok ho he hw hρ)
  · exact call_ok hR ho he hw hρ hk
  · exact fin (by rw [ho]; intro _ e; cases e) (un_ok hR.dec ho he hw hρ)
  · refine fin (by rw [ho]; intro _ e; cases e) ?_
    simp only [execOp, ho]
    exact makeMap_ok he hw
  · refine fin (by rw [ho]; intro _ e; cases e) ?_
    simp only [execOp, ho]
    exact lookup_ok he hw (hρ _ (by rw [ho]; simp [Op.operands])) (hρ _ (by rw [ho]; simp [Op.operands]))
  · refine fin (by rw [ho]; intro _ e; cases e) ?_
    simp only [execOp, ho]
    exact mapPut_ok he hw (hρ _ (by rw [ho]; simp [Op.operands])) (hρ _ (by rw [ho]; simp [Op.operands])) (hρ _ (by rw [ho]; simp [Op.operands]))
  · refine fin (by rw [ho]; intro _ e; cases e) ?_
    simp only [execOp, ho]
    exact mapPut_ok he hw (hρ _ (by rw [ho]; simp [Op.operands])) (hρ _ (by rw [ho]; simp [Op.operands])) (hρ _ (by rw [ho]; simp [Op.operands]))
  · exact fin (by rw [ho]; intro _ e; cases e) (conv_ok hR.dec ho he hw hρ)
  · cases he

end
end Go.Proofs.Ytmglofemnobakaa
