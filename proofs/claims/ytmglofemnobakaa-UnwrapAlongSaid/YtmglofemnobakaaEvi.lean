/- Calls reckoned: a region whose order is drawn: what holds along the way, whatever the order. -/
import Derived.Test.YtmglofemnobakaaEvh
namespace Go.Proofs.Ytmglofemnobakaa
open Go.RowKit

def Lst (L : Array Bool) (i : Nat) : Prop := L.getD i false = true
theorem lst_lt {L : Array Bool} {i : Nat} (h : Lst L i) : i < L.size := by
  unfold Lst at h
  rw [Array.getD_eq_getD_getElem?] at h
  cases hq : L[i]? with
  | none => rw [hq] at h; simp at h
  | some b => exact (Array.getElem?_eq_some_iff.1 hq).1
theorem lst_set {L : Array Bool} {i : Nat} (hi : i < L.size) (j : Nat) : Lst (L.setIfInBounds i true) j ↔ j = i ∨ Lst L j := by
  unfold Lst
  simp only [Array.getD_eq_getD_getElem?]
  by_cases h : j = i
  · subst h; simp [hi]
  · rw [Array.getElem?_setIfInBounds_ne (fun e => h e.symm)]; simp [h]
def Vp (V : Nat → Prop) (T : Nat → RS) (p : Nat) : Nat → Prop := fun k => V k ∧ k < (T p).h.n
def Cond (l : List Nat) (T : Nat → RS) (L : Array Bool) (p k : Nat) : Prop :=
  (∀ q w, q < p → l[q]? = some w → Tch l T w k → Lst L w) ∧ (∀ q w, p ≤ q → l[q]? = some w → Tch l T w k → ¬ Lst L w)

structure Inv [Rho] (P : Program) (ops : Array Oper) (l : List Nat) (T : Nat → RS) (V0 : Nat → Prop) (m0 g0 : Nat → Nat) (W0 : World) (A0 : Act) (L : Array Bool) (V : Nat → Prop) (m g : Nat → Nat) (A : Act) (W : World) : Prop where
  size : L.size = ops.size
  dc : ∀ (i : Nat) o, ops[i]? = some o → Lst L i → ∀ j ∈ preds o, Lst L j
  asz : A.tmps.size = (T 0).a.sz
  adf : A.defers = A0.defers
  wr : ∀ t (q : Nat) i o, l[q]? = some i → ops[i]? = some o → o.dst = some t → Lst L i → Rep (Vp V T (q + 1)) m g ((T l.length).a.get t) (A.tmps.getD t undef)
  un : ∀ t, (∀ (q : Nat) i o, l[q]? = some i → ops[i]? = some o → o.dst = some t → ¬ Lst L i) → Rep V0 m0 g0 ((T 0).a.get t) (A.tmps.getD t undef)
  blk : ∀ p k o, p ≤ l.length → (T p).h.at? k = some o → Cond l T L p k → Vp V T p k ∧ ROk P (Vp V T p) m g k o W ∧ (k < (T 0).h.n → (T 0).h.at? k ≠ none)
  inj : ∀ p1 p2 k1 k2 o1 o2, p1 ≤ l.length → p2 ≤ l.length → (T p1).h.at? k1 = some o1 → (T p2).h.at? k2 = some o2 → Cond l T L p1 k1 → Cond l T L p2 k2 → m k1 = m k2 → k1 = k2
  vb : ∀ k, V k → V0 k ∨ ∃ (q : Nat) (i : Nat), l[q]? = some i ∧ Lst L i ∧ (T q).h.n ≤ k ∧ k < (T (q + 1)).h.n
  cv : ∀ (q : Nat) i k, l[q]? = some i → Lst L i → (T q).h.n ≤ k → k < (T (q + 1)).h.n → V k
  v0 : ∀ k, V0 k → V k ∧ k < (T 0).h.n
  old : ∀ k, k < (T 0).h.n → m k = m0 k ∧ g k = g0 k
  new : ∀ k, V k → (T 0).h.n ≤ k → (∃ j, Touch (T 0).h (T l.length).h j ∧ m k = m0 j) ∨ W0.heap.size ≤ m k
  wsz : W0.heap.size ≤ W.heap.size
  os : W.os = W0.os
  tape : W.tape = W0.tape
  output : W.output = W0.output
  frame : ∀ B, B < W0.heap.size → (∀ j, Touch (T 0).h (T l.length).h j → m0 j ≠ B) → W.heap[B]? = W0.heap[B]?
  rw0 : RepW P V0 m0 g0 (T 0).h W0
/-- rows that were there before are there still; blocks of the call's own lie behind them -/
theorem inv_far [Rho] {P : Program} {ops : Array Oper} {l : List Nat} {T : Nat → RS} {V0 : Nat → Prop} {m0 g0 : Nat → Nat} {W0 : World} {A0 : Act} {L : Array Bool} {V : Nat → Prop} {m g : Nat → Nat} {A : Act} {W : World} (hI : Inv P ops l T V0 m0 g0 W0 A0 L V m g A W) : Far W := by
  refine hI.rw0.far.keep (fun B hB => hI.frame B (Nat.lt_of_lt_of_le hB hI.rw0.far.size) fun j hj e => ?_) hI.wsz
  cases hq : (T 0).h.at? j with
  | none => exact hj.2.2 hq
  | some o =>
    have := hI.rw0.low j (hI.rw0.live j o hq).1
    omega
theorem inv_low [Rho] {P : Program} {ops : Array Oper} {l : List Nat} {T : Nat → RS} {V0 : Nat → Prop} {m0 g0 : Nat → Nat} {W0 : World} {A0 : Act} {L : Array Bool} {V : Nat → Prop} {m g : Nat → Nat} {A : Act} {W : World} (hI : Inv P ops l T V0 m0 g0 W0 A0 L V m g A W) (hv : ∀ k, V k → k < (T 0).h.n → V0 k) (k : Nat) (hk : V k) : Rho.fb ≤ m k := by
  by_cases hlt : k < (T 0).h.n
  · rw [(hI.old k hlt).1]
    exact hI.rw0.low k (hv k hk hlt)
  · rcases hI.new k hk (by omega) with ⟨j, hj, e⟩ | e
    · rw [e]
      cases hq : (T 0).h.at? j with
      | none => exact absurd hq hj.2.2
      | some o => exact hI.rw0.low j (hI.rw0.live j o hq).1
    · have := hI.rw0.far.size
      omega

section
variable {P : Program} {R : Rec} {ops : Array Oper} {l : List Nat} {T : Nat → RS} {V0 : Nat → Prop} {m0 g0 : Nat → Nat} {W0 : World} {A0 : Act} {L : Array Bool} {V : Nat → Prop} {m g : Nat → Nat} {A : Act} {W : World}

theorem anc_closed (H : Reg P R ops l T) (dc : ∀ (i : Nat) o, ops[i]? = some o → Lst L i → ∀ j ∈ preds o, Lst L j) (hsz : L.size = ops.size) : ∀ i, Lst L i → ∀ k ∈ an ops i, Lst L k := by
  intro i
  induction i using Nat.strongRecOn with
  | _ i ih =>
    intro hi k hk
    have hlt := lst_lt hi
    have ho : ops[i]? = some ops[i] := Array.getElem?_eq_getElem (by omega)
    obtain ⟨j, h1, h2⟩ := anc_mem (ops := ops.toList) (by rw [Array.getElem?_toList]; exact ho) (H.pred i _ ho) hk
    have hj := dc i _ ho hi j h1
    rcases h2 with rfl | h2
    · exact hj
    · exact ih j (H.pred i _ ho j h1) hj k h2
theorem ready_anc [Rho] (H : Reg P R ops l T) (hI : Inv P ops l T V0 m0 g0 W0 A0 L V m g A W) {i : Nat} {o : Oper} (ho : ops[i]? = some o) (hr : ∀ j ∈ preds o, Lst L j) : ∀ k ∈ an ops i, Lst L k := by
  intro k hk
  obtain ⟨j, h1, h2⟩ := anc_mem (ops := ops.toList) (by rw [Array.getElem?_toList]; exact ho) (H.pred i _ ho) hk
  rcases h2 with rfl | h2
  · exact hr _ h1
  · exact anc_closed H hI.dc hI.size j (hr j h1) k h2
/-- what a slot that operation i looks at holds -/
theorem slot_ok [Rho] (H : Reg P R ops l T) (hI : Inv P ops l T V0 m0 g0 W0 A0 L V m g A W) {p i : Nat} {o : Oper} (hp : l[p]? = some i) (ho : ops[i]? = some o) (hun : ¬ Lst L i) (hr : ∀ j ∈ preds o, Lst L j) {t : Tmp} (ht : t ∈ looks ops.toList o) :
    Rep (Vp V T p) m g ((T p).a.get t) (A.tmps.getD t undef) := by
  have hpl := (List.getElem?_eq_some_iff.1 hp).1
  have hn0 : ∀ k, V0 k → Vp V T p k ∧ m k = m0 k ∧ g k = g0 k := fun k hk => by
    obtain ⟨h1, h2⟩ := hI.v0 k hk
    exact ⟨⟨h1, Nat.lt_of_lt_of_le h2 (H.n_le (Nat.zero_le _) (by omega))⟩, hI.old k h2⟩
  by_cases hw : ∃ (q : Nat) (j : Nat) (oj : Oper), l[q]? = some j ∧ ops[j]? = some oj ∧ oj.dst = some t ∧ Lst L j
  · obtain ⟨q, j, oj, h1, h2, h3, h4⟩ := hw
    have hql := (List.getElem?_eq_some_iff.1 h1).1
    have hne : i ≠ j := fun e => hun (by rw [e]; exact h4)
    have hji : j ∈ an ops i := by
      rcases (H.pair i o j oj ho h2 t h3).2 with e | e | e | e
      · exact absurd ht e
      · exact absurd e hne
      · exact e
      · exact absurd (anc_closed H hI.dc hI.size j h4 i e) hun
    obtain ⟨q', hq', hl'⟩ := (H.order p i hp).2 j hji
    have := H.pos h1 hl'
    subst this
    have hv := hI.wr t q j oj h1 h2 h3 h4
    have only : ∀ (q2 : Nat) i2 o2, q2 ≠ q → l[q2]? = some i2 → ops[i2]? = some o2 → o2.dst ≠ some t := fun q2 i2 o2 hne2 e1 e2 e3 => by
      rcases (H.pair j oj i2 o2 h2 e2 t e3).1 with e | e
      · subst e; exact hne2 (H.pos e1 h1)
      · exact e h3
    have c1 : (T l.length).a.get t = (T (q + 1)).a.get t := by
      have := H.slot_const (t := t) (p := q + 1) (l.length - (q + 1)) (by omega) (fun q2 i2 o2 a _ => only q2 i2 o2 (by omega))
      rwa [show q + 1 + (l.length - (q + 1)) = l.length by omega] at this
    have c2 : (T p).a.get t = (T (q + 1)).a.get t := by
      have := H.slot_const (t := t) (p := q + 1) (p - (q + 1)) (by omega) (fun q2 i2 o2 a _ => only q2 i2 o2 (by omega))
      rwa [show q + 1 + (p - (q + 1)) = p by omega] at this
    rw [c2, ← c1]
    exact rep_mono (fun k hk => ⟨⟨hk.1, Nat.lt_of_lt_of_le hk.2 (H.n_le (by omega) (by omega))⟩, rfl, rfl⟩) _ _ hv
  · have hv := hI.un t (fun q j oj h1 h2 h3 h4 => hw ⟨q, j, oj, h1, h2, h3, h4⟩)
    have c2 : (T p).a.get t = (T 0).a.get t := by
      have := H.slot_const (t := t) (p := 0) p (by omega) (fun q j oj _ hqp h1 h2 h3 => by
        have hne : i ≠ j := fun e => by
          subst e
          have := H.pos hp h1
          omega
        rcases (H.pair i o j oj ho h2 t h3).2 with e | e | e | e
        · exact e ht
        · exact hne e
        · exact hw ⟨q, j, oj, h1, h2, h3, ready_anc H hI ho hr j e⟩
        · obtain ⟨q', hq', hl'⟩ := (H.order q j h1).2 i e
          have := H.pos hp hl'
          omega)
      rwa [Nat.zero_add] at this
    rw [c2]
    exact rep_mono hn0 _ _ hv
theorem oper_ok [Rho] (H : Reg P R ops l T) (hI : Inv P ops l T V0 m0 g0 W0 A0 L V m g A W) {p i : Nat} {o : Oper} (hp : l[p]? = some i) (ho : ops[i]? = some o) (hun : ¬ Lst L i) (hr : ∀ j ∈ preds o, Lst L j) (x : Operand) (hx : x ∈ o.op.operands) :
    Rep (Vp V T p) m g ((T p).a.eval x) (A.eval x) := by
  cases x with
  | tmp t => exact slot_ok H hI hp ho hun hr (by unfold looks; exact List.mem_append_left _ (tmpsL_mem (by simpa using hx)))
  | const v => simp [RA.eval, Act.eval, Rep]
  | global k => simp [RA.eval, Rep]
  | func f => simp [RA.eval, Act.eval, Rep, RepL]
theorem want_ok [Rho] (hD : DOk R.dec) (H : Reg P R ops l T) (hI : Inv P ops l T V0 m0 g0 W0 A0 L V m g A W) {p i : Nat} {o : Oper} {b : Bool} (hp : l[p]? = some i) (ho : ops[i]? = some o) (hun : ¬ Lst L i) (hr : ∀ j ∈ preds o, Lst L j) (hw : wantedD R.dec ops.toList o (T p).a = some b) : Region.wanted o (yielded ops A.tmps) = b :=
  wanted_ok hD hw fun gd want q t h1 h2 h3 => ⟨_, _, _, slot_ok H hI hp ho hun hr (by unfold looks; refine List.mem_append_right _ ?_; rw [h1]; simp [h2, h3])⟩

/-- the slots behind operation i -/
theorem slots_next [Rho] (H : Reg P R ops l T) (hI : Inv P ops l T V0 m0 g0 W0 A0 L V m g A W) {p i : Nat} {o : Oper} {r : RV} {v : Value} (hp : l[p]? = some i) (ho : ops[i]? = some o) (hun : ¬ Lst L i) (ha : (T (p + 1)).a = (T p).a.put o.dst r) {V' : Nat → Prop} {m' g' : Nat → Nat}
    (hag : ∀ k, V k → V' k ∧ m' k = m k ∧ g' k = g k) (hrv : Rep (Vp V' T (p + 1)) m' g' r v) :
    (∀ t (q : Nat) j oj, l[q]? = some j → ops[j]? = some oj → oj.dst = some t → Lst (L.setIfInBounds i true) j → Rep (Vp V' T (q + 1)) m' g' ((T l.length).a.get t) ((A.put o.dst v).tmps.getD t undef)) ∧
    (∀ t, (∀ (q : Nat) j oj, l[q]? = some j → ops[j]? = some oj → oj.dst = some t → ¬ Lst (L.setIfInBounds i true) j) → Rep V0 m0 g0 ((T 0).a.get t) ((A.put o.dst v).tmps.getD t undef)) := by
  have hpl := (List.getElem?_eq_some_iff.1 hp).1
  have hiL : i < L.size := by rw [hI.size]; exact (Array.getElem?_eq_some_iff.1 ho).1
  have keep : ∀ t, o.dst ≠ some t → (A.put o.dst v).tmps.getD t undef = A.tmps.getD t undef := fun t hne => by
    cases hd : o.dst with
    | none => rfl
    | some d =>
      have hdt : d ≠ t := fun e => hne (by rw [hd, e])
      simp only [Act.put, Array.getD_eq_getD_getElem?]
      rw [Array.getElem?_setIfInBounds_ne hdt]
  refine ⟨fun t q j oj h1 h2 h3 h4 => ?_, fun t hno => ?_⟩
  · rcases (lst_set hiL j).1 h4 with rfl | h4
    · have hq := H.pos h1 hp
      subst hq
      rw [ho] at h2
      cases h2
      have only : ∀ (q2 : Nat) i2 o2, q2 ≠ q → l[q2]? = some i2 → ops[i2]? = some o2 → o2.dst ≠ some t := fun q2 i2 o2 hne2 e1 e2 e3 => by
        rcases (H.pair j o i2 o2 ho e2 t e3).1 with e | e
        · subst e; exact hne2 (H.pos e1 h1)
        · exact e h3
      have c1 : (T l.length).a.get t = (T (q + 1)).a.get t := by
        have := H.slot_const (t := t) (p := q + 1) (l.length - (q + 1)) (by omega) (fun q2 i2 o2 a _ => only q2 i2 o2 (by omega))
        rwa [show q + 1 + (l.length - (q + 1)) = l.length by omega] at this
      have hs := H.shape q (by omega)
      rw [c1, ha, h3]
      show Rep _ _ _ (((T q).a.set t r).get t) _
      rw [get_set hs]
      have hsz : (T q).a.sz = A.tmps.size := by rw [hI.asz]; exact (H.frame q (by omega)).1
      by_cases htl : t < (T q).a.sz
      · rw [if_pos ⟨rfl, htl⟩]
        have : (A.put (some t) v).tmps.getD t undef = v := by
          simp only [Act.put, Array.getD_eq_getD_getElem?]
          rw [Array.getElem?_setIfInBounds_self_of_lt (Nat.lt_of_lt_of_eq htl hsz)]
          rfl
        rw [this]
        exact hrv
      · rw [if_neg (fun e => htl e.2)]
        have e1 : (A.put (some t) v).tmps.getD t undef = A.tmps.getD t undef := by
          simp only [Act.put, Array.setIfInBounds]
          rw [dif_neg (fun hlt => htl (by rw [hsz]; exact hlt))]
        rw [e1]
        have hv := hI.un t (fun q2 j2 o2 e1 e2 e3 e4 => by
          by_cases hq2 : q2 = q
          · subst hq2
            rw [h1] at e1
            cases e1
            exact hun e4
          · exact only q2 j2 o2 hq2 e1 e2 e3)
        have c2 : (T q).a.get t = (T 0).a.get t := by
          have := H.slot_const (t := t) (p := 0) q (by omega) (fun q2 i2 o2 _ a => only q2 i2 o2 (by omega))
          rwa [Nat.zero_add] at this
        rw [c2]
        refine rep_mono (fun k hk => ?_) _ _ hv
        obtain ⟨x1, x2⟩ := hI.v0 k hk
        obtain ⟨y1, y2, y3⟩ := hag k x1
        exact ⟨⟨y1, Nat.lt_of_lt_of_le x2 (H.n_le (Nat.zero_le _) (by omega))⟩, y2.trans (hI.old k x2).1, y3.trans (hI.old k x2).2⟩
    · have hne : o.dst ≠ some t := by
        rcases (H.pair i o j oj ho h2 t h3).1 with e | e
        · subst e; exact absurd h4 hun
        · exact e
      rw [keep t hne]
      exact rep_mono (fun k hk => ⟨⟨(hag k hk.1).1, hk.2⟩, (hag k hk.1).2⟩) _ _ (hI.wr t q j oj h1 h2 h3 h4)
  · have hne : o.dst ≠ some t := fun e => hno p i o hp ho e ((lst_set hiL i).2 (.inl rfl))
    rw [keep t hne]
    exact hI.un t (fun q j oj h1 h2 h3 h4 => hno q j oj h1 h2 h3 ((lst_set hiL j).2 (.inr h4)))
end
end Go.Proofs.Ytmglofemnobakaa
