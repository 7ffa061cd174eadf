/- Calls reckoned: a region whose order is drawn, whole. -/
import Derived.Test.YtmglofemnobakaaEvj
namespace Go.Proofs.Ytmglofemnobakaa
open Go.RowKit

theorem dead_at (n k : Nat) : (deadH n).at? k = none := by
  by_cases hk : k < n
  · rw [at_lt (h := deadH n) hk]
    show ((List.replicate n (none : Option RO))[n - 1 - k]?).join = none
    rw [List.getElem?_replicate]
    split <;> rfl
  · exact at_ge (h := deadH n) hk
theorem count_one {i : Nat} {f f' : Nat → Bool} (h1 : f i = true) (h2 : f' i = false) (h3 : ∀ j, j ≠ i → f' j = f j) : ∀ (l : List Nat), l.Nodup → i ∈ l → l.countP f = l.countP f' + 1
  | [], _, h => by cases h
  | x :: l, hn, h => by
    simp only [List.nodup_cons] at hn
    have same : ∀ l : List Nat, i ∉ l → l.countP f = l.countP f' := fun l hl => by
      induction l with
      | nil => rfl
      | cons y ys ih =>
        simp only [List.mem_cons, not_or] at hl
        simp only [List.countP_cons]
        rw [ih hl.2, h3 y (fun e => hl.1 e.symm)]
    simp only [List.countP_cons]
    by_cases hx : x = i
    · subst hx
      rw [same l hn.1, h1, h2]
      simp
    · have : i ∈ l := by
        rcases List.mem_cons.1 h with e | e
        · exact absurd e.symm hx
        · exact e
      rw [count_one h1 h2 h3 l hn.2 this, h3 x hx]
      omega

section
variable {P : Program} {R : Rec} {ops : Array Oper} {l : List Nat} {T : Nat → RS} {V0 : Nat → Prop} {m0 g0 : Nat → Nat} {W0 : World} {A0 : Act} {L : Array Bool} {V : Nat → Prop} {m g : Nat → Nat} {A : Act} {W : World}
variable {ro : Option Nat} {n : Nat} {K : Act → World → Prop} {Q : Exit → Act → World → Prop}

theorem quiet_world {m1 g1 : Nat → Nat} {h h' : RH} {w w' : World} (he : Ext m g h w m1 g1 h' w') (hq : ∀ j, ¬ Touch h h' j) : ∀ B, B < w.heap.size → w'.heap[B]? = w.heap[B]? := fun B hB => he.frame B hB fun j hj => absurd hj (hq j)
theorem inv_v0 [Rho] (H : Reg P R ops l T) (hI : Inv P ops l T V0 m0 g0 W0 A0 L V m g A W) : ∀ k, V k → k < (T 0).h.n → V0 k := fun k hk hlt => by
  rcases hI.vb k hk with h | ⟨q, i, h1, _, h3, _⟩
  · exact h
  · have := (List.getElem?_eq_some_iff.1 h1).1
    have := H.n_le (Nat.zero_le q) (by omega)
    omega
/-- one operation, when it is its turn -/
theorem oper_next [Rho] (hR : RecOk P R) (H : Reg P R ops l T) (hI : Inv P ops l T V0 m0 g0 W0 A0 L V m g A W) {i : Nat} {o : Oper} (ho : ops[i]? = some o) (hun : ¬ Lst L i) (hr : ∀ j ∈ preds o, Lst L j)
    (hk : ∀ V' m' g' A' W', Inv P ops l T V0 m0 g0 W0 A0 (L.setIfInBounds i true) V' m' g' A' W' → K A' W') : wpOpIn (fen ro) n P ops Q i K A W := by
  obtain ⟨p, hp⟩ := H.all i (Array.getElem?_eq_some_iff.1 ho).1
  have hpl := (List.getElem?_eq_some_iff.1 hp).1
  obtain ⟨o', r, ho', ha, hw⟩ := H.step p i hp
  rw [ho] at ho'
  cases ho'
  unfold wpOpIn
  simp only [ho]
  rcases hw with ⟨w1, rfl, w3, w4, _⟩ | ⟨w1, ⟨h', w2, w3⟩, w4, w5, _⟩ | ⟨w1, h', w2, w3, w4⟩
  · rw [if_neg (by rw [want_ok hR.dec H hI hp ho hun hr w1]; simp)]
    exact ⟨fun _ _ => trivial, hk _ _ _ _ _ (next_quiet H hI hp ho hun hr ha w4 (by rw [w3]) rep_ru (Nat.le_refl _) rfl rfl rfl (fun _ _ => rfl))⟩
  · rw [if_pos (want_ok hR.dec H hI hp ho hun hr w1)]
    have hwd : RepW P (Vp V T p) m g (deadH (T p).h.n) W := by
      refine ⟨by simp [RH.Sound, deadH], fun k o hk => ?_, fun k1 k2 o1 o2 e1 => ?_, fun k hk => hk.2, inv_far hI, fun k hk => inv_low hI (inv_v0 H hI) k hk.1⟩
      · rw [dead_at] at hk; cases hk
      · rw [dead_at] at e1; cases e1
    refine evOp_ok hR w2 hwd (fun x hx => oper_ok H hI hp ho hun hr x hx) ?_
    rintro v W' ⟨m1, g1, e1, e2, _⟩
    refine hk _ _ _ _ _ (next_quiet (r := r) H hI hp ho hun hr ha w5 (by rw [w4]) ?_ e1.size e1.os e1.tape e1.output (quiet_world e1 fun j hj => hj.2.2 (dead_at _ _)))
    rw [vx_self (h := deadH (T p).h.n) (h' := h') w3] at e2
    exact rep_mono (fun k hk => ⟨hk, (e1.old k hk.2).1.symm, (e1.old k hk.2).2.symm⟩) _ _ e2
  · rw [if_pos (want_ok hR.dec H hI hp ho hun hr w1)]
    have hdone : i ∈ (T (p + 1)).done := by rw [w3]; exact List.mem_cons_self ..
    have hmk : ∀ k o', (maskH (an ops i) (T p)).at? k = some o' → (T p).h.at? k = some o' ∧ Cond l T L p k := fun k o' hk => by
      obtain ⟨x1, x2⟩ := mask_at hk
      refine ⟨x1, fun q w hq hl ht => ?_, fun q w hq hl ht hlw => ?_⟩
      · exact ready_anc H hI ho hr w (x2 w (H.ow_le (by omega) (by omega) k w ((H.tch hl k).1 ht)))
      · by_cases hqp : q = p
        · subst hqp
          rw [hp] at hl
          cases hl
          exact hun hlw
        · have hql := (List.getElem?_eq_some_iff.1 hl).1
          have hkn : k < (T q).h.n := Nat.lt_of_lt_of_le (at_some_lt x1) (H.n_le (by omega) (by omega))
          have := (H.sf hl).bef k hkn ((H.tch hl k).1 ht) (H.not_yet hl k) i (H.done_le (by omega) (by omega) i hdone)
          exact hun (anc_closed H hI.dc hI.size w hlw i this)
    have hwm : RepW P (Vp V T p) m g (maskH (an ops i) (T p)) W := by
      refine ⟨?_, fun k o' hk => ?_, fun k1 k2 o1 o2 e1 e2 e => ?_, fun k hk => hk.2, inv_far hI, fun k hk => inv_low hI (inv_v0 H hI) k hk.1⟩
      · show (maskD _ _ _ _).length = _
        rw [maskD_len]
        exact H.sound p (by omega)
      · obtain ⟨x1, x2⟩ := hmk k o' hk
        obtain ⟨y1, y2, _⟩ := hI.blk p k o' (by omega) x1 x2
        exact ⟨y1, y2⟩
      · obtain ⟨x1, x2⟩ := hmk k1 o1 e1
        obtain ⟨x3, x4⟩ := hmk k2 o2 e2
        exact hI.inj p p k1 k2 o1 o2 (by omega) (by omega) x1 x3 x2 x4 e
    refine evOp_ok hR w2 hwm (fun x hx => oper_ok H hI hp ho hun hr x hx) ?_
    rintro v W' ⟨m1, g1, e1, e2, e3⟩
    rcases w4 with ⟨c1, c2, c3, c4⟩ | ⟨_, ⟨d1, d2, d3⟩, d4⟩
    · refine hk _ _ _ _ _ (next_quiet (r := r) H hI hp ho hun hr ha c4 (by rw [c3]) (rep_flat2 c2 e2) e1.size e1.os e1.tape e1.output (quiet_world e1 fun j hj => ?_))
      rcases hj.2.1 with e | e
      · rw [c1] at e; cases e
      · have x1 : j < (T p).h.n := hj.1
        have x2 : (T p).h.n ≤ j := e
        omega
    · obtain ⟨V', m', g', hI'⟩ := next_merge (v := v) H hI hp ho hun hr hmk d4 d1 d2 d3 hdone e1 e2 e3
      exact hk V' m' g' _ W' hI'

def unl (ops : Array Oper) (L : Array Bool) : Nat := (List.range ops.size).countP fun i => !(L.getD i false)
theorem unl_set {i : Nat} (hi : i < ops.size) (hL : L.size = ops.size) (h : ¬ Lst L i) : unl ops L = unl ops (L.setIfInBounds i true) + 1 := by
  have hf : L.getD i false = false := by
    cases hq : L.getD i false with
    | false => rfl
    | true => exact absurd hq h
  refine count_one (i := i) (by simp only [hf, Bool.not_false]) ?_ (fun j hj => ?_) _ List.nodup_range (List.mem_range.2 hi)
  · have : Lst (L.setIfInBounds i true) i := (lst_set (by omega) i).2 (.inl rfl)
    unfold Lst at this
    simp only [this, Bool.not_true]
  · have : (L.setIfInBounds i true).getD j false = L.getD j false := by
      simp only [Array.getD_eq_getD_getElem?]
      rw [Array.getElem?_setIfInBounds_ne (fun e => hj e.symm)]
    simp only [this]
theorem unl_zero (h : unl ops L = 0) : ∀ i, i < ops.size → Lst L i := fun i hi => by
  have := (List.countP_eq_zero.1 h) i (List.mem_range.2 hi)
  simpa [Lst] using this
theorem ready_iff {i : Nat} : i ∈ Region.ready .any ops L ↔ L.getD i true = false ∧ ∃ o, ops[i]? = some o ∧ ∀ j ∈ preds o, Lst L j := by
  rw [mem_ready]
  constructor
  · rintro ⟨h1, o, h2, h3⟩
    refine ⟨h1, o, h2, fun j hj => ?_⟩
    obtain ⟨e, a, b, rfl⟩ := preds_mem.1 hj
    exact h3 e a b
  · rintro ⟨h1, o, h2, h3⟩
    exact ⟨h1, o, h2, fun e a b => h3 e.on (preds_mem.2 ⟨e, a, b, rfl⟩)⟩
theorem not_lst {i : Nat} (h : L.getD i true = false) : ¬ Lst L i := by
  unfold Lst
  rw [Array.getD_eq_getD_getElem?] at h ⊢
  cases hq : L[i]? with
  | none => rw [hq] at h; simp at h
  | some b => rw [hq] at h; simp at h ⊢; exact h
theorem lst_not {i : Nat} (hi : i < L.size) (h : ¬ Lst L i) : L.getD i true = false := by
  unfold Lst at h
  rw [Array.getD_eq_getD_getElem?] at h ⊢
  rw [Array.getElem?_eq_getElem hi] at h ⊢
  simpa using h
/-- if none can come, all have come -/
theorem all_listed (H : Reg P R ops l T) (hL : L.size = ops.size) (hr : Region.ready .any ops L = []) : ∀ i, i < ops.size → Lst L i := by
  intro i
  induction i using Nat.strongRecOn with
  | _ i ih =>
    intro hi
    by_cases h : Lst L i
    · exact h
    · have ho : ops[i]? = some ops[i] := Array.getElem?_eq_getElem hi
      have : i ∈ Region.ready .any ops L := ready_iff.2 ⟨lst_not (by omega) h, _, ho, fun j hj => ih j (H.pred i _ ho j hj) (by have := H.pred i _ ho j hj; omega)⟩
      rw [hr] at this
      cases this
theorem any_ok [Rho] (hR : RecOk P R) (H : Reg P R ops l T) (hq : ∀ L V m g A W, Inv P ops l T V0 m0 g0 W0 A0 L V m g A W → (∀ i, i < ops.size → Lst L i) → Q .normal A W) : ∀ (fuel : Nat) (L : Array Bool) (V : Nat → Prop) (m g : Nat → Nat) (A : Act) (W : World), Inv P ops l T V0 m0 g0 W0 A0 L V m g A W → unl ops L = fuel → wpAnyIn (fen ro) n P .any ops Q fuel L A W
  | 0, L, V, m, g, A, W, hI, hu => by
    have hall := unl_zero hu
    refine ⟨?_, hq L V m g A W hI hall⟩
    cases hc : Region.ready .any ops L with
    | nil => rfl
    | cons x xs =>
      have hx : x ∈ Region.ready .any ops L := by rw [hc]; exact List.mem_cons_self ..
      obtain ⟨h1, o, h2, _⟩ := ready_iff.1 hx
      exact absurd (hall x (Array.getElem?_eq_some_iff.1 h2).1) (not_lst h1)
  | fuel + 1, L, V, m, g, A, W, hI, hu => by
    refine ⟨fun hr => hq L V m g A W hI (all_listed H hI.size hr), fun i hi => ?_⟩
    obtain ⟨h1, o, h2, h3⟩ := ready_iff.1 hi
    refine oper_next hR H hI h2 (not_lst h1) h3 ?_
    intro V' m' g' A' W' hI'
    refine any_ok hR H hq fuel _ V' m' g' A' W' hI' ?_
    have := unl_set (Array.getElem?_eq_some_iff.1 h2).1 hI.size (not_lst h1)
    omega

theorem Reg.made (H : Reg P R ops l T) {k : Nat} : ∀ p, p ≤ l.length → (T 0).h.n ≤ k → k < (T p).h.n → ∃ (q : Nat) (i : Nat), q < p ∧ l[q]? = some i ∧ (T q).h.n ≤ k ∧ k < (T (q + 1)).h.n
  | 0, _, h1, h2 => by omega
  | p + 1, hp, h1, h2 => by
    by_cases hlt : k < (T p).h.n
    · obtain ⟨q, i, a, b⟩ := H.made p (by omega) h1 hlt
      exact ⟨q, i, by omega, b⟩
    · exact ⟨p, l[p], by omega, List.getElem?_eq_getElem (by omega), by omega, h2⟩
/-- at the end -/
theorem inv_end [Rho] (H : Reg P R ops l T) (hI : Inv P ops l T V0 m0 g0 W0 A0 L V m g A W) (hall : ∀ i, i < ops.size → Lst L i) (hA0 : RepA V0 m0 g0 (T 0).a A0) :
    Ext m0 g0 (T 0).h W0 m g (T l.length).h W ∧ RepA (VX V0 (T 0).h (T l.length).h) m g (T l.length).a A ∧ RepW P (VX V0 (T 0).h (T l.length).h) m g (T l.length).h W := by
  have hn := H.n_le (Nat.zero_le _) (Nat.le_refl l.length)
  have hcond : ∀ k, Cond l T L l.length k := fun k => ⟨fun q w _ hl _ => by
    obtain ⟨o, _, ho, _⟩ := H.step q w hl
    exact hall w (Array.getElem?_eq_some_iff.1 ho).1, fun q w hq hl => by rw [List.getElem?_eq_none hq] at hl; cases hl⟩
  have hV : ∀ p, p ≤ l.length → ∀ k, Vp V T p k → VX V0 (T 0).h (T l.length).h k ∧ m k = m k ∧ g k = g k := fun p hp k hk => by
    refine ⟨?_, rfl, rfl⟩
    rcases hI.vb k hk.1 with h | ⟨q, i, h1, _, h3, h4⟩
    · exact .inl h
    · have hql := (List.getElem?_eq_some_iff.1 h1).1
      exact .inr ⟨Nat.le_trans (H.n_le (Nat.zero_le q) (by omega)) h3, Nat.lt_of_lt_of_le h4 (H.n_le (by omega) (Nat.le_refl _))⟩
  have h0V : ∀ k, V0 k → VX V0 (T 0).h (T l.length).h k ∧ m k = m0 k ∧ g k = g0 k := fun k hk => ⟨.inl hk, hI.old k (hI.v0 k hk).2⟩
  have hcl := H.ch_le (Nat.zero_le _) (Nat.le_refl l.length)
  refine ⟨⟨hn, hcl.2.1, hcl.1, hcl.2.2, hI.old, fun k h1 h2 => ?_, fun k hk e => ?_, fun k hk hb hc => ?_, hI.wsz, hI.os, hI.tape, hI.output, hI.frame⟩, ⟨⟨H.shape _ (Nat.le_refl _), ?_, fun t => ?_⟩, ?_, fun d hd => ?_⟩, ⟨H.sound _ (Nat.le_refl _), fun k o hk => ?_, fun k1 k2 o1 o2 e1 e2 e => hI.inj _ _ k1 k2 o1 o2 (Nat.le_refl _) (Nat.le_refl _) e1 e2 (hcond k1) (hcond k2) e, fun k hk => ?_, inv_far hI, fun k hk => inv_low hI (inv_v0 H hI) k ?_⟩⟩
  · obtain ⟨q, i, a, b, c, d⟩ := H.made l.length (Nat.le_refl _) h1 h2
    obtain ⟨o, _, ho, _⟩ := H.step q i b
    exact hI.new k (hI.cv q i k b (hall i (Array.getElem?_eq_some_iff.1 ho).1) c d) h1
  · cases hq : (T l.length).h.at? k with
    | none => rfl
    | some o => exact absurd e ((hI.blk _ k o (Nat.le_refl _) hq (hcond k)).2.2 hk)
  · have := H.at_const (k := k) (p := 0) hk l.length (by omega) (fun q i _ hql hl ht => by
      refine hc ((H.ch_le (show q + 1 ≤ l.length by omega) (Nat.le_refl _)).1 k ((H.sf hl).chn k ((H.tch hl k).1 ht) (H.not_yet hl k) ?_ ?_))
      · exact Nat.lt_of_lt_of_le hk (H.n_le (Nat.zero_le q) (by omega))
      · rw [(H.ch_le (Nat.zero_le q) (by omega)).2.1]; exact hb)
    rwa [Nat.zero_add] at this
  · rw [hI.asz]; exact (H.frame _ (Nat.le_refl _)).1.symm
  · show Rep _ _ _ ((T l.length).a.get t) _
    by_cases hw : ∃ (q : Nat) (j : Nat) (oj : Oper), l[q]? = some j ∧ ops[j]? = some oj ∧ oj.dst = some t
    · obtain ⟨q, j, oj, h1, h2, h3⟩ := hw
      have hql := (List.getElem?_eq_some_iff.1 h1).1
      exact rep_mono (hV (q + 1) (by omega)) _ _ (hI.wr t q j oj h1 h2 h3 (hall j (Array.getElem?_eq_some_iff.1 h2).1))
    · have := H.slot_const (t := t) (p := 0) l.length (by omega) (fun q j oj _ _ h1 h2 h3 => hw ⟨q, j, oj, h1, h2, h3⟩)
      rw [Nat.zero_add] at this
      rw [this]
      exact rep_mono h0V _ _ (hI.un t fun q j oj h1 h2 h3 => absurd ⟨q, j, oj, h1, h2, h3⟩ hw)
  · rw [hI.adf, (H.frame _ (Nat.le_refl _)).2, hA0.2.1]
    apply List.map_congr_left
    intro d hd
    rw [(h0V d (hA0.2.2 d hd)).2.1]
  · rw [(H.frame _ (Nat.le_refl _)).2] at hd
    exact .inl (hA0.2.2 d hd)
  · obtain ⟨x1, x2, _⟩ := hI.blk _ k o (Nat.le_refl _) hk (hcond k)
    exact ⟨(hV _ (Nat.le_refl _) k x1).1, x2.mono (hV _ (Nat.le_refl _)) x1 rfl⟩
  · rcases hk with hk | hk
    · have := (hI.v0 k hk).2; omega
    · exact hk.2
  · rcases hk with hk | hk
    · exact (hI.v0 k hk).1
    · obtain ⟨q, i, a, b, c, d⟩ := H.made l.length (Nat.le_refl _) hk.1 hk.2
      obtain ⟨o, _, ho, _⟩ := H.step q i b
      exact hI.cv q i k b (hall i (Array.getElem?_eq_some_iff.1 ho).1) c d
theorem lst_none {i N : Nat} : ¬ Lst (Array.replicate N false) i := by
  unfold Lst
  rw [Array.getD_eq_getD_getElem?, Array.getElem?_replicate]
  split <;> simp
/-- at the start -/
theorem inv_start [Rho] (H : Reg P R ops l T) (hA : RepA V0 m0 g0 (T 0).a A0) (hw : RepW P V0 m0 g0 (T 0).h W0) : Inv P ops l T V0 m0 g0 W0 A0 (Array.replicate ops.size false) V0 m0 g0 A0 W0 := by
  have key : ∀ p k o, p ≤ l.length → (T p).h.at? k = some o → Cond l T (Array.replicate ops.size false) p k → (T 0).h.at? k = some o := fun p k o hp hk hc => by
    have hlt := at_some_lt hk
    by_cases h0 : k < (T 0).h.n
    · have := H.at_const (k := k) (p := 0) h0 p (by omega) (fun q i _ hq hl ht => lst_none (hc.1 q i (by omega) hl ht))
      rw [Nat.zero_add] at this
      rw [← this]
      exact hk
    · obtain ⟨q, i, a, b, c, d⟩ := H.made p hp (by omega) hlt
      exact absurd (hc.1 q i a b ((H.tch b k).2 ((H.sf b).newo k c d))) lst_none
  refine ⟨by simp, fun i o _ h => absurd h lst_none, hA.1.2.1, rfl, fun t q i o _ _ _ h => absurd h lst_none, fun t _ => hA.1.2.2 t, fun p k o hp hk hc => ?_, fun p1 p2 k1 k2 o1 o2 a1 a2 b1 b2 c1 c2 e => hw.inj k1 k2 o1 o2 (key _ _ _ a1 b1 c1) (key _ _ _ a2 b2 c2) e, fun k hk => .inl hk, fun q i k _ h => absurd h lst_none, fun k hk => ⟨hk, hw.lt k hk⟩, fun k _ => ⟨rfl, rfl⟩, fun k hk hn => ?_, Nat.le_refl _, rfl, rfl, rfl, fun _ _ _ => rfl, hw⟩
  · have h0 := key p k o hp hk hc
    obtain ⟨x1, x2⟩ := hw.live k o h0
    refine ⟨⟨x1, at_some_lt hk⟩, x2.mono (fun k hk => ⟨⟨hk, Nat.lt_of_lt_of_le (hw.lt k hk) (H.n_le (Nat.zero_le p) hp)⟩, rfl, rfl⟩) x1 rfl, fun _ e => by rw [h0] at e; cases e⟩
  · have := hw.lt k hk
    omega
end
end Go.Proofs.Ytmglofemnobakaa
