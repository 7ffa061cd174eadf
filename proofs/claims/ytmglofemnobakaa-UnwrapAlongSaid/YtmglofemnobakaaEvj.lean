/- Calls reckoned: a region whose order is drawn: each operation, whenever it comes. -/
import Derived.Test.YtmglofemnobakaaEvi
namespace Go.Proofs.Ytmglofemnobakaa
open Go.RowKit

section
variable {P : Program} {R : Rec} {ops : Array Oper} {l : List Nat} {T : Nat → RS} {V0 : Nat → Prop} {m0 g0 : Nat → Nat} {W0 : World} {A0 : Act} {L : Array Bool} {V : Nat → Prop} {m g : Nat → Nat} {A : Act} {W : World}

theorem put_defers (A : Act) (d : Option Tmp) (v : Value) : (A.put d v).defers = A.defers := by cases d <;> rfl
theorem put_size (A : Act) (d : Option Tmp) (v : Value) : (A.put d v).tmps.size = A.tmps.size := by cases d <;> simp [Act.put]
/-- an operation that touches no block -/
theorem next_quiet [Rho] (H : Reg P R ops l T) (hI : Inv P ops l T V0 m0 g0 W0 A0 L V m g A W) {p i : Nat} {o : Oper} {r : RV} {v : Value} {W' : World} (hp : l[p]? = some i) (ho : ops[i]? = some o) (hun : ¬ Lst L i) (hr : ∀ j ∈ preds o, Lst L j)
    (ha : (T (p + 1)).a = (T p).a.put o.dst r) (how : (T (p + 1)).ow = (T p).ow) (hn : (T (p + 1)).h.n = (T p).h.n) (hrv : Rep (Vp V T p) m g r v)
    (ws : W.heap.size ≤ W'.heap.size) (w1 : W'.os = W.os) (w2 : W'.tape = W.tape) (w3 : W'.output = W.output) (wb : ∀ B, B < W.heap.size → W'.heap[B]? = W.heap[B]?) :
    Inv P ops l T V0 m0 g0 W0 A0 (L.setIfInBounds i true) V m g (A.put o.dst v) W' := by
  have hiL : i < L.size := by rw [hI.size]; exact (Array.getElem?_eq_some_iff.1 ho).1
  obtain ⟨s1, s2⟩ := slots_next (v := v) H hI hp ho hun ha (V' := V) (m' := m) (g' := g) (fun k hk => ⟨hk, rfl, rfl⟩) (rep_mono (fun k hk => ⟨⟨hk.1, by rw [hn]; exact hk.2⟩, rfl, rfl⟩) _ _ hrv)
  have hno : ∀ k, ¬ Tch l T i k := fun k hk => by
    have := (H.tch hp k).1 hk
    rw [how] at this
    exact H.not_yet hp k this
  have hc : ∀ p k, Cond l T (L.setIfInBounds i true) p k → Cond l T L p k := fun p k ⟨c1, c2⟩ => by
    refine ⟨fun q w a b c => ?_, fun q w a b c d => c2 q w a b c ((lst_set hiL w).2 (.inr d))⟩
    rcases (lst_set hiL w).1 (c1 q w a b c) with rfl | e
    · exact absurd c (hno k)
    · exact e
  refine ⟨by simpa using hI.size, fun j oj hj hl => ?_, by rw [put_size]; exact hI.asz, by rw [put_defers]; exact hI.adf, s1, s2, fun p k o' a b c => ?_, fun p1 p2 k1 k2 o1 o2 a1 a2 b1 b2 c1 c2 => hI.inj p1 p2 k1 k2 o1 o2 a1 a2 b1 b2 (hc _ _ c1) (hc _ _ c2), fun k hk => ?_, fun q j k h1 h2 h3 h4 => ?_, hI.v0, hI.old, hI.new, Nat.le_trans hI.wsz ws, w1.trans hI.os, w2.trans hI.tape, w3.trans hI.output, fun B hB hf => ?_, hI.rw0⟩
  · rcases (lst_set hiL j).1 hl with rfl | hl
    · rw [ho] at hj
      cases hj
      exact fun k hk => (lst_set hiL k).2 (.inr (hr k hk))
    · exact fun k hk => (lst_set hiL k).2 (.inr (hI.dc j oj hj hl k hk))
  · obtain ⟨x1, x2, x3⟩ := hI.blk p k o' a b (hc _ _ c)
    exact ⟨x1, x2.mono (fun _ h => ⟨h, rfl, rfl⟩) x1 (wb _ x2.lt), x3⟩
  · rcases hI.vb k hk with h | ⟨q, j, h1, h2, h3⟩
    · exact .inl h
    · exact .inr ⟨q, j, h1, (lst_set hiL j).2 (.inr h2), h3⟩
  · rcases (lst_set hiL j).1 h2 with rfl | h2
    · have := H.pos h1 hp
      subst this
      omega
    · exact hI.cv q j k h1 h2 h3 h4
  · rw [wb B (Nat.lt_of_lt_of_le hB hI.wsz)]
    exact hI.frame B hB hf

/-- an operation that may touch blocks -/
theorem next_merge [Rho] (H : Reg P R ops l T) (hI : Inv P ops l T V0 m0 g0 W0 A0 L V m g A W) {p i : Nat} {o : Oper} {r : RV} {v : Value} {h' : RH} {m1 g1 : Nat → Nat} {W' : World} (hp : l[p]? = some i) (ho : ops[i]? = some o) (hun : ¬ Lst L i) (hr : ∀ j ∈ preds o, Lst L j)
    (hmk : ∀ k o', (maskH (an ops i) (T p)).at? k = some o' → (T p).h.at? k = some o' ∧ Cond l T L p k)
    (hT : T (p + 1) = mergeD (T p) i o.dst r h') (hs : h'.Sound) (hnn : (T p).h.n ≤ h'.n) (hch : ∀ b ∈ h'.ch, b < (T p).h.n) (hdone : i ∈ (T (p + 1)).done)
    (e1 : Ext m g (maskH (an ops i) (T p)) W m1 g1 h' W') (e2 : Rep (VX (Vp V T p) (maskH (an ops i) (T p)) h') m1 g1 r v) (e3 : RepW P (VX (Vp V T p) (maskH (an ops i) (T p)) h') m1 g1 h' W') :
    ∃ V' m' g', Inv P ops l T V0 m0 g0 W0 A0 (L.setIfInBounds i true) V' m' g' (A.put o.dst v) W' := by
  have hpl := (List.getElem?_eq_some_iff.1 hp).1
  have hiL : i < L.size := by rw [hI.size]; exact (Array.getElem?_eq_some_iff.1 ho).1
  have hn1 : (T (p + 1)).h.n = h'.n := by rw [hT]; rfl
  have hmn : (maskH (an ops i) (T p)).n = (T p).h.n := rfl
  have hs0 := H.sound p (by omega)
  -- what i touches
  have htch : ∀ k, Tch l T i k ↔ k ∈ h'.ch ∨ ((T p).h.n ≤ k ∧ k < h'.n) := fun k => by
    rw [H.tch hp k, hT]
    show (k, i) ∈ owners i (T p).h.n (h'.n - (T p).h.n) (ownAll i h'.ch (T p).ow) ↔ _
    rw [mem_owners, mem_ownAll]
    constructor
    · rintro ((h | ⟨_, h⟩) | ⟨_, h1, h2⟩)
      · exact absurd h (H.not_yet hp k)
      · exact .inl h
      · exact .inr ⟨h1, by omega⟩
    · rintro (h | ⟨h1, h2⟩)
      · exact .inl (.inr ⟨rfl, h⟩)
      · exact .inr ⟨rfl, h1, by omega⟩
  have htn : ∀ k, Tch l T i k → k < h'.n := fun k hk => by
    rcases (htch k).1 hk with h | h
    · have := hch k h; omega
    · exact h.2
  have anew : ∀ k, (T p).h.n ≤ k → (T (p + 1)).h.at? k = h'.at? k := fun k hk => by rw [hT]; exact merge_at_new hs hnn hk
  have aold : ∀ k, k < (T p).h.n → (T (p + 1)).h.at? k = if k ∈ h'.ch then h'.at? k else (T p).h.at? k := fun k hk => by rw [hT]; exact merge_at_old hs hs0 hnn hch hk
  have atch : ∀ k, Tch l T i k → (T (p + 1)).h.at? k = h'.at? k := fun k hk => by
    rcases (htch k).1 hk with h | h
    · rw [aold k (hch k h), if_pos h]
    · exact anew k h.1
  -- later ones that touch what is there by then are not listed
  have later : ∀ (q : Nat) (w k : Nat), p < q → l[q]? = some w → k < h'.n → Tch l T w k → ¬ Lst L w := fun q w k hpq hq hk ht hl => by
    have hql := (List.getElem?_eq_some_iff.1 hq).1
    have hkn : k < (T q).h.n := Nat.lt_of_lt_of_le (by rw [hn1]; exact hk : k < (T (p + 1)).h.n) (H.n_le (by omega) (by omega))
    have := (H.sf hq).bef k hkn ((H.tch hq k).1 ht) (H.not_yet hq k) i (H.done_le (by omega) (by omega) i hdone)
    exact hun (anc_closed H hI.dc hI.size w hl i this)
  -- the new ghosts
  have disj : ∀ k, V k → ¬ ((T p).h.n ≤ k ∧ k < h'.n) := fun k hk ⟨a, b⟩ => by
    rcases hI.vb k hk with h | ⟨q, j, h1, h2, h3, h4⟩
    · have := (hI.v0 k h).2
      have := H.n_le (Nat.zero_le p) (by omega)
      omega
    · have hql := (List.getElem?_eq_some_iff.1 h1).1
      have hne : q ≠ p := fun e => by
        subst e
        rw [hp] at h1
        cases h1
        exact hun h2
      rcases Nat.lt_or_ge q p with hlt | hge
      · have := H.n_le (show q + 1 ≤ p by omega) (by omega)
        omega
      · have := H.n_le (show p + 1 ≤ q by omega) (by omega)
        omega
  let m' : Nat → Nat := fun k => if (T p).h.n ≤ k ∧ k < h'.n then m1 k else m k
  let g' : Nat → Nat := fun k => if (T p).h.n ≤ k ∧ k < h'.n then g1 k else g k
  let V' : Nat → Prop := fun k => V k ∨ ((T p).h.n ≤ k ∧ k < h'.n)
  have hag : ∀ k, V k → V' k ∧ m' k = m k ∧ g' k = g k := fun k hk => ⟨.inl hk, by simp only [m', if_neg (disj k hk)], by simp only [g', if_neg (disj k hk)]⟩
  have hag1 : ∀ q, p + 1 ≤ q → q ≤ l.length → ∀ k, VX (Vp V T p) (maskH (an ops i) (T p)) h' k → Vp V' T q k ∧ m' k = m1 k ∧ g' k = g1 k := fun q hq hql k hk => by
    have hle := H.n_le hq hql
    rcases hk with ⟨a, b⟩ | ⟨a, b⟩
    · have o1 := e1.old k b
      have hnr : ¬ ((T p).h.n ≤ k ∧ k < h'.n) := fun e => by omega
      exact ⟨⟨.inl a, by omega⟩, by simp only [m', if_neg hnr]; exact o1.1.symm, by simp only [g', if_neg hnr]; exact o1.2.symm⟩
    · have a : (T p).h.n ≤ k := a
      exact ⟨⟨.inr ⟨a, b⟩, by omega⟩, by simp only [m', if_pos (And.intro a b)], by simp only [g', if_pos (And.intro a b)]⟩
  obtain ⟨s1, s2⟩ := slots_next (v := v) H hI hp ho hun (by rw [hT]; rfl) hag (rep_mono (hag1 (p + 1) (Nat.le_refl _) (by omega)) _ _ e2)
  -- conditions, for blocks that i does not touch
  have hc : ∀ q k, ¬ Tch l T i k → Cond l T (L.setIfInBounds i true) q k → Cond l T L q k := fun q k hno ⟨c1, c2⟩ => by
    refine ⟨fun q' w a b c => ?_, fun q' w a b c d => c2 q' w a b c ((lst_set hiL w).2 (.inr d))⟩
    rcases (lst_set hiL w).1 (c1 q' w a b c) with rfl | e
    · exact absurd c hno
    · exact e
  -- for those that it does
  have hct : ∀ q k o', q ≤ l.length → Tch l T i k → Cond l T (L.setIfInBounds i true) q k → (T q).h.at? k = some o' → p + 1 ≤ q ∧ h'.at? k = some o' := fun q k o' hql ht ⟨c1, c2⟩ hk => by
    have hpq : p < q := by
      rcases Nat.lt_or_ge p q with h | h
      · exact h
      · exact absurd ((lst_set hiL i).2 (.inl rfl)) (c2 p i h hp ht)
    refine ⟨hpq, ?_⟩
    have := H.at_const (k := k) (p := p + 1) (by rw [hn1]; exact htn k ht) (q - (p + 1)) (by omega) (fun q' w a b c d => by
      have hl := c1 q' w (by omega) c d
      rcases (lst_set hiL w).1 hl with rfl | hl
      · have := H.pos hp c; omega
      · exact later q' w k (by omega) c (htn k ht) d hl)
    rw [show p + 1 + (q - (p + 1)) = q by omega] at this
    rw [← atch k ht, ← this]
    exact hk
  -- blocks that the operation may have written to
  have touched : ∀ j, Touch (maskH (an ops i) (T p)) h' j → ∃ o', (T p).h.at? j = some o' ∧ Cond l T L p j ∧ j ∈ h'.ch := fun j ⟨t1, t2, t3⟩ => by
    cases hq : (maskH (an ops i) (T p)).at? j with
    | none => exact absurd hq t3
    | some o' =>
      obtain ⟨x1, x2⟩ := hmk j o' hq
      refine ⟨o', x1, x2, ?_⟩
      rcases t2 with t2 | t2
      · exact t2
      · have t1 : j < (T p).h.n := t1
        have t2 : (T p).h.n ≤ j := t2
        omega
  have unwritten : ∀ q k o', q ≤ l.length → (T q).h.at? k = some o' → ¬ Tch l T i k → Cond l T L q k → W'.heap[m k]? = W.heap[m k]? := fun q k o' hql hk hno hcd => by
    obtain ⟨x1, x2, _⟩ := hI.blk q k o' hql hk hcd
    refine e1.frame _ x2.lt fun j hj e => ?_
    obtain ⟨oj, y1, y2, y3⟩ := touched j hj
    have := hI.inj p q j k oj o' (by omega) hql y1 hk y2 hcd e
    subst this
    exact hno ((htch j).2 (.inl y3))
  have hpn := H.n_le (Nat.zero_le p) (by omega : p ≤ l.length)
  have hcl := H.ch_le (Nat.zero_le p) (by omega : p ≤ l.length)
  have hcl2 := H.ch_le (show p + 1 ≤ l.length by omega) (Nat.le_refl _)
  have tN : ∀ j, Touch (maskH (an ops i) (T p)) h' j → (j < (T 0).h.n ∧ Touch (T 0).h (T l.length).h j ∧ m j = m0 j) ∨ ((T 0).h.n ≤ j ∧ V j) := fun j hj => by
    obtain ⟨oj, y1, y2, y3⟩ := touched j hj
    obtain ⟨x1, x2, x3⟩ := hI.blk p j oj (by omega) y1 y2
    by_cases hlt : j < (T 0).h.n
    · refine .inl ⟨hlt, ⟨hlt, ?_, x3 hlt⟩, (hI.old j hlt).1⟩
      by_cases hb : j < (T 0).h.base
      · exact .inl (hcl2.1 j ((H.sf hp).chn j ((H.tch hp j).1 ((htch j).2 (.inl y3))) (H.not_yet hp j) (by omega) (by rw [hcl.2.1]; exact hb)))
      · exact .inr (by omega)
    · exact .inr ⟨by omega, x1.1⟩
  refine ⟨V', m', g', ⟨by simpa using hI.size, fun j oj hj hl => ?_, by rw [put_size]; exact hI.asz, by rw [put_defers]; exact hI.adf, s1, s2, fun q k o' hql hk hcd => ?_, fun p1 p2 k1 k2 o1 o2 a1 a2 b1 b2 c1 c2 e => ?_, fun k hk => ?_, fun q j k h1 h2 h3 h4 => ?_, fun k hk => ⟨.inl (hI.v0 k hk).1, (hI.v0 k hk).2⟩, fun k hk => ?_, fun k hk hkn => ?_, Nat.le_trans hI.wsz e1.size, e1.os.trans hI.os, e1.tape.trans hI.tape, e1.output.trans hI.output, fun B hB hf => ?_, hI.rw0⟩⟩
  · rcases (lst_set hiL j).1 hl with rfl | hl
    · rw [ho] at hj
      cases hj
      exact fun k hk => (lst_set hiL k).2 (.inr (hr k hk))
    · exact fun k hk => (lst_set hiL k).2 (.inr (hI.dc j oj hj hl k hk))
  · by_cases ht : Tch l T i k
    · obtain ⟨z1, z2⟩ := hct q k o' hql ht hcd hk
      obtain ⟨x1, x2⟩ := e3.live k o' z2
      refine ⟨(hag1 q z1 hql k x1).1, x2.mono (hag1 q z1 hql) x1 rfl, fun hk0 hnone => ?_⟩
      have hkp : k < (T p).h.n := by omega
      have hmne : (maskH (an ops i) (T p)).at? k ≠ none := fun e => by
        have := e1.dead k hkp e
        rw [z2] at this
        cases this
      cases hq : (maskH (an ops i) (T p)).at? k with
      | none => exact hmne hq
      | some oo =>
        obtain ⟨y1, y2⟩ := hmk k oo hq
        exact (hI.blk p k oo (by omega) y1 y2).2.2 hk0 hnone
    · have hcd' := hc q k ht hcd
      obtain ⟨x1, x2, x3⟩ := hI.blk q k o' hql hk hcd'
      exact ⟨⟨(hag k x1.1).1, x1.2⟩, x2.mono (fun k hk => ⟨⟨(hag k hk.1).1, hk.2⟩, (hag k hk.1).2⟩) x1 (unwritten q k o' hql hk ht hcd'), x3⟩
  · -- no two blocks lie at one place
    have cross : ∀ q1 q2 k1 k2 o1 o2, q1 ≤ l.length → q2 ≤ l.length → (T q1).h.at? k1 = some o1 → (T q2).h.at? k2 = some o2 → Tch l T i k1 → ¬ Tch l T i k2 → Cond l T (L.setIfInBounds i true) q1 k1 → Cond l T (L.setIfInBounds i true) q2 k2 → m' k1 ≠ m' k2 := fun q1 q2 k1 k2 o1 o2 a1 a2 b1 b2 t1 t2 c1 c2 e => by
      obtain ⟨z1, z2⟩ := hct q1 k1 o1 a1 t1 c1 b1
      have c2' := hc q2 k2 t2 c2
      obtain ⟨x1, x2, _⟩ := hI.blk q2 k2 o2 a2 b2 c2'
      have e' : m' k2 = m k2 := (hag k2 x1.1).2.1
      rcases (htch k1).1 t1 with h | h
      · have hlt := hch k1 h
        have hmne : (maskH (an ops i) (T p)).at? k1 ≠ none := fun e => by
          have := e1.dead k1 hlt e
          rw [z2] at this
          cases this
        cases hq : (maskH (an ops i) (T p)).at? k1 with
        | none => exact hmne hq
        | some oo =>
          obtain ⟨y1, y2⟩ := hmk k1 oo hq
          have e'' : m' k1 = m k1 := by
            have : ¬ ((T p).h.n ≤ k1 ∧ k1 < h'.n) := fun e => by omega
            simp only [m', if_neg this]
          have := hI.inj p q2 k1 k2 oo o2 (by omega) a2 y1 b2 y2 c2' (by rw [← e'', e, e'])
          subst this
          exact t2 t1
      · have e'' : m' k1 = m1 k1 := by simp only [m', if_pos h]
        rcases e1.new k1 h.1 h.2 with ⟨j, hj, ej⟩ | ej
        · obtain ⟨oj, y1, y2, y3⟩ := touched j hj
          have := hI.inj p q2 j k2 oj o2 (by omega) a2 y1 b2 y2 c2' (by rw [← ej, ← e'', e, e'])
          subst this
          exact t2 ((htch j).2 (.inl y3))
        · have := x2.lt
          rw [e'', e'] at e
          omega
    by_cases t1 : Tch l T i k1
    · by_cases t2 : Tch l T i k2
      · obtain ⟨z1, z2⟩ := hct p1 k1 o1 a1 t1 c1 b1
        obtain ⟨z3, z4⟩ := hct p2 k2 o2 a2 t2 c2 b2
        have y1 := (hag1 p1 z1 a1 k1 (e3.live k1 o1 z2).1).2.1
        have y2 := (hag1 p2 z3 a2 k2 (e3.live k2 o2 z4).1).2.1
        exact e3.inj k1 k2 o1 o2 z2 z4 (by rw [← y1, ← y2]; exact e)
      · exact absurd e (cross p1 p2 k1 k2 o1 o2 a1 a2 b1 b2 t1 t2 c1 c2)
    · by_cases t2 : Tch l T i k2
      · exact absurd e.symm (cross p2 p1 k2 k1 o2 o1 a2 a1 b2 b1 t2 t1 c2 c1)
      · have c1' := hc p1 k1 t1 c1
        have c2' := hc p2 k2 t2 c2
        have y1 := (hag k1 (hI.blk p1 k1 o1 a1 b1 c1').1.1).2.1
        have y2 := (hag k2 (hI.blk p2 k2 o2 a2 b2 c2').1.1).2.1
        exact hI.inj p1 p2 k1 k2 o1 o2 a1 a2 b1 b2 c1' c2' (by rw [← y1, ← y2]; exact e)
  · rcases hk with hk | hk
    · rcases hI.vb k hk with h | ⟨q, j, h1, h2, h3⟩
      · exact .inl h
      · exact .inr ⟨q, j, h1, (lst_set hiL j).2 (.inr h2), h3⟩
    · exact .inr ⟨p, i, hp, (lst_set hiL i).2 (.inl rfl), hk.1, by rw [hn1]; exact hk.2⟩
  · rcases (lst_set hiL j).1 h2 with rfl | h2
    · have := H.pos h1 hp
      subst this
      exact .inr ⟨h3, by rw [← hn1]; exact h4⟩
    · exact .inl (hI.cv q j k h1 h2 h3 h4)
  · have hnr : ¬ ((T p).h.n ≤ k ∧ k < h'.n) := fun e => by omega
    have := hI.old k hk
    exact ⟨by simp only [m', if_neg hnr]; exact this.1, by simp only [g', if_neg hnr]; exact this.2⟩
  · rcases hk with hk | hk
    · rw [(hag k hk).2.1]
      exact hI.new k hk hkn
    · have e'' : m' k = m1 k := by simp only [m', if_pos hk]
      rw [e'']
      rcases e1.new k hk.1 hk.2 with ⟨j, hj, ej⟩ | ej
      · rw [ej]
        rcases tN j hj with ⟨_, x2, x3⟩ | ⟨x1, x2⟩
        · exact .inl ⟨j, x2, x3⟩
        · exact hI.new j x2 x1
      · exact .inr (Nat.le_trans hI.wsz ej)
  · rw [e1.frame B (Nat.lt_of_lt_of_le hB hI.wsz) ?_]
    · exact hI.frame B hB hf
    · intro j hj e
      rcases tN j hj with ⟨_, x2, x3⟩ | ⟨x1, x2⟩
      · exact hf j x2 (by rw [← x3]; exact e)
      · rcases hI.new j x2 x1 with ⟨j', y1, y2⟩ | y
        · exact hf j' y1 (by rw [← y2]; exact e)
        · omega
end
end Go.Proofs.Ytmglofemnobakaa
