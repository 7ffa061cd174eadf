/- Calls reckoned: a region whose order is drawn: what the reckoning's steps are. -/
import Derived.Test.YtmglofemnobakaaEvr
namespace Go.Proofs.Ytmglofemnobakaa
open Go.RowKit

/-! which operations come before which -/
theorem ancOf_mem {acc : List (List Nat)} {k : Nat} : ∀ {js : List Nat}, k ∈ ancOf acc js → ∃ j, j ∈ js ∧ (k = j ∨ k ∈ (acc[j]?).getD [])
  | [], h => by simp [ancOf] at h
  | j :: js, h => by
    simp only [ancOf, List.mem_cons, List.mem_append] at h
    rcases h with h | h | h
    · exact ⟨j, List.mem_cons_self .., .inl h⟩
    · exact ⟨j, List.mem_cons_self .., .inr h⟩
    · obtain ⟨j', h1, h2⟩ := ancOf_mem h
      exact ⟨j', List.mem_cons_of_mem _ h1, h2⟩
theorem ancsL_spec : ∀ (ops : List Oper) (acc : List (List Nat)), ∃ B, ancsL ops acc = acc ++ B ∧ B.length = ops.length ∧ ∀ (i : Nat) o, ops[i]? = some o → B[i]? = some (ancOf (acc ++ B.take i) (preds o))
  | [], acc => ⟨[], by simp [ancsL], rfl, fun i o h => by simp at h⟩
  | o :: ops, acc => by
    obtain ⟨B, h1, h2, h3⟩ := ancsL_spec ops (acc ++ [ancOf acc (preds o)])
    refine ⟨ancOf acc (preds o) :: B, by rw [ancsL, h1]; simp, by simp [h2], fun i o' hi => ?_⟩
    cases i with
    | zero => simp at hi; subst hi; simp
    | succ i =>
      have := h3 i o' (by simpa using hi)
      simpa using this
theorem anc_mem {ops : List Oper} {i k : Nat} {o : Oper} (hi : ops[i]? = some o) (hp : ∀ j ∈ preds o, j < i) (hk : k ∈ ((ancs ops)[i]?).getD []) : ∃ j, j ∈ preds o ∧ (k = j ∨ k ∈ ((ancs ops)[j]?).getD []) := by
  obtain ⟨B, h1, h2, h3⟩ := ancsL_spec ops []
  have h4 := h3 i o hi
  unfold ancs at hk ⊢
  rw [h1, List.nil_append] at hk ⊢
  rw [h4, Option.getD_some, List.nil_append] at hk
  obtain ⟨j, j1, j2⟩ := ancOf_mem hk
  refine ⟨j, j1, j2.imp id fun e => ?_⟩
  rw [List.getElem?_take_of_lt (hp j j1)] at e
  exact e
theorem ancs_len (ops : List Oper) : (ancs ops).length = ops.length := by
  obtain ⟨B, h1, h2, _⟩ := ancsL_spec ops []
  unfold ancs
  rw [h1]
  simpa using h2
theorem predsL_mem {j : Nat} : ∀ {es : List Edge}, j ∈ predsL es ↔ ∃ e, e ∈ es ∧ Region.binds .any e = true ∧ e.on = j
  | [] => by simp [predsL]
  | e :: es => by
    simp only [predsL]
    cases hb : Region.binds .any e with
    | true =>
      simp only [List.mem_cons, predsL_mem (es := es)]
      constructor
      · rintro (rfl | ⟨e', h1, h2, h3⟩)
        · exact ⟨e, .inl rfl, hb, rfl⟩
        · exact ⟨e', .inr h1, h2, h3⟩
      · rintro ⟨e', rfl | h1, h2, h3⟩
        · exact .inl h3.symm
        · exact .inr ⟨e', h1, h2, h3⟩
    | false =>
      simp only [List.mem_cons, predsL_mem (es := es)]
      constructor
      · rintro ⟨e', h1, h2, h3⟩
        exact ⟨e', .inr h1, h2, h3⟩
      · rintro ⟨e', rfl | h1, h2, h3⟩
        · rw [hb] at h2; cases h2
        · exact ⟨e', h1, h2, h3⟩
theorem preds_mem {o : Oper} {j : Nat} : j ∈ preds o ↔ ∃ e, e ∈ o.after ∧ Region.binds .any e = true ∧ e.on = j := by
  unfold preds
  rw [predsL_mem]
  simp
theorem allLt_iff {i : Nat} : ∀ {js : List Nat}, allLt i js = true → ∀ j ∈ js, j < i
  | [], _ => by simp
  | j :: js, h => by
    simp only [allLt, Bool.and_eq_true] at h
    intro k hk
    rcases List.mem_cons.1 hk with rfl | hk
    · simpa [Nat.blt_eq] using h.1
    · exact allLt_iff h.2 k hk
theorem tmpsL_mem {t : Tmp} : ∀ {xs : List Operand}, Operand.tmp t ∈ xs → t ∈ tmpsL xs
  | [], h => by cases h
  | x :: xs, h => by
    rcases List.mem_cons.1 h with rfl | h2
    · simp [tmpsL]
    · have h3 := tmpsL_mem h2
      clear h h2
      cases x <;> simp only [tmpsL, List.mem_cons] <;> first | exact .inr h3 | exact h3

/-- what is asked of a pair of operations -/
def PairOk (ops : List Oper) (i : Nat) (o : Oper) (j : Nat) (p : Oper) : Prop :=
  ∀ d, p.dst = some d → (i = j ∨ o.dst ≠ some d) ∧ (d ∉ looks ops o ∨ i = j ∨ j ∈ ((ancs ops)[i]?).getD [] ∨ i ∈ ((ancs ops)[j]?).getD [])
theorem beq_iff {a b : Nat} : Nat.beq a b = true ↔ a = b := ⟨Nat.eq_of_beq_eq_true, fun h => by rw [h]; exact Nat.beq_refl b⟩
theorem goodPair_ok {lk : List Tmp} {an bn : List Nat} {i j : Nat} {o p : Oper} (h : goodPair lk an i o j p bn = true) (d : Tmp) (hd : p.dst = some d) : (i = j ∨ o.dst ≠ some d) ∧ (d ∉ lk ∨ i = j ∨ j ∈ an ∨ i ∈ bn) := by
  unfold goodPair at h
  rw [hd] at h
  simp only [Bool.and_eq_true, Bool.or_eq_true] at h
  obtain ⟨h1, h2⟩ := h
  constructor
  · rcases h1 with h1 | h1
    · exact .inl (beq_iff.1 h1)
    · refine .inr fun e => ?_
      rw [e] at h1
      simp [Nat.beq_refl] at h1
  · rcases h2 with ((h2 | h2) | h2) | h2
    · refine .inl fun e => ?_
      rw [memN_iff.2 e] at h2
      cases h2
    · exact .inr (.inl (beq_iff.1 h2))
    · exact .inr (.inr (.inl (memN_iff.1 h2)))
    · exact .inr (.inr (.inr (memN_iff.1 h2)))
theorem goodRow_ok {lk : List Tmp} {an : List Nat} {i : Nat} {o : Oper} : ∀ (ps : List Oper) (B : List (List Nat)) (j0 : Nat), goodRow lk an i o j0 ps B = true → ∀ (k : Nat) p, ps[k]? = some p → goodPair lk an i o (j0 + k) p ((B[k]?).getD []) = true
  | [], _, _, _, k, p, hk => by simp at hk
  | q :: ps, [], _, h, k, p, hk => by simp [goodRow] at h
  | q :: ps, bn :: B, j0, h, k, p, hk => by
    simp only [goodRow, Bool.and_eq_true] at h
    cases k with
    | zero => simp at hk; subst hk; simpa using h.1
    | succ k =>
      have := goodRow_ok ps B (j0 + 1) h.2 k p (by simpa using hk)
      rw [show j0 + 1 + k = j0 + (k + 1) by omega] at this
      simpa using this
theorem goodL_ok {ops : List Oper} {B : List (List Nat)} : ∀ (rest : List Oper) (A : List (List Nat)) (i0 : Nat), goodL ops B i0 rest A = true → ∀ (k : Nat) o, rest[k]? = some o → (∀ j ∈ preds o, j < i0 + k) ∧ ∀ (j : Nat) p, ops[j]? = some p → goodPair (looks ops o) ((A[k]?).getD []) (i0 + k) o j p ((B[j]?).getD []) = true
  | [], _, _, _, k, o, hk => by simp at hk
  | q :: rest, [], _, h, k, o, hk => by simp [goodL] at h
  | q :: rest, an :: A, i0, h, k, o, hk => by
    simp only [goodL, Bool.and_eq_true] at h
    cases k with
    | zero =>
      simp at hk
      subst hk
      refine ⟨fun j hj => by simpa using allLt_iff h.1.1 j hj, fun j p hp => ?_⟩
      have := goodRow_ok ops B 0 h.1.2 j p hp
      simpa using this
    | succ k =>
      have := goodL_ok rest A (i0 + 1) h.2 k o (by simpa using hk)
      rw [show i0 + 1 + k = i0 + (k + 1) by omega] at this
      simpa using this
theorem goodOrder_ok {A : List (List Nat)} : ∀ (l seen : List Nat), goodOrder A seen l = true → (∀ x ∈ l, x ∉ seen) ∧ (∀ (p : Nat) i, l[p]? = some i → (∀ q, q < p → l[q]? ≠ some i) ∧ ∀ k ∈ (A[i]?).getD [], k ∈ seen ∨ ∃ q, q < p ∧ l[q]? = some k)
  | [], seen, _ => ⟨by simp, fun p i h => by simp at h⟩
  | x :: l, seen, h => by
    simp only [goodOrder, Bool.and_eq_true] at h
    obtain ⟨⟨h1, h2⟩, h3⟩ := h
    obtain ⟨r1, r2⟩ := goodOrder_ok l (x :: seen) h3
    have hx : x ∉ seen := fun e => by rw [memN_iff.2 e] at h1; cases h1
    refine ⟨fun y hy => ?_, fun p i hp => ?_⟩
    · rcases List.mem_cons.1 hy with rfl | hy
      · exact hx
      · exact fun e => r1 y hy (List.mem_cons_of_mem _ e)
    · cases p with
      | zero =>
        simp at hp
        subst hp
        refine ⟨fun q hq => by omega, fun k hk => .inl ?_⟩
        have := List.all_eq_true.1 h2 k hk
        exact memN_iff.1 this
      | succ p =>
        have hp' : l[p]? = some i := by simpa using hp
        obtain ⟨s1, s2⟩ := r2 p i hp'
        have hil : i ∈ l := List.mem_of_getElem? hp'
        refine ⟨fun q hq => ?_, fun k hk => ?_⟩
        · cases q with
          | zero => simp; intro e; subst e; exact r1 x hil (List.mem_cons_self ..)
          | succ q => simpa using s1 q (by omega)
        · rcases s2 k hk with e | ⟨q, q1, q2⟩
          · rcases List.mem_cons.1 e with rfl | e
            · exact .inr ⟨0, by omega, rfl⟩
            · exact .inl e
          · exact .inr ⟨q + 1, by omega, by simpa using q2⟩

/-! the steps -/
def deadH (n : Nat) : RH := { bl := List.replicate n none, n := n, base := n, ch := [] }
def maskH (an : List Nat) (s : RS) : RH := { bl := maskD an s.h.n s.ow s.h.bl, n := s.h.n, base := s.h.n, ch := [] }
def Wants (P : Program) (R : Rec) (ops : List Oper) (an : List Nat) (i : Nat) (o : Oper) (s s' : RS) (r : RV) : Prop :=
  (wantedD R.dec ops o s.a = some false ∧ r = ru ∧ s'.h = s.h ∧ s'.ow = s.ow ∧ s'.done = s.done) ∨
  (wantedD R.dec ops o s.a = some true ∧ (∃ h', evOp P R o s.a.eval (deadH s.h.n) = some (r, h') ∧ h'.n = s.h.n) ∧ s'.h = s.h ∧ s'.ow = s.ow ∧ s'.done = s.done) ∨
  (wantedD R.dec ops o s.a = some true ∧ ∃ h', evOp P R o s.a.eval (maskH an s) = some (r, h') ∧ s'.done = i :: s.done ∧
    ((h'.ch = [] ∧ r.flat2 = true ∧ s'.h = s.h ∧ s'.ow = s.ow) ∨ ((h'.ch ≠ [] → ∀ j ∈ s.done, j ∈ an) ∧ (h'.Sound ∧ s.h.n ≤ h'.n ∧ ∀ b ∈ h'.ch, b < s.h.n) ∧ s' = mergeD s i o.dst r h')))
theorem mergeIf_some {s s' : RS} {i : Nat} {d : Option Tmp} {r : RV} {h' : RH} (h : mergeIf s i d r h' = some s') : (h'.Sound ∧ s.h.n ≤ h'.n ∧ ∀ b ∈ h'.ch, b < s.h.n) ∧ s' = mergeD s i d r h' := by
  unfold mergeIf at h
  split at h
  · rename_i hm
    unfold mergeOk at hm
    simp only [Bool.and_eq_true] at hm
    obtain ⟨⟨h1, h2⟩, h3⟩ := hm
    exact ⟨⟨beq_iff.1 h1, Nat.le_of_ble_eq_true h2, allLt_iff h3⟩, by cases h; rfl⟩
  · cases h
theorem mergeD_a {s : RS} {i : Nat} {d : Option Tmp} {r : RV} {h' : RH} : (mergeD s i d r h').a = s.a.put d r := rfl
theorem stepD_fact {P : Program} {R : Rec} {ops : List Oper} {an : List Nat} {i : Nat} {o : Oper} {s s' : RS} (h : stepD P R ops an i o s = some s') : ∃ r, s'.a = s.a.put o.dst r ∧ Wants P R ops an i o s s' r := by
  unfold stepD at h
  split at h
  · cases h
  · rename_i hw
    cases h
    exact ⟨ru, rfl, .inl ⟨hw, rfl, rfl, rfl, rfl⟩⟩
  · rename_i hw
    split at h
    · unfold stepPure at h
      split at h
      · rename_i r h' he
        rw [forceRV_eq] at h
        unfold pureEnd at h
        split at h
        · rename_i hn
          cases h
          exact ⟨r, rfl, .inr (.inl ⟨hw, ⟨h', he, beq_iff.1 hn⟩, rfl, rfl, rfl⟩)⟩
        · cases h
      · cases h
    · unfold stepNon at h
      split at h
      · rename_i r h' he
        simp only [forceRV_eq, forceH_eq] at h
        unfold nonEnd at h
        split at h
        · rename_i hch
          split at h
          · rename_i hf
            cases h
            exact ⟨r, rfl, .inr (.inr ⟨hw, h', he, rfl, .inl ⟨hch, hf, rfl, rfl⟩⟩)⟩
          · obtain ⟨m1, rfl⟩ := mergeIf_some h
            exact ⟨r, rfl, .inr (.inr ⟨hw, h', he, rfl, .inr ⟨fun e => absurd hch e, m1, rfl⟩⟩)⟩
        · split at h
          · rename_i hall
            obtain ⟨m1, rfl⟩ := mergeIf_some h
            refine ⟨r, rfl, .inr (.inr ⟨hw, h', he, rfl, .inr ⟨fun _ j hj => ?_, m1, rfl⟩⟩)⟩
            exact memN_iff.1 (List.all_eq_true.1 hall j hj)
          · cases h
      · cases h

theorem maskD_len (an : List Nat) (n : Nat) : ∀ (ow : List (Nat × Nat)) (bl : List (Option RO)), (maskD an n ow bl).length = bl.length
  | [], bl => rfl
  | (b, w) :: ow, bl => by
    simp only [maskD]
    split
    · exact maskD_len an n ow bl
    · rw [maskD_len an n ow]; simp
theorem maskD_at {an : List Nat} {n x : Nat} {o : RO} : ∀ (ow : List (Nat × Nat)) (bl : List (Option RO)), (maskD an n ow bl)[x]? = some (some o) → bl[x]? = some (some o) ∧ ∀ b w, (b, w) ∈ ow → n - 1 - b = x → w ∈ an
  | [], bl, h => ⟨h, by simp⟩
  | (b, w) :: ow, bl, h => by
    simp only [maskD] at h
    split at h
    · rename_i hm
      obtain ⟨h1, h2⟩ := maskD_at ow bl h
      refine ⟨h1, fun b' w' hb e => ?_⟩
      rcases List.mem_cons.1 hb with q | q
      · cases q; exact memN_iff.1 hm
      · exact h2 b' w' q e
    · obtain ⟨h1, h2⟩ := maskD_at ow _ h
      have hne : n - 1 - b ≠ x := fun e => by
        rw [e] at h1
        rw [List.getElem?_set] at h1
        simp at h1
      refine ⟨by rwa [List.getElem?_set_ne hne] at h1, fun b' w' hb e => ?_⟩
      rcases List.mem_cons.1 hb with q | q
      · cases q; exact absurd e hne
      · exact h2 b' w' q e
theorem mask_at {an : List Nat} {s : RS} {k : Nat} {o : RO} (h : (maskH an s).at? k = some o) : s.h.at? k = some o ∧ ∀ w, (k, w) ∈ s.ow → w ∈ an := by
  have hlt : k < (maskH an s).n := at_some_lt h
  rw [at_lt (h := maskH an s) hlt] at h
  replace hlt : k < s.h.n := hlt
  have h' : (maskD an s.h.n s.ow s.h.bl)[s.h.n - 1 - k]? = some (some o) := by
    have : ((maskD an s.h.n s.ow s.h.bl)[s.h.n - 1 - k]?).join = some o := h
    cases hq : (maskD an s.h.n s.ow s.h.bl)[s.h.n - 1 - k]? with
    | none => rw [hq] at this; cases this
    | some y => rw [hq] at this; simp at this; rw [this]
  obtain ⟨h1, h2⟩ := maskD_at _ _ h'
  refine ⟨by rw [at_lt hlt, h1]; rfl, fun w hw => h2 k w hw rfl⟩

theorem copyAll_len (h' : RH) (n : Nat) : ∀ (bs : List Nat) (bl : List (Option RO)), (copyAll h' n bs bl).length = bl.length
  | [], _ => rfl
  | b :: bs, bl => by simp only [copyAll]; rw [copyAll_len h' n bs]; simp
theorem copyAll_at {h' : RH} {n k : Nat} (hk : k < n) : ∀ (bs : List Nat) (bl : List (Option RO)), (∀ b ∈ bs, b < n) → n - 1 - k < bl.length → (copyAll h' n bs bl)[n - 1 - k]? = if k ∈ bs then some (h'.at? k) else bl[n - 1 - k]?
  | [], bl, _, _ => by simp [copyAll]
  | b :: bs, bl, hb, hl => by
    simp only [copyAll]
    rw [copyAll_at hk bs _ (fun x hx => hb x (List.mem_cons_of_mem _ hx)) (by simpa using hl)]
    have hbn := hb b (List.mem_cons_self ..)
    by_cases h1 : k ∈ bs
    · simp [h1]
    · by_cases h2 : k = b
      · subst h2
        simp [h1, hl]
      · have hne : n - 1 - b ≠ n - 1 - k := by omega
        simp [h1, h2, hne]
theorem merge_at_new {s : RS} {i : Nat} {d : Option Tmp} {r : RV} {h' : RH} (hs : h'.Sound) (hn : s.h.n ≤ h'.n) {k : Nat} (hk : s.h.n ≤ k) : (mergeD s i d r h').h.at? k = h'.at? k := by
  by_cases hlt : k < h'.n
  · rw [at_lt (h := (mergeD s i d r h').h) hlt, at_lt hlt]
    show ((h'.bl.take (h'.n - s.h.n) ++ copyAll h' s.h.n h'.ch s.h.bl)[h'.n - 1 - k]?).join = _
    have hl : (h'.bl.take (h'.n - s.h.n)).length = h'.n - s.h.n := by rw [List.length_take, hs]; omega
    rw [List.getElem?_append_left (by omega), List.getElem?_take_of_lt (by omega)]
  · rw [at_ge (h := (mergeD s i d r h').h) hlt, at_ge hlt]
theorem merge_at_old {s : RS} {i : Nat} {d : Option Tmp} {r : RV} {h' : RH} (hs : h'.Sound) (hss : s.h.Sound) (hn : s.h.n ≤ h'.n) (hch : ∀ b ∈ h'.ch, b < s.h.n) {k : Nat} (hk : k < s.h.n) : (mergeD s i d r h').h.at? k = if k ∈ h'.ch then h'.at? k else s.h.at? k := by
  have hlt : k < h'.n := by omega
  rw [at_lt (h := (mergeD s i d r h').h) hlt]
  show ((h'.bl.take (h'.n - s.h.n) ++ copyAll h' s.h.n h'.ch s.h.bl)[h'.n - 1 - k]?).join = _
  have hl : (h'.bl.take (h'.n - s.h.n)).length = h'.n - s.h.n := by rw [List.length_take, hs]; omega
  rw [List.getElem?_append_right (by omega), hl, show h'.n - 1 - k - (h'.n - s.h.n) = s.h.n - 1 - k by omega, copyAll_at hk _ _ hch (by rw [hss]; omega), at_lt hk]
  split <;> rfl
theorem merge_sound {s : RS} {i : Nat} {d : Option Tmp} {r : RV} {h' : RH} (hs : h'.Sound) (hss : s.h.Sound) (hn : s.h.n ≤ h'.n) : (mergeD s i d r h').h.Sound := by
  show (h'.bl.take (h'.n - s.h.n) ++ copyAll h' s.h.n h'.ch s.h.bl).length = h'.n
  rw [List.length_append, copyAll_len, List.length_take, hs, hss]
  omega
theorem mem_owners {i k w : Nat} : ∀ {c k0 : Nat} {ow : List (Nat × Nat)}, (k, w) ∈ owners i k0 c ow ↔ (k, w) ∈ ow ∨ (w = i ∧ k0 ≤ k ∧ k < k0 + c)
  | 0, k0, ow => by simp [owners]; omega
  | c + 1, k0, ow => by
    simp only [owners, List.mem_cons, Prod.mk.injEq, mem_owners (c := c)]
    constructor
    · rintro (⟨rfl, rfl⟩ | h | ⟨rfl, h1, h2⟩)
      · exact .inr ⟨rfl, by omega, by omega⟩
      · exact .inl h
      · exact .inr ⟨rfl, by omega, by omega⟩
    · rintro (h | ⟨rfl, h1, h2⟩)
      · exact .inr (.inl h)
      · by_cases e : k = k0
        · exact .inl ⟨e, rfl⟩
        · exact .inr (.inr ⟨rfl, by omega, by omega⟩)
theorem mem_ownAll {i k w : Nat} : ∀ {bs : List Nat} {ow : List (Nat × Nat)}, (k, w) ∈ ownAll i bs ow ↔ (k, w) ∈ ow ∨ (w = i ∧ k ∈ bs)
  | [], ow => by simp [ownAll]
  | b :: bs, ow => by
    simp only [ownAll, List.mem_cons, Prod.mk.injEq, mem_ownAll (bs := bs)]
    constructor
    · rintro (⟨rfl, rfl⟩ | h | ⟨rfl, h⟩)
      · exact .inr ⟨rfl, .inl rfl⟩
      · exact .inl h
      · exact .inr ⟨rfl, .inr h⟩
    · rintro (h | ⟨rfl, rfl | h⟩)
      · exact .inr (.inl h)
      · exact .inl ⟨rfl, rfl⟩
      · exact .inr (.inr ⟨rfl, h⟩)
end Go.Proofs.Ytmglofemnobakaa
