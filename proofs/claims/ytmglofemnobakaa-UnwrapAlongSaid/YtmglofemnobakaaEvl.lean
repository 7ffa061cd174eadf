/- Calls reckoned: what is reckoned is what the model does. -/
import Derived.Test.YtmglofemnobakaaEvk
namespace Go.Proofs.Ytmglofemnobakaa
open Go.RowKit

/-- the loop's end, where it goes round again -/
def InLoop (F : Fence) (n : Nat) (P : Program) (c : Code) (Q : Exit → Act → World → Prop) (a : Act) (w : World) : Prop :=
  ∀ (b : Frame) (k : List Item) (cs : List Frame), b.roundOf = F.round → F.fn b.fn → F.room (cs.length + 1 + n) →
    ∃ e a' w', Q e a' w' ∧ ArrivesIn (Machine.fenced P F) P (lone (b.atR a (.inLoop c :: k)) cs w) b k cs e a' w'
/-- one more round, from either place -/
theorem round_arrives {F : Fence} {n : Nat} {P : Program} {c : Code} {Q : Exit → Act → World → Prop} {a : Act} {w : World} (h : c.wpIn F n P (Exit.then (InLoop F n P c Q) Q) a w)
    {b : Frame} {k : List Item} {cs : List Frame} (hro : b.roundOf = F.round) (hb : F.fn b.fn) (hr : F.room (cs.length + 1 + n)) :
    ∃ e a' w', Q e a' w' ∧ ArrivesIn (Machine.fenced P F) P (lone (b.atR a (.code c :: .inLoop c :: k)) cs w) b k cs e a' w' := by
  obtain ⟨e, a₁, w₁, hq, harr⟩ := h b (.inLoop c :: k) cs hro hb hr
  cases e with
  | normal =>
    obtain ⟨e₂, a₂, w₂, hq₂, harr₂⟩ := hq b k cs hro hb hr
    exact ⟨e₂, a₂, w₂, hq₂, .of_steps harr harr₂⟩
  | exit id => exact ⟨_, a₁, w₁, hq, .pass (x := .inLoop c) rfl (fun _ _ => .inl (by simp)) harr⟩
  | goto l => exact ⟨_, a₁, w₁, hq, .pass (x := .inLoop c) rfl (fun _ _ => .inl (by simp)) harr⟩
  | ret => exact ⟨_, a₁, w₁, hq, .pass (x := .inLoop c) rfl (fun _ _ => .inl (by simp)) harr⟩
  | panic ch => exact ⟨_, a₁, w₁, hq, .pass (x := .inLoop c) rfl (fun _ _ => .inl (by simp)) harr⟩
  | outgrown => exact ⟨_, a₁, w₁, hq, .pass (x := .inLoop c) rfl (fun _ _ => .inl (by simp)) harr⟩
theorem loop_wp {F : Fence} {n : Nat} {P : Program} {c : Code} {Q : Exit → Act → World → Prop} {a : Act} {w : World} (h : c.wpIn F n P (Exit.then (InLoop F n P c Q) Q) a w) : (Code.loop c).wpIn F n P Q a w := by
  intro b k cs hro hb hr
  obtain ⟨e, a', w', hq, harr⟩ := round_arrives h hro hb hr (k := k)
  exact ⟨e, a', w', hq, .of_steps (.one (fenced_calm hb hr rfl) stepR_loop) harr⟩
theorem inLoop_wp {F : Fence} {n : Nat} {P : Program} {c : Code} {Q : Exit → Act → World → Prop} {a : Act} {w : World} (h : c.wpIn F n P (Exit.then (InLoop F n P c Q) Q) a w) : InLoop F n P c Q a w := by
  intro b k cs hro hb hr
  obtain ⟨e, a', w', hq, harr⟩ := round_arrives h hro hb hr (k := k)
  exact ⟨e, a', w', hq, .of_steps (.one (fenced_calm hb hr rfl) stepR_inLoop) harr⟩

structure AllOk [Rho] (P : Program) (R : Rec) : Prop extends RecOk P R where
  again : ∀ ro c a h e a' h', R.code ro (.loop c) a h = some (e, a', h') → ∀ (V : Nat → Prop) (m g : Nat → Nat) (A : Act) (W : World) (n : Nat) (Q : Exit → Act → World → Prop), RepA V m g a A → RepW P V m g h W → (∀ l, ro = some l → V l) →
    (∀ m' g' A' W', Ext m g h W m' g' h' W' → RepA (VX V h h') m' g' a' A' → RepW P (VX V h h') m' g' h' W' → Q e A' W') → InLoop (fen (ro.map m)) n P c Q A W

section
variable {P : Program} {R : Rec} {V : Nat → Prop} {m g : Nat → Nat} {h h' : RH} {w w' : World} {ro : Option Nat} {n : Nat} {a a' : RA} {A : Act} {e : Exit} {Q : Exit → Act → World → Prop}

theorem trL_trace {ops : List Oper} {B : List (List Nat)} : ∀ (l : List Nat) (s s' : RS), trL P R ops B l s = some s' → ∃ T : Nat → RS, T 0 = s ∧ T l.length = s' ∧ ∀ (p : Nat) i, l[p]? = some i → ∃ o, ops[i]? = some o ∧ stepD P R ops ((B[i]?).getD []) i o (T p) = some (T (p + 1))
  | [], s, s', h => ⟨fun _ => s, rfl, by simpa [trL] using h, fun p i hp => by simp at hp⟩
  | x :: l, s, s', h => by
    simp only [trL] at h
    cases ho : ops[x]? with
    | none => rw [ho] at h; cases h
    | some o =>
      rw [ho] at h
      simp only at h
      cases hs : stepD P R ops ((B[x]?).getD []) x o s with
      | none => rw [hs] at h; cases h
      | some s1 =>
        rw [hs] at h
        obtain ⟨T, t1, t2, t3⟩ := trL_trace l s1 s' h
        refine ⟨fun p => match p with | 0 => s | p + 1 => T p, rfl, t2, fun p i hp => ?_⟩
        cases p with
        | zero => simp at hp; subst hp; exact ⟨o, ho, by show stepD _ _ _ _ _ _ s = some (T 0); rw [t1]; exact hs⟩
        | succ p => exact t3 p i (by simpa using hp)
theorem draw_ok [Rho] (hm : P.follows .mixedOrders = true) (hR : RecOk P R) {id : Nat} {ops : Array Oper} (he : drawD P R ops.toList a h = some (a', h')) (ha : RepA V m g a A) (hw : RepW P V m g h w)
    (hq : ∀ m' g' A' W', Ext m g h w m' g' h' W' → RepA (VX V h h') m' g' a' A' → RepW P (VX V h h') m' g' h' W' → Q .normal A' W') : (Code.region id ops true).wpIn (fen ro) n P Q A w := by
  unfold drawD drawE at he
  split at he
  · rename_i hg
    unfold goodRegion at hg
    simp only [Bool.and_eq_true] at hg
    obtain ⟨⟨g1, g2⟩, g3⟩ := hg
    cases ht : trL P R ops.toList (ancs ops.toList) (order ops.toList (ancs ops.toList)) { a := a, h := h, ow := [], done := [] } with
    | none => rw [ht] at he; cases he
    | some s =>
      rw [ht] at he
      simp only [Option.map_some, Option.some.injEq, Prod.mk.injEq] at he
      obtain ⟨rfl, rfl⟩ := he
      obtain ⟨T, t1, t2, t3⟩ := trL_trace _ _ _ ht
      have o1 := (goodOrder_ok _ _ g2).2
      have H : Reg P R ops (order ops.toList (ancs ops.toList)) T := by
        refine ⟨fun p i hp => ?_, fun i o ho j hj => ?_, fun i o j p ho hp d hd => ?_, fun p i hp => ⟨(o1 p i hp).1, fun k hk => ?_⟩, fun i hi => ?_, by rw [t1], by rw [t1], by rw [t1]; exact hw.sound, by rw [t1]; exact ha.1.1⟩
        · obtain ⟨o, x1, x2⟩ := t3 p i hp
          obtain ⟨r, y1, y2⟩ := stepD_fact x2
          exact ⟨o, r, by rw [← Array.getElem?_toList]; exact x1, y1, y2⟩
        · have := (goodL_ok _ _ _ g1 i o (by rw [Array.getElem?_toList]; exact ho)).1 j hj
          omega
        · have := (goodL_ok _ _ _ g1 i o (by rw [Array.getElem?_toList]; exact ho)).2 j p (by rw [Array.getElem?_toList]; exact hp)
          have := goodPair_ok this d hd
          simpa using this
        · rcases (o1 p i hp).2 k hk with e | e
          · cases e
          · exact e
        · have := List.all_eq_true.1 g3 i (List.mem_range.2 (by simpa using hi))
          exact List.mem_iff_getElem?.1 (memN_iff.1 this)
      refine wpIn_region_any hm ?_
      have hw' : RepW P V m g (T 0).h { w with drawn := w.drawn + 1 } := by rw [t1]; exact hw.still (fun _ _ => rfl)
      have ha' : RepA V m g (T 0).a A := by rw [t1]; exact ha
      refine any_ok (n := n) (ro := ro) hR H (V0 := V) (m0 := m) (g0 := g) (W0 := { w with drawn := w.drawn + 1 }) (A0 := A) ?_ ops.size _ V m g A _ (inv_start H ha' hw') ?_
      · intro L V1 m1 g1 A1 W1 hI hall
        obtain ⟨x1, x2, x3⟩ := inv_end H hI hall ha'
        rw [t1, t2] at x1 x2 x3
        have x0 : Ext m g h w m g h { w with drawn := w.drawn + 1 } := Ext.still (Nat.le_refl _) rfl rfl rfl (fun _ _ => rfl)
        exact hq m1 g1 A1 W1 (x0.trans x1) x2 x3
      · unfold unl
        have : ((List.range ops.size).countP fun i => !((Array.replicate ops.size false).getD i false)) = (List.range ops.size).length := by
          rw [List.countP_eq_length]
          intro i _
          have := lst_none (i := i) (N := ops.size)
          unfold Lst at this
          simpa using this
        rw [this]
        simp
  · cases he

theorem jumpD_ok {id : Nat} {A' : Act} {W' : World} (hq : Q (jumpD id e) A' W') : Exit.inBlock id Q e A' W' := by
  unfold jumpD at hq
  split at hq
  · rename_i j
    simp only [Exit.inBlock]
    split at hq
    · rename_i hb
      rw [if_pos (beq_iff.1 hb)]
      exact hq
    · rename_i hb
      rw [if_neg (fun e => by rw [beq_iff.2 e] at hb; cases hb)]
      exact hq
  · rename_i hne
    cases e <;> first | exact hq | exact absurd rfl (hne _)
theorem then_ok {K : Act → World → Prop} {A' : Act} {W' : World} (h1 : e = .normal → K A' W') (h2 : e ≠ .normal → Q e A' W') : Exit.then K Q e A' W' := by
  cases e <;> first | exact h1 rfl | exact h2 (by simp)
/-- a part of the code, then what comes behind it -/
theorem seq_ok [Rho] (hR : RecOk P R) {x : Code} {K : Act → World → Prop} {y : Code} (he : codeSeq R ro y (R.code ro x a h) = some (e, a', h')) (ha : RepA V m g a A) (hw : RepW P V m g h w) (hro : ∀ l, ro = some l → V l)
    (hK : ∀ a1 h1, R.code ro y a1 h1 = some (e, a', h') → ∀ m1 g1 A1 W1, Ext m g h w m1 g1 h1 W1 → RepA (VX V h h1) m1 g1 a1 A1 → RepW P (VX V h h1) m1 g1 h1 W1 → K A1 W1)
    (hq : ∀ m' g' A' W', Ext m g h w m' g' h' W' → RepA (VX V h h') m' g' a' A' → RepW P (VX V h h') m' g' h' W' → Q e A' W') : x.wpIn (fen (ro.map m)) n P (Exit.then K Q) A w := by
  unfold codeSeq at he
  split at he
  · rename_i a1 h1 hx
    exact hR.code ro x a h _ a1 h1 hx V m g A w n _ ha hw hro (fun m1 g1 A1 W1 x1 x2 x3 => hK a1 h1 he m1 g1 A1 W1 x1 x2 x3)
  · rename_i hne
    refine hR.code ro x a h e a' h' he V m g A w n _ ha hw hro (fun m1 g1 A1 W1 x1 x2 x3 => then_ok (fun e0 => ?_) (fun _ => hq m1 g1 A1 W1 x1 x2 x3))
    subst e0
    exact absurd he (hne a' h')
theorem round_map {m1 : Nat → Nat} (hro : ∀ l, ro = some l → V l) (hl : ∀ k, V k → m1 k = m k) : ro.map m1 = ro.map m := by
  cases ro with
  | none => rfl
  | some l => simp [hl l (hro l rfl)]
end
end Go.Proofs.Ytmglofemnobakaa
