/- Code with loops, reckoned piece by piece: up to the next loop; a loop by what holds ahead of each of its rounds. -/
import Derived.Test.YtmglofemnobakaaEvs
namespace Go.Proofs.Ytmglofemnobakaa
open Go.RowKit

/-- code whose loops are left to others -/
inductive XC where
  | code (c : Code)
  | seq (x y : XC)
  | cond (c : Operand) (t e : XC)
  | block (id : Nat) (x : XC)
  | cut (c : Code)
def XC.erase : XC → Code
  | .code c => c
  | .seq x y => .seq x.erase y.erase
  | .cond c t e => .cond c t.erase e.erase
  | .block id x => .block id x.erase
  | .cut c => .loop c
def xc : Code → XC
  | .seq x y => .seq (xc x) (xc y)
  | .cond c t e => .cond c (xc t) (xc e)
  | .block id x => .block id (xc x)
  | .loop x => .cut x
  | c => .code c
theorem xc_erase : ∀ c : Code, (xc c).erase = c := by
  intro c
  induction c <;> simp only [xc, XC.erase, *]

inductive Fr where
  | seq (y : XC)
  | block (id : Nat)
inductive Res where
  | fin (e : Exit) (a : RA) (h : RH)
  | loop (c : Code) (k : List Fr) (a : RA) (h : RH)
  | no
noncomputable def runX (R : Rec) : Nat → List Bool → XC ⊕ Exit → List Fr → RA → RH → Res
  | 0, _, _, _, _, _ => .no
  | .succ n, fl, .inl x, k, a, h =>
    match x with
    | .code c => match R.code none c a h with | some (e, a', h') => runX R n fl (.inr e) k a' h' | none => .no
    | .seq x y => runX R n fl (.inl x) (.seq y :: k) a h
    | .cond c t e =>
      match a.eval c with
      | .pl (.bool true) => runX R n fl (.inl t) k a h
      | .pl (.bool false) => runX R n fl (.inl e) k a h
      | .sb b => match askD R.dec b with | some true => runX R n fl (.inl t) k a h | some false => runX R n fl (.inl e) k a h | none => .no
      | _ => .no
    | .block id x => runX R n fl (.inl x) (.block id :: k) a h
    | .cut c =>
      match fl with
      | true :: fl => match R.code none (.loop c) a h with | some (e, a', h') => runX R n fl (.inr e) k a' h' | none => .no
      | _ => .loop c k a h
  | .succ n, fl, .inr e, k, a, h =>
    match k with
    | [] => .fin e a h
    | .seq y :: k => match e with | .normal => runX R n fl (.inl y) k a h | e => runX R n fl (.inr e) k a h
    | .block id :: k => runX R n fl (.inr (jumpD id e)) k a h

/-- what is known, beside the world at the start -/
def St [Rho] (P : Program) (W0 : World) (a : RA) (h : RH) (A : Act) (W : World) : Prop :=
  ∃ (V : Nat → Prop) (m g : Nat → Nat), RepA V m g a A ∧ RepW P V m g h W ∧ Below Rho.fb W0 W

section
variable {P : Program} {R : Rec} {V : Nat → Prop} {m g m' g' : Nat → Nat} {h h' : RH} {W0 w w' W W' : World} {n : Nat} {a a' : RA} {A : Act} {e : Exit} {Q : Exit → Act → World → Prop} {r : RV}

def Unw (P : Program) (n : Nat) (Q : Exit → Act → World → Prop) : List Fr → Exit → Act → World → Prop
  | [] => Q
  | .seq y :: k => Exit.then (y.erase.wpIn (fen none) n P (Unw P n Q k)) (Unw P n Q k)
  | .block id :: k => Exit.inBlock id (Unw P n Q k)
def ResOk [Rho] (P : Program) (n : Nat) (Q : Exit → Act → World → Prop) (W0 : World) : Res → Prop
  | .fin e a h => ∀ A W, St P W0 a h A W → Q e A W
  | .loop c k a h => ∀ A W, St P W0 a h A W → (Code.loop c).wpIn (fen none) n P (Unw P n Q k) A W
  | .no => False
theorem ext_below [Rho] (hw : RepW P V m g h w) (he : Ext m g h w m' g' h' w') : Below Rho.fb w w' :=
  ⟨he.os, he.tape, he.output, he.size, fun B hB => he.frame B (Nat.lt_of_lt_of_le hB hw.far.size) fun j hj e => by
    cases hq : h.at? j with
    | none => exact hj.2.2 hq
    | some o =>
      have := hw.low j (hw.live j o hq).1
      omega⟩
theorem st_code [Rho] (hR : AllOk P R) {c : Code} (hc : R.code none c a h = some (e, a', h')) (hs : St P W0 a h A W) (hq : ∀ A' W', St P W0 a' h' A' W' → Q e A' W') : c.wpIn (fen none) n P Q A W := by
  obtain ⟨V, m, g, ha, hw, hb⟩ := hs
  exact hR.code none c a h e a' h' hc V m g A W n Q ha hw (fun l hl => by cases hl) fun m' g' A' W' x1 x2 x3 => hq A' W' ⟨_, _, _, x2, x3, hb.trans (ext_below hw x1)⟩
theorem runX_ok [Rho] (hR : AllOk P R) : ∀ (N : Nat) (fl : List Bool) (s : XC ⊕ Exit) (k : List Fr) (a : RA) (h : RH) (A : Act) (W : World), St P W0 a h A W → ResOk P n Q W0 (runX R N fl s k a h) →
    match s with
    | .inl x => x.erase.wpIn (fen none) n P (Unw P n Q k) A W
    | .inr e => Unw P n Q k e A W
  | 0, fl, s, k, a, h, A, W, hs, hr => by simp only [runX, ResOk] at hr
  | N + 1, fl, .inl x, k, a, h, A, W, hs, hr => by
    cases x with
    | code c =>
      simp only [runX] at hr
      split at hr
      · rename_i e a' h' hc
        exact st_code hR hc hs fun A' W' hs' => runX_ok hR N fl (.inr e) k a' h' A' W' hs' hr
      · exact hr.elim
    | seq x y =>
      simp only [runX] at hr
      exact wpIn_seq (runX_ok hR N fl (.inl x) (.seq y :: k) a h A W hs hr)
    | cond c t e =>
      simp only [runX] at hr
      obtain ⟨V, m, g, ha, hw, hb⟩ := hs
      have hc := repA_eval ha c
      have hs : St P W0 a h A W := ⟨V, m, g, ha, hw, hb⟩
      split at hr
      · rename_i hx
        rw [hx] at hc
        simp only [Rep] at hc
        exact wpIn_cond_true hc (runX_ok hR N fl (.inl t) k a h A W hs hr)
      · rename_i hx
        rw [hx] at hc
        simp only [Rep] at hc
        exact wpIn_cond_false hc (runX_ok hR N fl (.inl e) k a h A W hs hr)
      · rename_i b hx
        rw [hx] at hc
        simp only [Rep] at hc
        split at hr
        · rename_i hb
          rw [askD_ok hR.dec _ _ hb] at hc
          exact wpIn_cond_true hc (runX_ok hR N fl (.inl t) k a h A W hs hr)
        · rename_i hb
          rw [askD_ok hR.dec _ _ hb] at hc
          exact wpIn_cond_false hc (runX_ok hR N fl (.inl e) k a h A W hs hr)
        · exact hr.elim
      · exact hr.elim
    | block id x =>
      simp only [runX] at hr
      exact wpIn_block (runX_ok hR N fl (.inl x) (.block id :: k) a h A W hs hr)
    | cut c =>
      simp only [runX] at hr
      split at hr
      · rename_i fl'
        split at hr
        · rename_i e a' h' hc
          exact st_code hR hc hs fun A' W' hs' => runX_ok hR N fl' (.inr e) k a' h' A' W' hs' hr
        · exact hr.elim
      · exact hr A W hs
  | N + 1, fl, .inr e, [], a, h, A, W, hs, hr => by
    simp only [runX] at hr
    exact hr A W hs
  | N + 1, fl, .inr e, .seq y :: k, a, h, A, W, hs, hr => by
    simp only [runX] at hr
    show Exit.then _ _ e A W
    refine then_ok (fun e0 => ?_) (fun e0 => ?_)
    · subst e0
      exact runX_ok hR N fl (.inl y) k a h A W hs hr
    · split at hr
      · exact absurd rfl e0
      · exact runX_ok hR N fl (.inr e) k a h A W hs hr
  | N + 1, fl, .inr e, .block id :: k, a, h, A, W, hs, hr => by
    simp only [runX] at hr
    show Exit.inBlock id _ e A W
    exact jumpD_ok (runX_ok hR N fl (.inr (jumpD id e)) k a h A W hs hr)
theorem run_ok [Rho] (hR : AllOk P R) {c : Code} (N : Nat) (fl : List Bool) (hs : St P W0 a h A W) (hr : ResOk P n Q W0 (runX R N fl (.inl (xc c)) [] a h)) : c.wpIn (fen none) n P Q A W := by
  have := runX_ok hR N fl (.inl (xc c)) [] a h A W hs hr
  simp only [xc_erase] at this
  exact this
/-- behind a loop -/
theorem back_ok [Rho] (hR : AllOk P R) {k : List Fr} (N : Nat) (fl : List Bool) (hs : St P W0 a h A W) (hr : ResOk P n Q W0 (runX R N fl (.inr e) k a h)) : Unw P n Q k e A W :=
  runX_ok hR N fl (.inr e) k a h A W hs hr

/-- a loop: what holds ahead of each round -/
theorem loop_ok {c : Code} {a : RA} {h : RH} (Inv : Rho → Prop) (μ : Rho → Nat)
    (round : ∀ ρ, Inv ρ → ∀ A W, @St ρ P W0 a h A W → c.wpIn (fen none) n P (fun e A' W' => match e with | .normal => ∃ ρ', Inv ρ' ∧ μ ρ' < μ ρ ∧ @St ρ' P W0 a h A' W' | e => Q e A' W') A W) :
    ∀ ρ, Inv ρ → ∀ A W, @St ρ P W0 a h A W → (Code.loop c).wpIn (fen none) n P Q A W := by
  have inl : ∀ (k : Nat) ρ, μ ρ < k → Inv ρ → ∀ A W, @St ρ P W0 a h A W → c.wpIn (fen none) n P (Exit.then (InLoop (fen none) n P c Q) Q) A W := by
    intro k
    induction k with
    | zero => intro ρ hk; omega
    | succ k ih =>
      intro ρ hk hI A W hs
      refine wpIn_mono (round ρ hI A W hs) fun e A' W' hq => ?_
      cases e with
      | normal =>
        obtain ⟨ρ', h1, h2, h3⟩ := hq
        exact inLoop_wp (ih ρ' (by omega) h1 A' W' h3)
      | exit id => exact hq
      | goto l => exact hq
      | ret => exact hq
      | panic ch => exact hq
      | outgrown => exact hq
  exact fun ρ hI A W hs => loop_wp (inl (μ ρ + 1) ρ (by omega) hI A W hs)

/-! a call -/
theorem calls_run [Rho] {k : Nat} {fn : Func} {c : Code} {args : List RV} {xs : Array Value} {Rr : Ending → World → Prop} (hf : P.funcs[k]? = some fn) (hb : fn.body = some c) (hl : Nat.ble args.length fn.ntmps = true) (hx : RepL (fun _ => False) (fun _ => 0) (fun _ => 0) args xs.toList) (hfar : Far W0)
    (hq : ∀ A, St P W0 (startA fn.ntmps args) h0 A W0 → c.wpIn (fen none) 0 P (bodyPostM (fen none) 0 P fn Rr) A W0) : Calls P k xs W0 Rr := by
  refine (callsIn_wide (n := 0)).1 (callsIn_of_wp_marks hf hb trivial ?_ rfl)
  exact hq _ ⟨_, _, _, start_ok hx (Nat.le_of_ble_eq_true hl), world_none hfar, Below.refl _ _⟩
theorem leave_run [Rho] {fn : Func} {rs : List ResultVar} {Rr : Ending → World → Prop} (hrs : rs = fn.results.toList) (he : leaveD P rs a h = some (r, h')) (hs : St P W0 a h A W)
    (hk : ∀ V m g v W', Rep V m g r v → RepW P V m g h' W' → Below Rho.fb W0 W' → Rr (.returned v) W') : LeavesInM (fen none) n P fn A.tmps Rr A.defers .returning W := by
  subst hrs
  obtain ⟨V, m, g, ha, hw, hb⟩ := hs
  unfold leaveD at he
  split at he
  · rename_i h2 ht
    cases hr : resultsD P a h2 fn.results.toList with
    | none => rw [hr] at he; cases he
    | some rs =>
      rw [hr] at he
      simp only [Option.map_some, Option.some.injEq, Prod.mk.injEq] at he
      obtain ⟨rfl, rfl⟩ := he
      rw [ha.2.1]
      refine take_ok (A := A) (rs := rs) a.dfs h h2 m g V W ht hw ha.2.2 ?_
      intro w' x1 x2 x3
      obtain ⟨v, y1, y2⟩ := results_ok (A := A) hr ha.1 x2
      exact ⟨v, y1, hk V m g v w' y2 x2 (hb.trans (ext_below hw x1))⟩
  · cases he
/-- the call's end -/
theorem fin_ok [Rho] {fn : Func} {Rr : Ending → World → Prop} (he : leaveE P fn.results.toList (some (e, a, h)) = some (r, h')) (hk : ∀ V m g v W', Rep V m g r v → RepW P V m g h' W' → Below Rho.fb W0 W' → Rr (.returned v) W') :
    ∀ A W, St P W0 a h A W → bodyPostM (fen none) n P fn Rr e A W := by
  intro A W hs
  unfold leaveE at he
  split at he
  · rename_i a1 h1 hc
    cases hc
    exact leave_run rfl he hs hk
  · rename_i a1 h1 hc
    cases hc
    exact leave_run rfl he hs hk
  · cases he
end
end Go.Proofs.Ytmglofemnobakaa
