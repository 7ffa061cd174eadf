/- Calls and loops reckoned by names: what a text asks. -/
import Derived.Test.YtmglofemnobakaaSyv
import Derived.Test.YtmglofemnobakaaGen
namespace Go.Proofs.Ytmglofemnobakaa
open Go.RowKit

def fnD (P : Program) (k : Nat) : Func := match P.funcs[k]? with | some fn => fn | none => default
def bodyC (P : Program) (k : Nat) : Code := match (fnD P k).body with | some c => c | none => .skip
def fnOk (P : Program) (k n : Nat) : Bool := match P.funcs[k]? with | some fn => fn.body.isSome && Nat.ble n fn.ntmps | none => false
/-- a call up to its first loop, or to its end -/
noncomputable def startR (P : Program) (K : Know) (D : SE → Option Bool) (k : Nat) (fl : List Bool) (args : List RV) : Res := runX (evKD P K D 3000) 3000 fl (.inl (xc (bodyC P k))) [] (startA (fnD P k).ntmps args) h0
/-- code, and what comes behind a loop -/
noncomputable def codeR (P : Program) (K : Know) (D : SE → Option Bool) (fl : List Bool) (c : Code) (a : RA) (h : RH) : Res := runX (evKD P K D 3000) 3000 fl (.inl (xc c)) [] a h
noncomputable def backR (P : Program) (K : Know) (D : SE → Option Bool) (fl : List Bool) (e : Exit) (k : List Fr) (a : RA) (h : RH) : Res := runX (evKD P K D 3000) 3000 fl (.inr e) k a h
/-- facts, and nothing else -/
def facD (l : List (SE × Bool)) : SE → Option Bool := lookF noD l
theorem facD_ok [Rho] {l : List (SE × Bool)} (h : Facts l) : DOk (facD l) := lookF_ok noD_ok h
def noK : Know := fun _ _ _ => none
theorem noK_ok [Rho] {P : Program} : KOk P noK := fun _ _ _ _ _ h => by cases h

def Res.isLoop : Res → Bool
  | .loop _ _ _ _ => true
  | _ => false
def Res.a : Res → RA
  | .loop _ _ a _ => a
  | .fin _ a _ => a
  | .no => { tmps := [], sz := 0, dfs := [] }
def Res.h : Res → RH
  | .loop _ _ _ h => h
  | .fin _ _ h => h
  | .no => h0
def Res.c : Res → Code
  | .loop c _ _ _ => c
  | _ => .skip
def Res.k : Res → List Fr
  | .loop _ k _ _ => k
  | _ => []
/-- slots put in -/
noncomputable def putL : List (Nat × RV) → RA → RA
  | [], a => a
  | (t, r) :: l, a => putL l (a.set t r)
noncomputable def finD (P : Program) (k : Nat) : Res → Option RV
  | .fin e a h => match leaveE P (fnD P k).results.toList (some (e, a, h)) with | some (r, _) => some r | none => none
  | _ => none
/-- where a round ends; none: not as it should be -/
def contD : Res → Bool
  | .fin .normal _ _ => true
  | _ => false
/-- which exit -/
def exitD : Res → Nat
  | .fin .normal _ _ => 1
  | .fin .ret _ _ => 2
  | .fin (.exit k) _ _ => 3 + k
  | _ => 0
def exitOf : Res → Exit
  | .fin e _ _ => e
  | _ => .outgrown

/-- a round: again, or out of the loop and on -/
inductive Rnd where
  | again (a : RA) (h : RH)
  | out (r : Res)
noncomputable def roundR (P : Program) (K : Know) (D : SE → Option Bool) (fl : List Bool) (c : Code) (k : List Fr) (a : RA) (h : RH) : Rnd :=
  match codeR P K D fl c a h with
  | .fin .normal a h => .again a h
  | .fin e a h => .out (backR P K D fl e k a h)
  | _ => .out .no
/-- what is left to show ahead of the next round -/
def againD (B : Nat) (a' : RA) (h' : RH) : Rnd → Option (List Du)
  | .again a h => cvS B a h a' h'
  | .out _ => none
def outR : Rnd → Res
  | .again _ _ => .no
  | .out r => r
/-- the loop at which a piece stops: what is left to show ahead of its first round -/
def enterD (B : Nat) (a' : RA) (h' : RH) : Res → Option (List Du)
  | .loop _ _ a h => cvS B a h a' h'
  | _ => none
/-- the i-th loop of the code -/
def loopsX : XC → List Code
  | .code _ => []
  | .seq x y => loopsX x ++ loopsX y
  | .cond _ t e => loopsX t ++ loopsX e
  | .block _ x => loopsX x
  | .cut c => [c]
def loopIn (c : Code) (i : Nat) : Code := ((loopsX (xc c))[i]?).getD .skip
mutual
/-- the value that is meant -/
def RV.den [Rho] : RV → Option Value
  | .pl v => some v
  | .si k e => some (.int k e.ev.i)
  | .sb e => some (.bool e.ev.b)
  | .agg l => match RV.denL l with | some vs => some (.agg vs.toArray) | none => none
  | .tup l => match RV.denL l with | some vs => some (.tuple vs.toArray) | none => none
  | _ => none
def RV.denL [Rho] : List RV → Option (List Value)
  | [] => some []
  | r :: rs => match RV.den r, RV.denL rs with | some v, some vs => some (v :: vs) | _, _ => none
end
section
variable {V : Nat → Prop} {m g : Nat → Nat}
mutual
theorem rep_den [Rho] : ∀ (r : RV) (v x : Value), r.den = some v → Rep V m g r x → x = v
  | .pl v, w, x, h, hr => by simp only [RV.den, Option.some.injEq] at h; subst h; simpa [Rep] using hr
  | .si k e, w, x, h, hr => by simp only [RV.den, Option.some.injEq] at h; subst h; simpa only [Rep] using hr
  | .sb e, w, x, h, hr => by simp only [RV.den, Option.some.injEq] at h; subst h; simpa only [Rep] using hr
  | .agg l, w, x, h, hr => by
    simp only [RV.den] at h
    simp only [Rep] at hr
    obtain ⟨a, rfl, h2⟩ := hr
    split at h
    · rename_i vs hl
      cases h
      rw [← repL_den l vs _ hl h2]
    · cases h
  | .tup l, w, x, h, hr => by
    simp only [RV.den] at h
    simp only [Rep] at hr
    obtain ⟨a, rfl, h2⟩ := hr
    split at h
    · rename_i vs hl
      cases h
      rw [← repL_den l vs _ hl h2]
    · cases h
  | .unk, w, x, h, hr => by simp [RV.den] at h
  | .ptr _ _, w, x, h, hr => by simp [RV.den] at h
  | .slc _ _ _ _, w, x, h, hr => by simp [RV.den] at h
  | .fn _ _ _, w, x, h, hr => by simp [RV.den] at h
  | .yld _, w, x, h, hr => by simp [RV.den] at h
  | .fsl _ _ _ _, w, x, h, hr => by simp [RV.den] at h
  | .fpt _ _ _, w, x, h, hr => by simp [RV.den] at h
  | .osl _ _ _, w, x, h, hr => by simp [RV.den] at h
  | .opt _ _ _ _, w, x, h, hr => by simp [RV.den] at h
  | .mp _, w, x, h, hr => by simp [RV.den] at h
theorem repL_den [Rho] : ∀ (l : List RV) (vs xs : List Value), RV.denL l = some vs → RepL V m g l xs → xs = vs
  | [], vs, xs, h, hr => by
    simp only [RV.denL, Option.some.injEq] at h
    rw [repL_nil.1 hr, ← h]
  | r :: rs, vs, xs, h, hr => by
    obtain ⟨v, ws, rfl, h1, h2⟩ := repL_cons.1 hr
    simp only [RV.denL] at h
    split at h
    · rename_i v' vs' hp hq
      cases h
      rw [rep_den r v' v hp h1, repL_den rs vs' ws hq h2]
    · cases h
end
end

/-- the same, not to be opened when it is looked at -/
structure ResO [Rho] (P : Program) (n : Nat) (Q : Exit → Act → World → Prop) (W0 : World) (res : Res) : Prop where
  get : ResOk P n Q W0 res
section
variable {P : Program} {K : Know} {D : SE → Option Bool} {W0 W : World} {n : Nat} {Q : Exit → Act → World → Prop} {r : RV} {a : RA} {h : RH} {A : Act} {res : Res}
theorem call_start [Rho] {k : Nat} {fl : List Bool} {args : List RV} {xs : Array Value} {Rr : Ending → World → Prop} (hm : P.follows .mixedOrders = true) (hok : fnOk P k args.length = true) (hx : RepL (fun _ => False) (fun _ => 0) (fun _ => 0) args xs.toList) (hfar : Far W0)
    (hK : KOk P K) (hD : DOk D) (hr : ResO P 0 (bodyPostM (fen none) 0 P (fnD P k) Rr) W0 (startR P K D k fl args)) : Calls P k xs W0 Rr := by
  have hr := hr.get
  unfold fnOk at hok
  split at hok
  · rename_i fn hf
    simp only [Bool.and_eq_true] at hok
    obtain ⟨c, hc⟩ := Option.isSome_iff_exists.1 hok.1
    have e1 : fnD P k = fn := by simp only [fnD, hf]
    have e2 : bodyC P k = c := by simp only [bodyC, e1, hc]
    unfold startR at hr
    rw [e1, e2] at hr
    exact calls_run hf hc hok.2 hx hfar fun A hs => run_ok (evKD_all hm hK hD 3000) 3000 fl hs hr
  · cases hok
theorem code_run [Rho] {fl : List Bool} {c : Code} (hm : P.follows .mixedOrders = true) (hK : KOk P K) (hD : DOk D) (hs : St P W0 a h A W) (hr : ResOk P n Q W0 (codeR P K D fl c a h)) : c.wpIn (fen none) n P Q A W := run_ok (evKD_all hm hK hD 3000) 3000 fl hs hr
theorem back_run [Rho] {fl : List Bool} {e : Exit} {k : List Fr} (hm : P.follows .mixedOrders = true) (hK : KOk P K) (hD : DOk D) (hs : St P W0 a h A W) (hr : ResOk P n Q W0 (backR P K D fl e k a h)) : Unw P n Q k e A W := back_ok (evKD_all hm hK hD 3000) 3000 fl hs hr
theorem fin_run [Rho] {k : Nat} {Rr : Ending → World → Prop} (he : finD P k res = some r) {v : Value} (hv : r.den = some v) (hk : ∀ W', Below Rho.fb W0 W' → Rr (.returned v) W') : ResO P n (bodyPostM (fen none) n P (fnD P k) Rr) W0 res := by
  refine ⟨?_⟩
  unfold finD at he
  split at he
  · rename_i e a h
    split at he
    · rename_i r1 h1 hl
      cases he
      exact fin_ok hl fun V m g x W' hx _ hb => by rw [rep_den _ _ _ hv hx]; exact hk W' hb
    · cases he
  · cases he
theorem loop_run [Rho] (hl : res.isLoop = true) (hk : ∀ A W, St P W0 res.a res.h A W → (Code.loop res.c).wpIn (fen none) n P (Unw P n Q res.k) A W) : ResOk P n Q W0 res := by
  cases res with
  | loop c k a h => exact hk
  | fin e a h => cases hl
  | no => cases hl
/-- what comes out, with the blocks that are there then -/
noncomputable def finH (P : Program) (k : Nat) : Res → Option (RV × RH)
  | .fin e a h => leaveE P (fnD P k).results.toList (some (e, a, h))
  | _ => none
theorem fin_gen [Rho] {k : Nat} {h' : RH} {Rr : Ending → World → Prop} (he : finH P k res = some (r, h')) (hk : ∀ V m g v W', Rep V m g r v → RepW P V m g h' W' → Below Rho.fb W0 W' → Rr (.returned v) W') : ResO P n (bodyPostM (fen none) n P (fnD P k) Rr) W0 res := by
  refine ⟨?_⟩
  unfold finH at he
  split at he
  · exact fin_ok he hk
  · cases he
theorem enter_run {ρ' : Rho} [ρ : Rho] {B : Nat} {a' : RA} {h' : RH} {ds : List Du} {c : Code} {k : List Fr} (hl : enterD B a' h' res = some ds) (hc : res.c = c) (hkk : res.k = k) (ha : Agree B ρ ρ') (hd : AllDu ρ ρ' ds)
    (hk : ∀ A W, @St ρ' P W0 a' h' A W → (Code.loop c).wpIn (fen none) n P (Unw P n Q k) A W) : ResO P n Q W0 res := by
  refine ⟨?_⟩
  subst hc hkk
  cases res with
  | loop c k a h => exact fun A W hs => hk A W (st_cv ha hl hd hs)
  | fin e a h => cases hl
  | no => cases hl
/-- a round that goes on -/
theorem again_run {ρ' : Rho} [ρ : Rho] {B : Nat} {a' : RA} {h' : RH} {ds : List Du} {fl : List Bool} {c : Code} {k : List Fr} {G : Act → World → Prop} (hm : P.follows .mixedOrders = true) (hK : KOk P K) (hD : DOk D) (hl : againD B a' h' (roundR P K D fl c k a h) = some ds) (ha : Agree B ρ ρ') (hd : AllDu ρ ρ' ds)
    (hs : St P W0 a h A W) (hk : ∀ A W, @St ρ' P W0 a' h' A W → G A W) : c.wpIn (fen none) n P (fun e A' W' => match e with | .normal => G A' W' | e => Unw P n Q k e A' W') A W := by
  refine code_run (fl := fl) hm hK hD hs ?_
  unfold roundR at hl
  cases hr : codeR P K D fl c a h with
  | fin e a1 h1 =>
    rw [hr] at hl
    cases e with
    | normal => exact fun A W hs => hk A W (st_cv ha hl hd hs)
    | exit id => cases hl
    | goto l => cases hl
    | ret => cases hl
    | panic ch => cases hl
    | outgrown => cases hl
  | loop c k a h => rw [hr] at hl; cases hl
  | no => rw [hr] at hl; cases hl
/-- a round that goes out -/
theorem out_run [Rho] {fl : List Bool} {c : Code} {k : List Fr} {G : Act → World → Prop} (hm : P.follows .mixedOrders = true) (hK : KOk P K) (hD : DOk D) (hs : St P W0 a h A W) (hr : ResO P n Q W0 (outR (roundR P K D fl c k a h))) :
    c.wpIn (fen none) n P (fun e A' W' => match e with | .normal => G A' W' | e => Unw P n Q k e A' W') A W := by
  have hr := hr.get
  refine code_run (fl := fl) hm hK hD hs ?_
  unfold roundR at hr
  cases hc : codeR P K D fl c a h with
  | fin e a1 h1 =>
    rw [hc] at hr
    cases e with
    | normal => exact hr.elim
    | exit id => exact fun A W hs => back_run hm hK hD hs hr
    | goto l => exact fun A W hs => back_run hm hK hD hs hr
    | ret => exact fun A W hs => back_run hm hK hD hs hr
    | panic ch => exact fun A W hs => back_run hm hK hD hs hr
    | outgrown => exact fun A W hs => back_run hm hK hD hs hr
  | loop c k a h => rw [hc] at hr; exact hr.elim
  | no => rw [hc] at hr; exact hr.elim
/-- a round's end -/
theorem round_run [Rho] (he : exitD res ≠ 0) (hk : ∀ A W, St P W0 res.a res.h A W → Q (exitOf res) A W) : ResOk P n Q W0 res := by
  cases res with
  | loop c k a h => exact absurd rfl he
  | fin e a h => exact hk
  | no => exact absurd rfl he
theorem exit1 (he : exitD res = 1) : exitOf res = .normal := by
  unfold exitD at he
  split at he <;> first | rfl | omega | cases he
theorem exit2 (he : exitD res = 2) : exitOf res = .ret := by
  unfold exitD at he
  split at he <;> first | rfl | omega | cases he
theorem exit3 {k : Nat} (he : exitD res = 3 + k) : exitOf res = .exit k := by
  unfold exitD at he
  split at he <;> first | (rename_i j _ _; have : j = k := by omega
                           subst this; rfl) | omega
end
theorem f_le [Rho] {a b : SE} {x y : Int} (h : x ≤ y) (ha : a.ev.i = x) (hb : b.ev.i = y) : (SE.le a b).ev.b = true := by simp only [SE.ev, ha, hb, decide_eq_true_eq]; exact h
theorem f_nle [Rho] {a b : SE} {x y : Int} (h : ¬ x ≤ y) (ha : a.ev.i = x) (hb : b.ev.i = y) : (SE.le a b).ev.b = false := by simp only [SE.ev, ha, hb, decide_eq_false_iff_not]; exact h
theorem f_eq [Rho] {a b : SE} {x y : Int} (h : x = y) (ha : a.ev.i = x) (hb : b.ev.i = y) : (SE.eq a b).ev.b = true := by simp only [SE.ev, ha, hb, decide_eq_true_eq]; exact h
theorem f_ne [Rho] {a b : SE} {x y : Int} (h : ¬ x = y) (ha : a.ev.i = x) (hb : b.ev.i = y) : (SE.eq a b).ev.b = false := by simp only [SE.ev, ha, hb, decide_eq_false_iff_not]; exact h
theorem f_in [Rho] {e : SE} {x : Int} (h : -9223372036854775808 ≤ x ∧ x ≤ 9223372036854775807) (he : e.ev.i = x) : (SE.inr .i64 e).ev.b = true := inr64 (by rw [he]; exact h)
theorem se_cases [Rho] (e : SE) : e.ev.b = true ∨ e.ev.b = false := by cases e.ev.b <;> simp
end Go.Proofs.Ytmglofemnobakaa
