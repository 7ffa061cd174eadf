/- Calls reckoned: regions, whose order is given or drawn. -/
import Derived.Test.YtmglofemnobakaaEvz
namespace Go.Proofs.Ytmglofemnobakaa
open Go.RowKit

section
variable {P : Program} {V : Nat → Prop} {m g : Nat → Nat} {h h' : RH} {w w' : World} {ρ : Operand → RV} {o : Oper} {r : RV} {v : Value} {R : Rec} {ro : Option Nat} {n : Nat} {A : Act} {K : Act → World → Prop} {Q : Exit → Act → World → Prop}

theorem getD_bool {tm : Array Value} {t : Nat} {b : Bool} (h : tm.getD t undef = .bool b) : tm[t]? = some (.bool b) := by
  rw [Array.getD_eq_getD_getElem?] at h
  cases hq : tm[t]? with
  | none => rw [hq] at h; simp [undef] at h
  | some v => rw [hq] at h; simpa using h
theorem wanted_ok [Rho] {D : SE → Option Bool} (hD : DOk D) {ops : Array Oper} {a : RA} {b : Bool} (he : wantedD D ops.toList o a = some b) (hr : ∀ gd want p t, o.guard = some (gd, want) → ops[gd]? = some p → p.dst = some t → ∃ V m g, Rep V m g (a.get t) (A.tmps.getD t undef)) : Region.wanted o (yielded ops A.tmps) = b := by
  unfold wantedD at he
  unfold Region.wanted
  cases hg : o.guard with
  | none => rw [hg] at he; simpa using he
  | some gw =>
    obtain ⟨gd, want⟩ := gw
    rw [hg] at he
    simp only at he ⊢
    unfold wantedG at he
    simp only [Array.getElem?_toList] at he
    cases hp : ops[gd]? with
    | none => rw [hp] at he; cases he
    | some p =>
      rw [hp] at he
      simp only at he
      cases ht : p.dst with
      | none => rw [ht] at he; cases he
      | some t =>
        rw [ht] at he
        simp only at he
        obtain ⟨V, m, g, hrep⟩ := hr gd want p t hg hp ht
        have hy : yielded ops A.tmps gd = (match A.tmps[t]? with | some (.bool b) => some b | _ => none) := by
          unfold yielded
          simp only [hp, ht, Option.bind_some]
          cases A.tmps[t]? with
          | none => rfl
          | some u => cases u <;> rfl
        unfold yieldD at he
        split at he
        · rename_i hv
          rw [hv] at hrep
          simp only [Rep] at hrep
          have := getD_bool hrep
          have hyy : yielded ops A.tmps gd = some true := by rw [hy, this]
          rw [hyy]
          simp only [Option.some.injEq] at he
          subst he
          cases want <;> rfl
        · rename_i hv
          rw [hv] at hrep
          simp only [Rep] at hrep
          have := getD_bool hrep
          have hyy : yielded ops A.tmps gd = some false := by rw [hy, this]
          rw [hyy]
          simp only [Option.some.injEq] at he
          subst he
          cases want <;> rfl
        · rename_i v h1 h2 hv
          rw [hv] at hrep
          simp only [Rep] at hrep
          have hyy : yielded ops A.tmps gd = none := by
            rw [hy]
            rw [Array.getD_eq_getD_getElem?] at hrep
            cases hq : A.tmps[t]? with
            | none => rfl
            | some u =>
              rw [hq] at hrep
              simp only [Option.getD_some] at hrep
              subst hrep
              cases u <;> first | rfl | (rename_i b; cases b <;> first | exact absurd rfl h1 | exact absurd rfl h2 | skip)
          rw [hyy]
          simp only [Option.some.injEq] at he
          subst he
          rfl
        · rename_i e hv
          rw [hv] at hrep
          simp only [Rep] at hrep
          split at he
          · rename_i ha
            rw [askD_ok hD _ _ ha] at hrep
            have := getD_bool hrep
            have hyy : yielded ops A.tmps gd = some true := by rw [hy, this]
            rw [hyy]
            simp only [Option.some.injEq] at he
            subst he
            cases want <;> rfl
          · rename_i ha
            rw [askD_ok hD _ _ ha] at hrep
            have := getD_bool hrep
            have hyy : yielded ops A.tmps gd = some false := by rw [hy, this]
            rw [hyy]
            simp only [Option.some.injEq] at he
            subst he
            cases want <;> rfl
          · cases he
        · cases he

/-- operations one behind the other -/
theorem seqD_ok [Rho] (hR : RecOk P R) {ops : Array Oper} : ∀ (rest : List Oper) (k : Nat) (a a' : RA) (h h' : RH) (V : Nat → Prop) (m g : Nat → Nat) (A : Act) (W : World), ops.toList.drop k = rest → seqD P R ops.toList rest a h = some (a', h') → RepA V m g a A → RepW P V m g h W →
    (∀ m' g' A' W', Ext m g h W m' g' h' W' → RepA (VX V h h') m' g' a' A' → RepW P (VX V h h') m' g' h' W' → Q .normal A' W') → wpOpsIn (fen ro) n P ops Q (List.range' k rest.length) A W
  | [], k, a, a', h, h', V, m, g, A, W, _, he, ha, hw, hq => by
    simp only [seqD, Option.some.injEq, Prod.mk.injEq] at he
    obtain ⟨rfl, rfl⟩ := he
    simp only [List.length_nil, List.range'_zero, wpOpsIn]
    exact hq m g A W Ext.refl (by rw [vx_self rfl]; exact ha) (by rw [vx_self rfl]; exact hw)
  | o :: rest, k, a, a', h, h', V, m, g, A, W, hd, he, ha, hw, hq => by
    have hk : ops[k]? = some o := by
      have : (ops.toList.drop k)[0]? = some o := by rw [hd]; rfl
      simpa using this
    have hd' : ops.toList.drop (k + 1) = rest := by
      have : (ops.toList.drop k).drop 1 = rest := by rw [hd]; rfl
      rwa [List.drop_drop] at this
    simp only [List.length_cons, List.range'_succ, wpOpsIn, hk]
    simp only [seqD] at he
    cases hwd : wantedD R.dec ops.toList o a with
    | none => rw [hwd] at he; cases he
    | some b =>
      rw [hwd] at he
      have hwr := wanted_ok hR.dec (A := A) hwd (fun gd want p t _ _ _ => ⟨V, m, g, ha.1.2.2 t⟩)
      cases b with
      | false =>
        simp only at he
        rw [if_neg (by rw [hwr]; simp)]
        exact ⟨fun _ _ => trivial, seqD_ok hR rest (k + 1) _ a' h h' V m g _ W hd' he (repA_put ha rep_ru) hw hq⟩
      | true =>
        simp only at he
        rw [if_pos hwr]
        cases hev : evOp P R o a.eval h with
        | none => rw [hev] at he; cases he
        | some rh =>
          obtain ⟨r, h1⟩ := rh
          rw [hev] at he
          simp only [forceRV_eq, forceH_eq] at he
          refine evOp_ok hR hev hw (fun x _ => repA_eval ha x) ?_
          rintro v W1 ⟨m1, g1, e1, e2, e3⟩
          refine seqD_ok hR rest (k + 1) _ a' h1 h' (VX V h h1) m1 g1 _ W1 hd' he (repA_put (repA_mono (e1.agree hw.lt) ha) e2) e3 ?_
          intro m' g' A' W' x1 x2 x3
          rw [vx_trans e1.n_le x1.n_le] at x2 x3
          exact hq m' g' A' W' (e1.trans x1) x2 x3
end
end Go.Proofs.Ytmglofemnobakaa
