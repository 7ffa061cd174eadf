/- The law UnwrapAlong holds: for every input the call returns true, and what it got reads as it did. No conditions. -/
import Derived.Test.YtmglofemnobakaaGar
import Derived.Test.YtmglofemnobakaaLal
namespace Go.Proofs.Ytmglofemnobakaa.ual
open Go.ChangeShapes Go.WideShapes Go.ChangeAt Go.RowKit
set_option maxRecDepth 100000
set_option linter.unusedVariables false

theorem reads : ∀ t ∈ [40, 25], Try.prog.readableRec t = true ∧ t < Try.prog.types.size := by
  have h : ([40, 25].all fun t => Try.prog.readableRec t && decide (t < Try.prog.types.size)) = true := by kernel_rfl
  intro t ht
  have := List.all_eq_true.1 h t ht
  simpa using this

theorem lifted (os : Os) (started : os.Started) (H : Type) (enc : TypeId × Value → H) :
    ReturnsInHanded {} Try.checked os 5 .any (Rows.unwrapAlongSpec.pre6 enc Try.prog Try.f5 Rows.unwrapAlongRow.domain false) (Rows.unwrapAlongSpec.post enc Try.prog Try.f5 false true false false) := by
  refine returnsInHanded_of_change (C := Try.checked) own_none started (by kernel_rfl) Try.func5
    (ChangeSpec.witness6 (enc := enc) (C := Try.checked) false ⟨#[], #[.agg #[.int .i64 0, .int .i64 0, .slice none 0 0], .slice none 0 0], []⟩ 8 (by kernel_rfl) (by kernel_rfl) (by kernel_rfl) (by kernel_rfl)) ?_
  intro W base args ds gs before hval0 hW hcnd _
  have hval : ∀ (j : Nat) t v, Try.f5.params[j]? = some t → args[j]? = some v → Value.okWide Try.prog W .any base t v := hval0
  have hW' := hW
  obtain ⟨p, q, hA0, hV, rfl, hfz, hnd⟩ := hW
  have hA : DataW.TrodAll enc Try.prog W 0 (fun _ => true) true Try.f5.params.toList args.toList ds p := hA0
  have hA1 := hA
  rw [Try.params5] at hA hval
  obtain ⟨v0, vs0, d0, ds0, p0, q0, hargs, rfl, rfl, h0, r0⟩ := trodAll_cons hA
  obtain ⟨v1, vs1, d1, ds1, p1, q1, rfl, rfl, rfl, h1, r1⟩ := trodAll_cons r0
  obtain ⟨rfl, rfl, rfl⟩ := trodAll_nil r1
  obtain rfl : args = #[v0, v1] := by cases args; simp_all
  obtain ⟨rfl, rfl⟩ := trodVars_none hV
  obtain ⟨a0, rfl, g0⟩ := agg_arg (l := [.int, .int, .rows 1]) (by kernel_rfl) (by kernel_rfl) (by kernel_rfl) (hval 0 40 v0 rfl rfl) h0
  obtain ⟨y0_0, ys0_0, e0_0, k0_0, g0⟩ := g0
  obtain ⟨y0_1, ys0_1, e0_1, k0_1, g0⟩ := g0
  obtain ⟨y0_2, ys0_2, e0_2, k0_2, g0⟩ := g0
  simp only [CellsL] at g0
  subst g0
  subst e0_2
  subst e0_1
  obtain ⟨z0_0, rfl, w0_0⟩ := k0_0
  obtain ⟨z0_1, rfl, w0_1⟩ := k0_1
  obtain ⟨A0_2, n0_2, c0_2, F0_2, rfl, R0_2, nc0_2, mc0_2, I0_2, Z0_2⟩ := k0_2
  obtain rfl : a0 = #[.int .i64 z0_0, .int .i64 z0_1, .slice A0_2 n0_2 c0_2] := Array.toList_inj.1 e0_0
  have k1 := one_arg (c := .rows 1) (by kernel_rfl) (by kernel_rfl) (hval 1 25 v1 rfl rfl) h1
  obtain ⟨A1, n1, c1, F1, rfl, R1, nc1, mc1, I1, Z1⟩ := k1
  clear hA0 hval0
  simp only [List.append_nil] at hW' hA1
  refine (along_law z0_0 w0_0 z0_1 w0_1 A0_2 n0_2 c0_2 F0_2 R0_2 nc0_2 mc0_2 I0_2 Z0_2 A1 n1 c1 F1 R1 nc1 mc1 I1 Z1).mono fun e W' ⟨he, hb⟩ => ?_
  subst he
  exact ⟨_, rfl, law_end (P := Try.prog) hW' (by simpa using hA1) laid_out (by rw [Try.params5]; exact reads) rfl Try.underlying4 rfl rfl rfl rfl hb⟩

theorem row_holds : Rows.UnwrapAlongSaid :=
  OpenClaim.holds_of_wide 5 Try.f5 rfl rfl rfl rfl rfl rfl rfl ⟨rfl, rfl, rfl, rfl, rfl⟩ rfl rfl rfl rfl rfl (by kernel_rfl) Try.func5 (by kernel_rfl)
    (of_decide_eq_true (by kernel_rfl)) (by unfold Func.isWrapper; first | (rw [if_pos (by decide +kernel)]; kernel_rfl) | (rw [if_neg (by decide +kernel)]; exact ⟨rfl, rfl⟩))
    (fun os started H enc _ => lifted os started H enc)
end Go.Proofs.Ytmglofemnobakaa.ual
