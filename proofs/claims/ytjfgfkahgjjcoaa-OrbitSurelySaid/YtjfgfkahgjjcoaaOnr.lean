/- What is asked of CheckNearest, opened. -/
import Derived.Test.YtjfgfkahgjjcoaaOen
namespace Go.Proofs.Ytjfgfkahgjjcoaa
open Go.ChangeShapes Go.WideShapes Go.ChangeAt Go.RowKit Go.Joins Go.Deep
set_option maxRecDepth 100000
variable {H : Type} {enc : TypeId × Value → H} {w : World} {base : Nat} {spare : Nat → Bool} {held : Bool}
theorem near_open {r : Reach} {b0 : Nat} {v : Value} {d : DataW H} {p : List MemPlace} (hv : Value.okWide Try.prog w r b0 77 v) (h : DataW.Trod enc Try.prog w base spare held 77 v d p) :
    ∃ x y z : Int, v = .agg #[.int .i64 x, .int .i64 y, .int .i64 z] ∧ I64 x ∧ I64 y ∧ I64 z := by
  obtain ⟨cs, rfl, hsz⟩ := okWide_struct Try.underlying77 hv
  obtain ⟨q0, q1, q2, rfl⟩ := array3 (hsz.trans (show Try.prog.cellsOf 77 = 3 by kernel_rfl))
  obtain ⟨fuel, hf⟩ := h
  have hf : DataW.trod enc Try.prog w base spare held fuel 77 [q0, q1, q2] = some (d, p) := by simpa [Value.cells] using hf
  obtain ⟨xs, m, _, _, _, hxs, hg⟩ := DataW.trod_struct Try.underlying77 hf
  have c1 : Try.prog.cellsOf 3 = 1 := by kernel_rfl
  have c2 : Try.prog.cellsOf 46 = 2 := by kernel_rfl
  have n2 : xs.length = 2 := hxs
  match xs, n2 with
  | [y0, y1], _ =>
    have g0 : DataW.trod enc Try.prog w base spare held m 46 (([q0, q1, q2].drop 0).take (Try.prog.cellsOf 46)) = some y0 := hg 0 _ rfl
    have g1 : DataW.trod enc Try.prog w base spare held m 3 (([q0, q1, q2].drop 2).take (Try.prog.cellsOf 3)) = some y1 := hg 1 _ rfl
    rw [c2] at g0
    rw [c1] at g1
    obtain ⟨n1, e1, _, w1⟩ := DataW.trod_int Try.underlying3 g1
    obtain ⟨xs', m', _, _, _, hxs', hg'⟩ := DataW.trod_struct Try.underlying46 g0
    have n2' : xs'.length = 2 := hxs'
    match xs', n2' with
    | [z0, z1], _ =>
      have k0 : DataW.trod enc Try.prog w base spare held m' 3 (([q0, q1].drop 0).take (Try.prog.cellsOf 3)) = some z0 := hg' 0 _ rfl
      have k1 : DataW.trod enc Try.prog w base spare held m' 3 (([q0, q1].drop 1).take (Try.prog.cellsOf 3)) = some z1 := hg' 1 _ rfl
      rw [c1] at k0 k1
      obtain ⟨p0, f0, _, v0⟩ := DataW.trod_int Try.underlying3 k0
      obtain ⟨p1, f1, _, v1⟩ := DataW.trod_int Try.underlying3 k1
      simp only [List.drop, List.take, List.cons.injEq, and_true] at e1 f0 f1
      subst e1 f0 f1
      exact ⟨_, _, _, rfl, i64_of v0, i64_of v1, i64_of w1⟩
end Go.Proofs.Ytjfgfkahgjjcoaa
