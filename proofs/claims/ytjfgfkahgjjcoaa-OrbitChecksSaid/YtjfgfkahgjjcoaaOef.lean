/- Laws of our own: fractions, and arrays of three, are compared. -/
import Derived.Test.YtjfgfkahgjjcoaaOeq
namespace Go.Proofs.Ytjfgfkahgjjcoaa
open Go.RowKit
set_option maxHeartbeats 400000
set_option maxRecDepth 100000

theorem fieldsFr : (Try.prog.fieldsOf 32).toList.map (fun f => (f.name, f.type, f.offset)) = [("Num", 3, 0), ("Den", 3, 1)] := by kernel_rfl

theorem eq_frc (d : Nat) (a b x y : Int) (w : World) : (Op.equalIn (d + 1 + 1) 32 (.agg #[.int .i64 a, .int .i64 b]) (.agg #[.int .i64 x, .int .i64 y])).run Try.prog w = .ok (a == x && b == y) w := by
  rw [run_equalIn_struct w (d + 1) 32 _ _ (by kernel_rfl) (by kernel_rfl)]
  generalize hF : (Try.prog.fieldsOf 32).toList = F
  have h := fieldsFr
  rw [hF] at h
  match F, h with
  | [f, g], h =>
    simp at h
    obtain ⟨⟨h1, h2, h3⟩, h4, h5, h6⟩ := h
    have e := eqFields_cons (d + 1) #[.int .i64 a, .int .i64 b] #[.int .i64 x, .int .i64 y] f [g] w (.int .i64 a) (.int .i64 x) (a == x) (b == y && true) (by rw [h1]; decide) (by rw [h2, h3]; exact part_int _ _ _ _ rfl) (by rw [h2, h3]; exact part_int _ _ _ _ rfl)
      (by rw [h2]; exact run_equalIn_int w d 3 .i64 .i64 a x Try.underlying3)
      (eqFields_cons _ _ _ g [] w (.int .i64 b) (.int .i64 y) _ _ (by rw [h4]; decide) (by rw [h5, h6]; exact part_int _ _ _ _ rfl) (by rw [h5, h6]; exact part_int _ _ _ _ rfl) (by rw [h5]; exact run_equalIn_int w d 3 .i64 .i64 b y Try.underlying3) (eqFields_nil _ _ _ _))
    rw [e, Bool.and_true]

theorem infoFr : (Try.prog.info? 32).isSome = true := by kernel_rfl
theorem part_frc (a1 a2 a3 a4 a5 a6 : Int) (w : World) :
    (part 32 #[.int .i64 a1, .int .i64 a2, .int .i64 a3, .int .i64 a4, .int .i64 a5, .int .i64 a6] (0 * 2)).run Try.prog w = .ok (.agg #[.int .i64 a1, .int .i64 a2]) w ∧
    (part 32 #[.int .i64 a1, .int .i64 a2, .int .i64 a3, .int .i64 a4, .int .i64 a5, .int .i64 a6] (1 * 2)).run Try.prog w = .ok (.agg #[.int .i64 a3, .int .i64 a4]) w ∧
    (part 32 #[.int .i64 a1, .int .i64 a2, .int .i64 a3, .int .i64 a4, .int .i64 a5, .int .i64 a6] (2 * 2)).run Try.prog w = .ok (.agg #[.int .i64 a5, .int .i64 a6]) w := by
  have i2 := Try.isAgg32
  have i3 := Try.sizeOf32
  refine ⟨?_, ?_, ?_⟩ <;> go_simp
@[go_sem] theorem eq_frc3 (a1 a2 a3 a4 a5 a6 b1 b2 b3 b4 b5 b6 : Int) (w : World) : (Op.equalIn 10000 33 (.agg #[.int .i64 a1, .int .i64 a2, .int .i64 a3, .int .i64 a4, .int .i64 a5, .int .i64 a6]) (.agg #[.int .i64 b1, .int .i64 b2, .int .i64 b3, .int .i64 b4, .int .i64 b5, .int .i64 b6])).run Try.prog w
    = .ok ((a1 == b1 && a2 == b2) && ((a3 == b3 && a4 == b4) && (a5 == b5 && a6 == b6))) w := by
  obtain ⟨i, hi⟩ := Option.isSome_iff_exists.1 infoFr
  obtain ⟨x1, x2, x3⟩ := part_frc a1 a2 a3 a4 a5 a6 w
  obtain ⟨y1, y2, y3⟩ := part_frc b1 b2 b3 b4 b5 b6 w
  rw [show (10000 : Nat) = 9999 + 1 from rfl, run_equalIn_array w 9999 _ _ Try.underlying33 hi, show Try.prog.cellsOf 32 = 2 by kernel_rfl]
  have e := eqItems_cons 9999 32 2 _ _ 0 [1, 2] w _ _ _ _ x1 y1 (eq_frc 9997 _ _ _ _ w) (eqItems_cons 9999 32 2 _ _ 1 [2] w _ _ _ _ x2 y2 (eq_frc 9997 _ _ _ _ w) (eqItems_cons 9999 32 2 _ _ 2 [] w _ _ _ _ x3 y3 (eq_frc 9997 _ _ _ _ w) (eqItems_nil _ _ _ _ _ w)))
  rw [show List.range 3 = [0, 1, 2] from rfl, e, Bool.and_true]
end Go.Proofs.Ytjfgfkahgjjcoaa
