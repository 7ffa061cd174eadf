/- Laws of our own: structs and arrays of numbers are compared. -/
import Derived.Test.YtnaanninmkplfaaOlo
import Derived.DeepKeys
import Derived.Laws.StructEq
namespace Go.Proofs.Ytnaanninmkplfaa
open Go.RowKit
set_option maxHeartbeats 400000
set_option maxRecDepth 100000

theorem fieldsR : (Try.prog.fieldsOf 46).toList.map (fun f => (f.name, f.type, f.offset)) = [("Lo", 3, 0), ("Hi", 3, 1)] := by kernel_rfl

theorem eqFields_nil (d : Nat) (xs ys : Array Value) (w : World) : (Op.eqFields d xs ys []).run Try.prog w = .ok true w := by simp [Op.eqFields]
theorem eqFields_cons (d : Nat) (xs ys : Array Value) (f : Field) (fs : List Field) (w : World) (a b : Value) (q r : Bool) (hn : f.name ≠ "_") (ha : (part f.type xs f.offset).run Try.prog w = .ok a w) (hb : (part f.type ys f.offset).run Try.prog w = .ok b w)
    (hq : (Op.equalIn d f.type a b).run Try.prog w = .ok q w) (hr : (Op.eqFields d xs ys fs).run Try.prog w = .ok r w) : (Op.eqFields d xs ys (f :: fs)).run Try.prog w = .ok (q && r) w := by
  simp only [Op.eqFields, hn, ne_eq, not_false_eq_true, if_true, Sem.run_bind, ha, hb, hq, Result.andThen_ok]
  cases q
  · simp
  · simpa using hr

theorem part_int (xs : Array Value) (i : Nat) (v : Value) (w : World) (h : xs[i]? = some v) : (part 3 xs i).run Try.prog w = .ok v w := by
  have i2 := Try.isAgg3
  have i3 := Try.sizeOf3
  go_simp

@[go_sem] theorem eq_range (a b c d : Int) (w : World) : (Op.equalIn 10000 46 (.agg #[.int .i64 a, .int .i64 b]) (.agg #[.int .i64 c, .int .i64 d])).run Try.prog w = .ok (a == c && b == d) w := by
  rw [show (10000 : Nat) = 9999 + 1 from rfl, run_equalIn_struct w 9999 46 _ _ (by kernel_rfl) (by kernel_rfl)]
  generalize hF : (Try.prog.fieldsOf 46).toList = F
  have h := fieldsR
  rw [hF] at h
  match F, h with
  | [f, g], h =>
    simp at h
    obtain ⟨⟨h1, h2, h3⟩, h4, h5, h6⟩ := h
    have e := eqFields_cons 9999 #[.int .i64 a, .int .i64 b] #[.int .i64 c, .int .i64 d] f [g] w (.int .i64 a) (.int .i64 c) (a == c) (b == d && true) (by rw [h1]; decide) (by rw [h2, h3]; exact part_int _ _ _ _ rfl) (by rw [h2, h3]; exact part_int _ _ _ _ rfl)
      (by rw [h2]; exact run_equalIn_int w 9998 3 .i64 .i64 a c Try.underlying3)
      (eqFields_cons _ _ _ g [] w (.int .i64 b) (.int .i64 d) _ _ (by rw [h4]; decide) (by rw [h5, h6]; exact part_int _ _ _ _ rfl) (by rw [h5, h6]; exact part_int _ _ _ _ rfl) (by rw [h5]; exact run_equalIn_int w 9998 3 .i64 .i64 b d Try.underlying3) (eqFields_nil _ _ _ _))
    rw [e, Bool.and_true]

theorem fieldsP : (Try.prog.fieldsOf 42).toList.map (fun f => (f.name, f.type, f.offset)) = [("X", 3, 0), ("Y", 3, 1), ("Z", 3, 2)] := by kernel_rfl
@[go_sem] theorem eq_place (a1 a2 a3 b1 b2 b3 : Int) (w : World) : (Op.equalIn 10000 42 (.agg #[.int .i64 a1, .int .i64 a2, .int .i64 a3]) (.agg #[.int .i64 b1, .int .i64 b2, .int .i64 b3])).run Try.prog w = .ok (a1 == b1 && (a2 == b2 && a3 == b3)) w := by
  rw [show (10000 : Nat) = 9999 + 1 from rfl, run_equalIn_struct w 9999 42 _ _ (by kernel_rfl) (by kernel_rfl)]
  generalize hF : (Try.prog.fieldsOf 42).toList = F
  have h := fieldsP
  rw [hF] at h
  match F, h with
  | [f, g, k], h =>
    simp at h
    obtain ⟨⟨h1, h2, h3⟩, ⟨h4, h5, h6⟩, h7, h8, h9⟩ := h
    have e := eqFields_cons 9999 #[.int .i64 a1, .int .i64 a2, .int .i64 a3] #[.int .i64 b1, .int .i64 b2, .int .i64 b3] f [g, k] w (.int .i64 a1) (.int .i64 b1) (a1 == b1) (a2 == b2 && (a3 == b3 && true)) (by rw [h1]; decide) (by rw [h2, h3]; exact part_int _ _ _ _ rfl) (by rw [h2, h3]; exact part_int _ _ _ _ rfl)
      (by rw [h2]; exact run_equalIn_int w 9998 3 .i64 .i64 a1 b1 Try.underlying3)
      (eqFields_cons _ _ _ g [k] w (.int .i64 a2) (.int .i64 b2) _ _ (by rw [h4]; decide) (by rw [h5, h6]; exact part_int _ _ _ _ rfl) (by rw [h5, h6]; exact part_int _ _ _ _ rfl) (by rw [h5]; exact run_equalIn_int w 9998 3 .i64 .i64 a2 b2 Try.underlying3)
        (eqFields_cons _ _ _ k [] w (.int .i64 a3) (.int .i64 b3) _ _ (by rw [h7]; decide) (by rw [h8, h9]; exact part_int _ _ _ _ rfl) (by rw [h8, h9]; exact part_int _ _ _ _ rfl) (by rw [h8]; exact run_equalIn_int w 9998 3 .i64 .i64 a3 b3 Try.underlying3) (eqFields_nil _ _ _ _)))
    rw [e, Bool.and_true]

theorem eq_rng (d : Nat) (a b x y : Int) (w : World) : (Op.equalIn (d + 1 + 1) 46 (.agg #[.int .i64 a, .int .i64 b]) (.agg #[.int .i64 x, .int .i64 y])).run Try.prog w = .ok (a == x && b == y) w := by
  rw [run_equalIn_struct w (d + 1) 46 _ _ (by kernel_rfl) (by kernel_rfl)]
  generalize hF : (Try.prog.fieldsOf 46).toList = F
  have h := fieldsR
  rw [hF] at h
  match F, h with
  | [f, g], h =>
    simp at h
    obtain ⟨⟨h1, h2, h3⟩, h4, h5, h6⟩ := h
    have e := eqFields_cons (d + 1) #[.int .i64 a, .int .i64 b] #[.int .i64 x, .int .i64 y] f [g] w (.int .i64 a) (.int .i64 x) (a == x) (b == y && true) (by rw [h1]; decide) (by rw [h2, h3]; exact part_int _ _ _ _ rfl) (by rw [h2, h3]; exact part_int _ _ _ _ rfl)
      (by rw [h2]; exact run_equalIn_int w d 3 .i64 .i64 a x Try.underlying3)
      (eqFields_cons _ _ _ g [] w (.int .i64 b) (.int .i64 y) _ _ (by rw [h4]; decide) (by rw [h5, h6]; exact part_int _ _ _ _ rfl) (by rw [h5, h6]; exact part_int _ _ _ _ rfl) (by rw [h5]; exact run_equalIn_int w d 3 .i64 .i64 b y Try.underlying3) (eqFields_nil _ _ _ _))
    rw [e, Bool.and_true]

theorem eqItems_nil (d : Nat) (e : TypeId) (c : Nat) (xs ys : Array Value) (w : World) : (Op.eqItems d e c xs ys []).run Try.prog w = .ok true w := by simp [Op.eqItems]
theorem eqItems_cons (d : Nat) (e : TypeId) (c : Nat) (xs ys : Array Value) (i : Nat) (is : List Nat) (w : World) (a b : Value) (q r : Bool) (ha : (part e xs (i * c)).run Try.prog w = .ok a w) (hb : (part e ys (i * c)).run Try.prog w = .ok b w)
    (hq : (Op.equalIn d e a b).run Try.prog w = .ok q w) (hr : (Op.eqItems d e c xs ys is).run Try.prog w = .ok r w) : (Op.eqItems d e c xs ys (i :: is)).run Try.prog w = .ok (q && r) w := by
  simp only [Op.eqItems, Sem.run_bind, ha, hb, hq, Result.andThen_ok]
  cases q
  · simp
  · simpa using hr
theorem infoRg : (Try.prog.info? 46).isSome = true := by kernel_rfl
theorem infoIn : (Try.prog.info? 3).isSome = true := by kernel_rfl
theorem part_rng (a1 a2 a3 a4 a5 a6 : Int) (w : World) :
    (part 46 #[.int .i64 a1, .int .i64 a2, .int .i64 a3, .int .i64 a4, .int .i64 a5, .int .i64 a6] (0 * 2)).run Try.prog w = .ok (.agg #[.int .i64 a1, .int .i64 a2]) w ∧
    (part 46 #[.int .i64 a1, .int .i64 a2, .int .i64 a3, .int .i64 a4, .int .i64 a5, .int .i64 a6] (1 * 2)).run Try.prog w = .ok (.agg #[.int .i64 a3, .int .i64 a4]) w ∧
    (part 46 #[.int .i64 a1, .int .i64 a2, .int .i64 a3, .int .i64 a4, .int .i64 a5, .int .i64 a6] (2 * 2)).run Try.prog w = .ok (.agg #[.int .i64 a5, .int .i64 a6]) w := by
  have i2 := Try.isAgg46
  have i3 := Try.sizeOf46
  refine ⟨?_, ?_, ?_⟩ <;> go_simp
@[go_sem] theorem eq_box (a1 a2 a3 a4 a5 a6 b1 b2 b3 b4 b5 b6 : Int) (w : World) : (Op.equalIn 10000 47 (.agg #[.int .i64 a1, .int .i64 a2, .int .i64 a3, .int .i64 a4, .int .i64 a5, .int .i64 a6]) (.agg #[.int .i64 b1, .int .i64 b2, .int .i64 b3, .int .i64 b4, .int .i64 b5, .int .i64 b6])).run Try.prog w
    = .ok ((a1 == b1 && a2 == b2) && ((a3 == b3 && a4 == b4) && (a5 == b5 && a6 == b6))) w := by
  obtain ⟨i, hi⟩ := Option.isSome_iff_exists.1 infoRg
  obtain ⟨x1, x2, x3⟩ := part_rng a1 a2 a3 a4 a5 a6 w
  obtain ⟨y1, y2, y3⟩ := part_rng b1 b2 b3 b4 b5 b6 w
  rw [show (10000 : Nat) = 9999 + 1 from rfl, run_equalIn_array w 9999 _ _ Try.underlying47 hi, show Try.prog.cellsOf 46 = 2 by kernel_rfl]
  have e := eqItems_cons 9999 46 2 _ _ 0 [1, 2] w _ _ _ _ x1 y1 (eq_rng 9997 _ _ _ _ w) (eqItems_cons 9999 46 2 _ _ 1 [2] w _ _ _ _ x2 y2 (eq_rng 9997 _ _ _ _ w) (eqItems_cons 9999 46 2 _ _ 2 [] w _ _ _ _ x3 y3 (eq_rng 9997 _ _ _ _ w) (eqItems_nil _ _ _ _ _ w)))
  rw [show List.range 3 = [0, 1, 2] from rfl, e, Bool.and_true]
@[go_sem] theorem eq_three (a1 a2 a3 b1 b2 b3 : Int) (w : World) : (Op.equalIn 10000 84 (.agg #[.int .i64 a1, .int .i64 a2, .int .i64 a3]) (.agg #[.int .i64 b1, .int .i64 b2, .int .i64 b3])).run Try.prog w = .ok (a1 == b1 && (a2 == b2 && a3 == b3)) w := by
  obtain ⟨i, hi⟩ := Option.isSome_iff_exists.1 infoIn
  rw [show (10000 : Nat) = 9999 + 1 from rfl, run_equalIn_array w 9999 _ _ Try.underlying84 hi, show Try.prog.cellsOf 3 = 1 by kernel_rfl]
  have q (u v : Int) := run_equalIn_int (P := Try.prog) w 9998 3 .i64 .i64 u v Try.underlying3
  have e := eqItems_cons 9999 3 1 #[.int .i64 a1, .int .i64 a2, .int .i64 a3] #[.int .i64 b1, .int .i64 b2, .int .i64 b3] 0 [1, 2] w _ _ _ _ (part_int _ _ _ w rfl) (part_int _ _ _ w rfl) (q a1 b1) (eqItems_cons 9999 3 1 _ _ 1 [2] w _ _ _ _ (part_int _ _ _ w rfl) (part_int _ _ _ w rfl) (q a2 b2) (eqItems_cons 9999 3 1 _ _ 2 [] w _ _ _ _ (part_int _ _ _ w rfl) (part_int _ _ _ w rfl) (q a3 b3) (eqItems_nil _ _ _ _ _ w)))
  rw [show List.range 3 = [0, 1, 2] from rfl, e, Bool.and_true]

theorem fld_of (F : Array Field) (i : Nat) (xs : Array Value) (v : Value) (w : World) {nm : String} (h : (F.toList.map fun f => (f.name, f.type, f.offset))[i]? = some (nm, 3, i)) (hv : xs[i]? = some v) :
    (match F[i]? with
      | some f => do
        let l ← asAgg (.agg xs)
        part f.type l f.offset
      | none => stuck "Field: no such field" : Sem Value).run Try.prog w = .ok v w := by
  rw [List.getElem?_map, Array.getElem?_toList] at h
  cases hf : F[i]? with
  | none => rw [hf] at h; cases h
  | some f =>
    rw [hf] at h
    simp at h
    obtain ⟨_, h2, h3⟩ := h
    simp only [asAgg, Sem.run_bind, Sem.run_pure, Result.andThen_ok]
    rw [h2, h3]
    exact part_int _ _ _ _ hv
theorem rng_under : Try.prog.underlying 46 = some (.struct (Try.prog.fieldsOf 46)) := by kernel_rfl
@[go_sem] theorem fld_lo (a b : Int) (w : World) : (Instr.field 46 (.agg #[.int .i64 a, .int .i64 b]) 0).run Try.prog w = .ok (.int .i64 a) w := by
  unfold Instr.field
  simp only [Sem.run_bind, run_underlying rng_under, Result.andThen_ok]
  exact fld_of _ 0 #[.int .i64 a, .int .i64 b] (.int .i64 a) w (by rw [fieldsR]; rfl) rfl
@[go_sem] theorem fld_hi (a b : Int) (w : World) : (Instr.field 46 (.agg #[.int .i64 a, .int .i64 b]) 1).run Try.prog w = .ok (.int .i64 b) w := by
  unfold Instr.field
  simp only [Sem.run_bind, run_underlying rng_under, Result.andThen_ok]
  exact fld_of _ 1 #[.int .i64 a, .int .i64 b] (.int .i64 b) w (by rw [fieldsR]; rfl) rfl
end Go.Proofs.Ytnaanninmkplfaa
