/- Match: how an affine shift reads as an argument; terms and places; CheckAffine of the code and of the reference. -/
import Derived.Test.YtoaecfblpkgehaaMer
namespace Go.Proofs.Ytoaecfblpkgehaa
open Go.Joins Go.ChangeShapes Go.WideShapes Go.RowKit Go.Deep
set_option maxHeartbeats 800000
set_option maxRecDepth 100000

section
variable {H : Type} {enc : TypeId × Value → H} {w : World} {base : Nat} {spare : Nat → Bool} {held : Bool}
theorem affine_open {r : Reach} {b0 : Nat} {v : Value} {d : DataW H} {p : List MemPlace} (hv : Value.okWide Try.prog w r b0 38 v) (h : DataW.Trod enc Try.prog w base spare held 38 v d p) :
    ∃ n l0 l1 l2 s0 s1 s2 : Int, v = .agg #[.int .i64 n, .int .i64 l0, .int .i64 l1, .int .i64 l2, .int .i64 s0, .int .i64 s1, .int .i64 s2] := by
  obtain ⟨cs, rfl, hsz⟩ := okWide_struct Try.underlying38 hv
  have c7 : Try.prog.cellsOf 38 = 7 := by kernel_rfl
  have c1 : Try.prog.cellsOf 3 = 1 := by kernel_rfl
  have c3 : Try.prog.cellsOf 36 = 3 := by kernel_rfl
  rw [c7] at hsz
  obtain ⟨cs⟩ := cs
  match cs, hsz with
  | [a, b, c, e, f, g, k], _ =>
    obtain ⟨fuel, hf⟩ := h
    have hf : DataW.trod enc Try.prog w base spare held fuel 38 [a, b, c, e, f, g, k] = some (d, p) := by simpa [Value.cells] using hf
    obtain ⟨xs, m, _, _, _, hxs, hg⟩ := DataW.trod_struct Try.underlying38 hf
    have n3 : xs.length = 3 := hxs
    match xs, n3 with
    | [y0, y1, y2], _ =>
      have g0 : DataW.trod enc Try.prog w base spare held m 3 (([a, b, c, e, f, g, k].drop 0).take (Try.prog.cellsOf 3)) = some y0 := hg 0 _ rfl
      have g1 : DataW.trod enc Try.prog w base spare held m 36 (([a, b, c, e, f, g, k].drop 1).take (Try.prog.cellsOf 36)) = some y1 := hg 1 _ rfl
      have g2 : DataW.trod enc Try.prog w base spare held m 36 (([a, b, c, e, f, g, k].drop 4).take (Try.prog.cellsOf 36)) = some y2 := hg 2 _ rfl
      rw [c1] at g0
      rw [c3] at g1 g2
      obtain ⟨x0, e0, _, _⟩ := DataW.trod_int Try.underlying3 g0
      have g1 : DataW.trod enc Try.prog w base spare held m 36 [b, c, e] = some y1 := g1
      have g2 : DataW.trod enc Try.prog w base spare held m 36 [f, g, k] = some y2 := g2
      obtain ⟨_, _, _, _, _, h0, h1, h2⟩ := trod_array3 Try.underlying36 (by kernel_rfl) g1
      obtain ⟨_, _, _, _, _, k0, k1, k2⟩ := trod_array3 Try.underlying36 (by kernel_rfl) g2
      obtain ⟨x1, e1, _, _⟩ := DataW.trod_int Try.underlying3 h0
      obtain ⟨x2, e2, _, _⟩ := DataW.trod_int Try.underlying3 h1
      obtain ⟨x3, e3, _, _⟩ := DataW.trod_int Try.underlying3 h2
      obtain ⟨x4, e4, _, _⟩ := DataW.trod_int Try.underlying3 k0
      obtain ⟨x5, e5, _, _⟩ := DataW.trod_int Try.underlying3 k1
      obtain ⟨x6, e6, _, _⟩ := DataW.trod_int Try.underlying3 k2
      simp only [List.drop, List.take, List.cons.injEq, and_true] at e0 e1 e2 e3 e4 e5 e6
      subst e0 e1 e2 e3 e4 e5 e6
      exact ⟨_, _, _, _, _, _, _, rfl⟩
end

theorem isTerm_any (n : Int) (w : World) : Calls Try.prog 39 #[.int .i64 n] w fun e w' => e = .returned (.bool (inB n (-1000000000000000) 1000000000000000)) ∧ w = w' := by
  go_enter Try.func39, Try.ntmps39
  go_wp2_with (go_at_call 35; (with_reducible refine (mWithin_any _ _ _ _).mono ?_); rintro e w' ⟨rfl, rfl⟩)
  go_ret
  exact ⟨rfl, rfl⟩
theorem isPlace_any (l s : Int) (w : World) : Calls Try.prog 37 #[.int .i64 l, .int .i64 s] w fun e w' => e = .returned (.bool (inB l 0 63 && inB s 0 63)) ∧ w = w' := by
  have key : ∀ p q : Bool, inB l 0 63 = p → inB s 0 63 = q → Calls Try.prog 37 #[.int .i64 l, .int .i64 s] w fun e w' => e = .returned (.bool (p && q)) ∧ w = w' := by
    intro p q h1 h2
    have H1 : Hid (∀ W : World, Calls Try.prog 35 #[.int .i64 l, .int .i64 0, .int .i64 63] W fun e w' => e = .returned (.bool p) ∧ W = w') := fun W => by rw [← h1]; exact mWithin_any _ _ _ W
    have H2 : Hid (∀ W : World, Calls Try.prog 35 #[.int .i64 s, .int .i64 0, .int .i64 63] W fun e w' => e = .returned (.bool q) ∧ W = w') := fun W => by rw [← h2]; exact mWithin_any _ _ _ W
    clear h1 h2
    cases p <;> cases q
    all_goals
      go_enter Try.func37, Try.ntmps37
      go_wp2_with (go_at_call 35; first | ((with_reducible refine (H1.out _).mono ?_); rintro e w' ⟨rfl, rfl⟩) | ((with_reducible refine (H2.out _).mono ?_); rintro e w' ⟨rfl, rfl⟩))
      go_ret
      exact ⟨rfl, rfl⟩
  exact key _ _ rfl rfl

/-- the k-th of three -/
def th (x y z : Int) (k : Nat) : Int := if k = 0 then x else if k = 1 then y else z
def tm (n : Int) : Bool := inB n (-1000000000000000) 1000000000000000
/-- the first k terms of both and the denominator are right -/
def rk (n l0 l1 l2 s0 s1 s2 : Int) : Nat → Bool
  | 0 => inB n 1 1000000000000
  | k + 1 => rk n l0 l1 l2 s0 s1 s2 k && (tm (th l0 l1 l2 k) && tm (th s0 s1 s2 k))

theorem checkAffine_any (n l0 l1 l2 s0 s1 s2 : Int) (w : World) : Calls Try.prog 14 #[.agg #[.int .i64 n, .int .i64 l0, .int .i64 l1, .int .i64 l2, .int .i64 s0, .int .i64 s1, .int .i64 s2]] w fun e w' => e = .returned (.int .i64 (eif (!rk n l0 l1 l2 s0 s1 s2 3) 2)) ∧ Below w.heap.size w w' := by
  have HW : Hid (∀ W : World, Calls Try.prog 35 #[.int .i64 n, .int .i64 1, .int .i64 1000000000000] W fun e w' => e = .returned (.bool (rk n l0 l1 l2 s0 s1 s2 0)) ∧ W = w') := fun W => mWithin_any _ _ _ W
  have HT : Hid (∀ (x : Int) (W : World), Calls Try.prog 39 #[.int .i64 x] W fun e w' => e = .returned (.bool (tm x)) ∧ W = w') := fun x W => isTerm_any x W
  go_enter Try.func14, Try.ntmps14
  go_wp2_with (go_at_call 35; (with_reducible refine (HW.out _).mono ?_); rintro e w' ⟨rfl, rfl⟩)
  go_loop [8, 3] (fun i r => ∃ k : Nat, k ≤ 3 ∧ i = .int .i64 (k : Int) ∧ r = .bool (rk n l0 l1 l2 s0 s1 s2 k)) (fun i _ => 3 - (intOf i).toNat)
  case atStart => exact ⟨0, Nat.zero_le _, rfl, rfl⟩
  case round =>
    obtain ⟨k, hk, rfl, rfl⟩ := hrel
    by_cases hlt : k < 3
    · obtain ⟨b, hb⟩ : ∃ b, rk n l0 l1 l2 s0 s1 s2 k = b := ⟨_, rfl⟩
      obtain ⟨b1, hb1⟩ : ∃ b, tm (th l0 l1 l2 k) = b := ⟨_, rfl⟩
      obtain ⟨b2, hb2⟩ : ∃ b, tm (th s0 s1 s2 k) = b := ⟨_, rfl⟩
      have hn : rk n l0 l1 l2 s0 s1 s2 (k + 1) = (b && (b1 && b2)) := by rw [rk, hb, hb1, hb2]
      rw [hb]
      have HN := Lib.hid hn
      have h3 : k = 0 ∨ k = 1 ∨ k = 2 := by omega
      rcases h3 with rfl | rfl | rfl
      all_goals
        simp only [th] at hb1 hb2
        simp at hb1 hb2
        have H1 : Hid (tm _ = b1) := hb1
        have H2 : Hid (tm _ = b2) := hb2
        clear hb hb1 hb2 hn
        cases b <;> cases b1 <;> cases b2
        all_goals
          go_wp2_with (go_at_call 39; (with_reducible refine (HT.out _ _).mono ?_); rintro e w' ⟨rfl, rfl⟩; first | rw [H1.out] | rw [H2.out])
          go_round
          case rel => first | exact ⟨1, by decide, by go_num, by rw [show rk n l0 l1 l2 s0 s1 s2 1 = _ from HN.out]; rfl⟩ | exact ⟨2, by decide, by go_num, by rw [show rk n l0 l1 l2 s0 s1 s2 2 = _ from HN.out]; rfl⟩ | exact ⟨3, by decide, by go_num, by rw [show rk n l0 l1 l2 s0 s1 s2 3 = _ from HN.out]; rfl⟩
          case measure => simp [intOf]
    · obtain rfl : k = 3 := by omega
      go_wp2_with (go_at_call 34; (with_reducible refine (errorIf_any _ _ _).mono ?_); rintro e w' ⟨rfl, rfl⟩)
      go_ret
      refine ⟨rfl, ?_⟩
      repeat (first | (with_reducible exact Below.refl _ _) | (with_reducible refine below_new ?_ (by first | omega | (simp; done) | (simp; omega))))
end Go.Proofs.Ytoaecfblpkgehaa
