/- Match: contracts of the small functions: within, errorIf, firstError. -/
import Derived.Test.YtoaecfblpkgehaaGen
namespace Go.Proofs.Ytoaecfblpkgehaa
open Go.RowKit
set_option maxHeartbeats 400000
set_option maxRecDepth 100000

theorem mWithin_any (n lo hi : Int) (w : World) : Calls Try.prog 35 #[.int .i64 n, .int .i64 lo, .int .i64 hi] w fun e w' => e = .returned (.bool (inB n lo hi)) ∧ w = w' := by
  have key : ∀ (p q : Bool), decide (lo ≤ n) = p → decide (n ≤ hi) = q → Calls Try.prog 35 #[.int .i64 n, .int .i64 lo, .int .i64 hi] w fun e w' => e = .returned (.bool (p && q)) ∧ w = w' := by
    intro p q h1 h2
    cases p <;> cases q
    all_goals
      go_enter Try.func35, Try.ntmps35
      go_wp2
      go_ret
      exact ⟨rfl, rfl⟩
  exact key _ _ rfl rfl

/-! ### errors -/
def eif (b : Bool) (x : Int) : Int := if b = true then x else 0
theorem errorIf_any (b : Bool) (x : Int) (w : World) : Calls Try.prog 34 #[.bool b, .int .i64 x] w fun e w' => e = .returned (.int .i64 (eif b x)) ∧ w = w' := by
  cases b
  · go_enter Try.func34, Try.ntmps34
    go_wp2
    go_ret
    exact ⟨rfl, rfl⟩
  · go_enter Try.func34, Try.ntmps34
    go_wp2
    go_ret
    exact ⟨rfl, rfl⟩

/-- the first of the first n codes that is not 0 -/
def fe (f : Nat → Int) : Nat → Int
  | 0 => 0
  | k + 1 => if fe f k = 0 then f k else fe f k
theorem fe_hit {f : Nat → Int} {k n : Nat} (h : fe f k = 0) (hf : f k ≠ 0) (hk : k < n) : fe f n = f k := by
  induction n with
  | zero => omega
  | succ n ih =>
    rw [fe]
    rcases Nat.lt_or_ge k n with g | g
    · rw [ih g, if_neg hf]
    · obtain rfl : k = n := by omega
      rw [if_pos h]

theorem firstError_any (A : Option Addr) (n c : Nat) (f : Nat → Int) (w : World) (hs : Sl w A n (fun i => .int .i64 (f i))) (hn : n ≤ 100) :
    Calls Try.prog 32 #[.slice A n c] w fun e w' => e = .returned (.int .i64 (fe f n)) ∧ w = w' := by
  have HS := Lib.hid hs
  clear hs
  go_enter Try.func32, Try.ntmps32
  go_wp2
  go_loop [7] (fun i => ∃ k : Nat, k ≤ n ∧ i = .int .i64 (k : Int) ∧ fe f k = 0) (fun i => n - (intOf i).toNat)
  case atStart => exact ⟨0, Nat.zero_le _, rfl, rfl⟩
  case round =>
    obtain ⟨k, hk, rfl, hz⟩ := hrel
    have HZ := Lib.hid hz
    clear hz
    by_cases hlt : k < n
    · obtain ⟨b, off, rfl, _, hc⟩ := HS.out (by omega)
      have hcell := hc k hlt
      obtain ⟨x, hx⟩ : ∃ x, x = f k := ⟨_, rfl⟩
      simp only [← hx] at hcell
      have HX := Lib.hid hx
      clear hc hx
      by_cases h0 : x = 0
      · have H0 := Lib.hid h0
        have e0 : (x != 0) = false := by simpa using h0
        clear h0
        go_wp2
        go_round
        case rel => exact ⟨k + 1, by omega, by go_num, by rw [fe, if_pos HZ.out, ← HX.out, H0.out]⟩
        case measure => simp [intOf]; omega
      · have e0 : (x != 0) = true := by simpa using h0
        have HH := Lib.hid (fe_hit (n := n) HZ.out (HX.out ▸ h0) hlt)
        clear h0
        go_wp2
        go_ret
        rw [HH.out, ← HX.out]
        exact ⟨rfl, rfl⟩
    · go_wp2
      go_ret
      obtain rfl : k = n := by omega
      rw [HZ.out]
      exact ⟨rfl, rfl⟩

end Go.Proofs.Ytoaecfblpkgehaa
