/- The law: Weights returns what the document specifies for a kernel and a part, or the errors. -/
import Derived.Test.YtoaecfblpkgehaaMwr
import Derived.Test.YtoaecfblpkgehaaMwk
namespace Go.Proofs.Ytoaecfblpkgehaa
open Go.RowKit
set_option maxHeartbeats 800000
set_option maxRecDepth 100000

theorem weights_all {w : World} {k p : Int} (_hk : I64 k) (_hp : I64 p) :
    Calls Try.prog 3 #[.int .i64 k, .int .i64 p] w fun e w' => e = .returned (.bool true) ∧ Below w.heap.size w w' := by
  by_cases hk : inB k 0 2 = true
  · by_cases hp : inB p 0 15 = true
    · have h1 := inB_iff.1 hk
      have h2 := inB_iff.1 hp
      obtain ⟨a, rfl⟩ : ∃ a : Nat, k = (a : Int) := ⟨k.toNat, by omega⟩
      obtain ⟨b, rfl⟩ : ∃ b : Nat, p = (b : Int) := ⟨p.toNat, by omega⟩
      exact weights_right (by omega) (by omega) w
    · have hp : inB p 0 15 = false := by simpa using hp
      have he : wtE k p = 2 := by unfold wtE; rw [if_pos hk, hp, if_neg (by decide)]
      have HE : Hid (∀ W : World, Calls Try.prog 7 #[.int .i64 k, .int .i64 p] W fun e w' => e = .returned (.tuple #[.slice none 0 0, .float .f32 0, .int .i64 2]) ∧ Below W.heap.size W w') := fun W => by
        have := weights_wrong k p W (by rw [he]; decide)
        rwa [he] at this
      have HK : Hid (∀ W : World, Calls Try.prog 8 #[.int .i64 k] W fun e w' => e = .returned (.bool true) ∧ W = w') := fun W => by rw [← hk]; exact isKernel_any k W
      have HP : Hid (∀ W : World, Calls Try.prog 9 #[.int .i64 p, .int .i64 0, .int .i64 15] W fun e w' => e = .returned (.bool false) ∧ W = w') := fun W => by rw [← hp]; exact baseWithin_any _ _ _ W
      clear hk hp he
      go_enter Try.func3, Try.ntmps3
      go_wp2_with fail
      refine (awake_ok _).mono ?_
      rintro e w1 ⟨rfl, hb1⟩
      have HB1 := Lib.hid hb1
      clear hb1
      go_wp2_with fail
      refine (HE.out _).mono ?_
      rintro e w2 ⟨rfl, hb2⟩
      have HB2 := Lib.hid hb2
      clear hb2
      go_wp2_with (first
        | (go_at_call 8; (with_reducible refine (HK.out _).mono ?_); rintro e w' ⟨rfl, rfl⟩)
        | (go_at_call 9; (with_reducible refine (HP.out _).mono ?_); rintro e w' ⟨rfl, rfl⟩))
      go_ret
      exact ⟨rfl, below_two HB1.out HB2.out⟩
  · have hk : inB k 0 2 = false := by simpa using hk
    have he : wtE k p = 15 := by unfold wtE; rw [hk, if_neg (by decide)]
    have HE : Hid (∀ W : World, Calls Try.prog 7 #[.int .i64 k, .int .i64 p] W fun e w' => e = .returned (.tuple #[.slice none 0 0, .float .f32 0, .int .i64 15]) ∧ Below W.heap.size W w') := fun W => by
      have := weights_wrong k p W (by rw [he]; decide)
      rwa [he] at this
    have HK : Hid (∀ W : World, Calls Try.prog 8 #[.int .i64 k] W fun e w' => e = .returned (.bool false) ∧ W = w') := fun W => by rw [← hk]; exact isKernel_any k W
    clear hk he
    go_enter Try.func3, Try.ntmps3
    go_wp2_with fail
    refine (awake_ok _).mono ?_
    rintro e w1 ⟨rfl, hb1⟩
    have HB1 := Lib.hid hb1
    clear hb1
    go_wp2_with fail
    refine (HE.out _).mono ?_
    rintro e w2 ⟨rfl, hb2⟩
    have HB2 := Lib.hid hb2
    clear hb2
    go_wp2_with (go_at_call 8; (with_reducible refine (HK.out _).mono ?_); rintro e w' ⟨rfl, rfl⟩)
    go_ret
    exact ⟨rfl, below_two HB1.out HB2.out⟩
end Go.Proofs.Ytoaecfblpkgehaa
