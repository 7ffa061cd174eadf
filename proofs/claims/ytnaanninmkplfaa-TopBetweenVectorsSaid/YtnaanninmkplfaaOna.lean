/- Contracts: names, of package orbit and of the base. -/
import Derived.Test.YtnaanninmkplfaaOlo
namespace Go.Proofs.Ytnaanninmkplfaa
open Go.RowKit
set_option maxHeartbeats 400000
set_option maxRecDepth 100000

def let8 (c : Int) : Bool := (decide (97 ≤ c) && decide (c ≤ 122)) || (decide (65 ≤ c) && decide (c ≤ 90))
def dig8 (c : Int) : Bool := decide (48 ≤ c) && decide (c ≤ 57)
def okc (c : Int) : Bool := let8 c || dig8 c || decide (c = 45)
def ch (s : ByteArray) (k : Nat) : Int := if h : k < s.size then (s[k].toNat : Int) else 0
theorem ch_eq {s : ByteArray} {k : Nat} (h : k < s.size) : ch s k = (s[k].toNat : Int) := by unfold ch; rw [dif_pos h]
def okAll (s : ByteArray) : Nat → Bool
  | 0 => true
  | k + 1 => okAll s k && okc (ch s k)
theorem okAll_bad {s : ByteArray} {k n : Nat} (hk : k < n) (h : okc (ch s k) = false) : okAll s n = false := by
  induction n with
  | zero => omega
  | succ n ih =>
    rw [okAll]
    rcases Nat.lt_or_ge k n with g | g
    · rw [ih g, Bool.false_and]
    · obtain rfl : k = n := by omega
      rw [h, Bool.and_false]
def nmB (s : ByteArray) : Bool := inB s.size 1 12 && (let8 (ch s 0) && okAll s s.size)
theorem nmB_a {s : ByteArray} (h : inB s.size 1 12 = false) : nmB s = false := by unfold nmB; rw [h, Bool.false_and]
theorem nmB_b {s : ByteArray} (h : let8 (ch s 0) = false) : nmB s = false := by unfold nmB; rw [h, Bool.false_and, Bool.and_false]
theorem nmB_c {s : ByteArray} {k : Nat} (hk : k < s.size) (h : okc (ch s k) = false) : nmB s = false := by unfold nmB; rw [okAll_bad hk h, Bool.and_false, Bool.and_false]
theorem nmB_d {s : ByteArray} (h1 : inB s.size 1 12 = true) (h2 : let8 (ch s 0) = true) (h3 : okAll s s.size = true) : nmB s = true := by unfold nmB; rw [h1, h2, h3]; rfl

theorem isLetter_any (c : Int) (w : World) : Calls Try.prog 122 #[.int .u8 c] w fun e w' => e = .returned (.bool (let8 c)) ∧ w = w' := by
  have key : ∀ (p q r s : Bool), decide (97 ≤ c) = p → decide (c ≤ 122) = q → decide (65 ≤ c) = r → decide (c ≤ 90) = s → Calls Try.prog 122 #[.int .u8 c] w fun e w' => e = .returned (.bool ((p && q) || (r && s))) ∧ w = w' := by
    intro p q r s h1 h2 h3 h4
    cases p <;> cases q <;> cases r <;> cases s
    all_goals
      go_enter Try.func122, Try.ntmps122
      go_wp2
      go_ret
      exact ⟨rfl, rfl⟩
  exact key _ _ _ _ rfl rfl rfl rfl
theorem isDigit_any (c : Int) (w : World) : Calls Try.prog 123 #[.int .u8 c] w fun e w' => e = .returned (.bool (dig8 c)) ∧ w = w' := by
  have key : ∀ (p q : Bool), decide (48 ≤ c) = p → decide (c ≤ 57) = q → Calls Try.prog 123 #[.int .u8 c] w fun e w' => e = .returned (.bool (p && q)) ∧ w = w' := by
    intro p q h1 h2
    cases p <;> cases q
    all_goals
      go_enter Try.func123, Try.ntmps123
      go_wp2
      go_ret
      exact ⟨rfl, rfl⟩
  exact key _ _ rfl rfl

theorem isName_any (s : ByteArray) (w : World) (hm : s.size ≤ maxLen) : Calls Try.prog 72 #[.string s] w fun e w' => e = .returned (.bool (nmB s)) ∧ w = w' := by
  unfold maxLen at hm
  by_cases h1 : inB s.size 1 12 = true
  · have hs := inB_iff.1 h1
    have hp : 0 < s.size := by omega
    have hp2 : (0 : Int) < (s.size : Int) := by omega
    by_cases h2 : let8 (ch s 0) = true
    · have h3 := h2
      rw [ch_eq hp] at h3
      have H1 := Lib.hid h1
      have H2 := Lib.hid h2
      have HS := Lib.hid hs
      clear h2 hs
      go_enter Try.func72, Try.ntmps72
      go_wp2_with (first
        | (go_at_call 106; refine (within_any _ _ _ _).mono ?_; rintro e w' ⟨rfl, rfl⟩)
        | (go_at_call 122; refine (isLetter_any _ _).mono ?_; rintro e w' ⟨rfl, rfl⟩))
      clear h3 h1
      go_loop [16] (fun i => ∃ k : Nat, k ≤ s.size ∧ i = .int .i64 (k : Int) ∧ okAll s k = true) (fun i => s.size - (intOf i).toNat)
      case atStart => exact ⟨0, Nat.zero_le _, rfl, rfl⟩
      case round =>
        obtain ⟨k, hk, rfl, hz⟩ := hrel
        have HZ := Lib.hid hz
        clear hz
        by_cases hlt : k < s.size
        · have key : ∀ (p q r : Bool), let8 (s[k].toNat : Int) = p → dig8 (s[k].toNat : Int) = q → ((s[k].toNat : Int) == 45) = r → ((s[k].toNat : Int) != 45) = !r → okc (ch s k) = (p || q || r) := by
            intro p q r e1 e2 e3 _
            unfold okc
            rw [ch_eq hlt, e1, e2]
            congr 1
          obtain ⟨p, e1⟩ : ∃ p, let8 (s[k].toNat : Int) = p := ⟨_, rfl⟩
          obtain ⟨q, e2⟩ : ∃ q, dig8 (s[k].toNat : Int) = q := ⟨_, rfl⟩
          obtain ⟨r, e3⟩ : ∃ r, ((s[k].toNat : Int) == 45) = r := ⟨_, rfl⟩
          have e4 : ((s[k].toNat : Int) != 45) = !r := by rw [← e3]; rfl
          have HK := Lib.hid (key p q r e1 e2 e3 e4)
          clear key
          have u1 : (0 : Int) ≤ (k : Int) := by omega
          have u2 : (k : Int) < (s.size : Int) := by omega
          cases p <;> cases q <;> cases r
          case false.false.false =>
            go_wp2_with (first
              | (go_at_call 123; refine (isDigit_any _ _).mono ?_; rintro e w' ⟨rfl, rfl⟩)
              | (go_at_call 122; refine (isLetter_any _ _).mono ?_; rintro e w' ⟨rfl, rfl⟩))
            go_ret
            rw [nmB_c hlt HK.out]
            exact ⟨rfl, rfl⟩
          all_goals
            go_wp2_with (first
              | (go_at_call 123; refine (isDigit_any _ _).mono ?_; rintro e w' ⟨rfl, rfl⟩)
              | (go_at_call 122; refine (isLetter_any _ _).mono ?_; rintro e w' ⟨rfl, rfl⟩))
            go_round
            case rel => exact ⟨k + 1, by omega, by go_num, by rw [okAll, HZ.out, HK.out]; rfl⟩
            case measure => simp [intOf]; omega
        · go_wp2
          go_ret
          obtain rfl : k = s.size := by omega
          rw [nmB_d H1.out H2.out HZ.out]
          exact ⟨rfl, rfl⟩
    · have h2 : let8 (ch s 0) = false := by simpa using h2
      have HE := Lib.hid (nmB_b h2)
      rw [ch_eq hp] at h2
      go_enter Try.func72, Try.ntmps72
      go_wp2_with (first
        | (go_at_call 106; refine (within_any _ _ _ _).mono ?_; rintro e w' ⟨rfl, rfl⟩)
        | (go_at_call 122; refine (isLetter_any _ _).mono ?_; rintro e w' ⟨rfl, rfl⟩))
      go_ret
      rw [HE.out]
      exact ⟨rfl, rfl⟩
  · have h1 : inB s.size 1 12 = false := by simpa using h1
    have HE := Lib.hid (nmB_a h1)
    go_enter Try.func72, Try.ntmps72
    go_wp2_with (first
      | (go_at_call 106; refine (within_any _ _ _ _).mono ?_; rintro e w' ⟨rfl, rfl⟩))
    go_ret
    rw [HE.out]
    exact ⟨rfl, rfl⟩

theorem baseWithin_any (n lo hi : Int) (w : World) : Calls Try.prog 22 #[.int .i64 n, .int .i64 lo, .int .i64 hi] w fun e w' => e = .returned (.bool (inB n lo hi)) ∧ w = w' := by
  have key : ∀ (p q : Bool), decide (lo ≤ n) = p → decide (n ≤ hi) = q → Calls Try.prog 22 #[.int .i64 n, .int .i64 lo, .int .i64 hi] w fun e w' => e = .returned (.bool (p && q)) ∧ w = w' := by
    intro p q h1 h2
    cases p <;> cases q
    all_goals
      go_enter Try.func22, Try.ntmps22
      go_wp2
      go_ret
      exact ⟨rfl, rfl⟩
  exact key _ _ rfl rfl

/-- what a byte at place k is, and what the loop does about it -/
def Kin (c : Int) (k : Nat) : Prop :=
  (97 ≤ c ∧ c ≤ 122) ∨ ((65 ≤ c ∧ c ≤ 90) ∧ ¬ 97 ≤ c) ∨ (¬ 97 ≤ c ∧ ¬ 65 ≤ c ∧ 0 < k ∧ c = 45) ∨ (¬ 97 ≤ c ∧ ¬ 65 ≤ c ∧ 0 < k ∧ 48 ≤ c ∧ c ≤ 57)
def Kout (c : Int) (k : Nat) : Prop :=
  (97 ≤ c ∧ 122 < c ∧ k = 0) ∨ (97 ≤ c ∧ 122 < c ∧ 0 < k) ∨ (¬ 97 ≤ c ∧ 65 ≤ c ∧ 90 < c ∧ k = 0) ∨ (¬ 97 ≤ c ∧ 65 ≤ c ∧ 90 < c ∧ 0 < k) ∨ (¬ 97 ≤ c ∧ ¬ 65 ≤ c ∧ k = 0) ∨
    (¬ 97 ≤ c ∧ ¬ 65 ≤ c ∧ 0 < k ∧ c < 48 ∧ c ≠ 45) ∨ (¬ 97 ≤ c ∧ ¬ 65 ≤ c ∧ 0 < k ∧ 57 < c)
theorem kin_or (c : Int) (k : Nat) : Kin c k ∨ Kout c k := by unfold Kin Kout; omega
theorem let8_iff (c : Int) : let8 c = true ↔ (97 ≤ c ∧ c ≤ 122) ∨ (65 ≤ c ∧ c ≤ 90) := by simp [let8]
theorem okc_iff (c : Int) : okc c = true ↔ ((97 ≤ c ∧ c ≤ 122) ∨ (65 ≤ c ∧ c ≤ 90)) ∨ (48 ≤ c ∧ c ≤ 57) ∨ c = 45 := by simp [okc, let8, dig8, or_assoc]
theorem kin_okc {c : Int} {k : Nat} (h : Kin c k) : okc c = true ∧ (k = 0 → let8 c = true) := by
  rw [okc_iff, let8_iff]
  unfold Kin at h
  omega
theorem kout_bad {s : ByteArray} {k : Nat} (hk : k < s.size) (h : Kout (ch s k) k) : nmB s = false := by
  by_cases h0 : k = 0
  · subst h0
    refine nmB_b ?_
    rw [← Bool.not_eq_true, let8_iff]
    unfold Kout at h
    omega
  · refine nmB_c hk ?_
    rw [← Bool.not_eq_true, okc_iff]
    unfold Kout at h
    omega

theorem baseIsName_any (s : ByteArray) (w : World) (hm : s.size ≤ maxLen) : Calls Try.prog 80 #[.string s] w fun e w' => e = .returned (.bool (nmB s)) ∧ w = w' := by
  unfold maxLen at hm
  obtain ⟨n, hn⟩ : ∃ n, n = s.size := ⟨_, rfl⟩
  by_cases h1 : (s.size : Int) < 1
  · have HE := Lib.hid (nmB_a (s := s) (inB_f (by omega)))
    have d1 : decide ((s.size : Int) < 1) = true := decide_eq_true h1
    clear h1
    go_enter Try.func80, Try.ntmps80
    go_wp2
    go_ret
    rw [HE.out]
    exact ⟨rfl, rfl⟩
  · by_cases h2 : (12 : Int) < (s.size : Int)
    · have HE := Lib.hid (nmB_a (s := s) (inB_f (by omega)))
      go_enter Try.func80, Try.ntmps80
      go_wp2
      go_ret
      rw [HE.out]
      exact ⟨rfl, rfl⟩
    · have HB := Lib.hid (inB_t (n := (s.size : Int)) (lo := 1) (hi := 12) (by omega))
      go_enter Try.func80, Try.ntmps80
      go_wp2
      go_loop [3] (fun i => ∃ k : Nat, k ≤ s.size ∧ i = .int .i64 (k : Int) ∧ okAll s k = true ∧ (0 < k → let8 (ch s 0) = true)) (fun i => s.size - (intOf i).toNat)
      case atStart => exact ⟨0, Nat.zero_le _, rfl, rfl, fun h => absurd h (by omega)⟩
      case round =>
        obtain ⟨k, hk, rfl, hz, hf⟩ := hrel
        have HZ := Lib.hid hz
        have HF := Lib.hid hf
        clear hz hf
        by_cases hlt : k < s.size
        · have u1 : (0 : Int) ≤ (k : Int) := by omega
          have u2 : (k : Int) < (s.size : Int) := by omega
          have hce := ch_eq hlt
          rcases kin_or (ch s k) k with hki | hko
          · have HG := Lib.hid (kin_okc hki)
            rw [hce] at hki
            unfold Kin at hki
            clear hce
            rcases hki with ⟨a1, a2⟩ | ⟨⟨a1, a2⟩, a3⟩ | ⟨a1, a2, a3, b4⟩ | ⟨a1, a2, a3, a4, a5⟩
            all_goals
              try (have a6 : ((k : Int) == 0) = false := by rw [beq_eq_false_iff_ne]; omega)
              try (have a7 : ((s[k].toNat : Int) != 45) = false := bne_eq_false_iff_eq.2 b4)
              try (have a8 : ((s[k].toNat : Int) != 45) = true := by rw [bne_iff_ne]; omega)
              try clear b4
              go_wp2
              try any_goals (exfalso; rename_i q1; simp only [Bool.not_eq_false', decide_eq_true_eq] at q1; omega)
              go_round
              case rel => exact ⟨k + 1, by omega, by go_num, by rw [okAll, HZ.out, HG.out.1]; rfl, fun _ => by
                rcases Nat.eq_zero_or_pos k with g | g
                · have := HG.out.2 g
                  rwa [g] at this
                · exact HF.out g⟩
              case measure => simp [intOf]; omega
          · have HG := Lib.hid (kout_bad hlt hko)
            rw [hce] at hko
            unfold Kout at hko
            clear hce
            rcases hko with ⟨a1, a2, a3⟩ | ⟨a1, a2, a3⟩ | ⟨a1, a2, a4, a3⟩ | ⟨a1, a2, a4, a3⟩ | ⟨a1, a2, a3⟩ | ⟨a1, a2, a3, a4, a5⟩ | ⟨a1, a2, a3, a4⟩
            all_goals
              first
              | (have a6 : ((k : Int) == 0) = true := by rw [beq_iff_eq]; omega
                 clear a3)
              | (have a6 : ((k : Int) == 0) = false := by rw [beq_eq_false_iff_ne]; omega
                 have a8 : ((s[k].toNat : Int) != 45) = true := by rw [bne_iff_ne]; omega)
            all_goals
              try clear a5
              go_wp2
              try any_goals (exfalso; rename_i q1; simp only [Bool.not_eq_false', decide_eq_true_eq] at q1; omega)
              go_ret
              rw [HG.out]
              exact ⟨rfl, rfl⟩
        · go_wp2
          go_ret
          obtain rfl : k = s.size := by omega
          rw [nmB_d HB.out (HF.out (by have := inB_iff.1 HB.out; omega)) HZ.out]
          exact ⟨rfl, rfl⟩
end Go.Proofs.Ytnaanninmkplfaa
