/- Plain facts: the float's root of a whole number below 2 to the power of 57, cut to a whole number, is the true root or one more. No program is named here. -/
import Derived.Test.YtegmjanpeaibcaaFlo
namespace Go.Proofs.Ytegmjanpeaibcaa
open Ieee
set_option maxRecDepth 100000

theorem rootFrom_spec (n : Nat) : ∀ todo root : Nat, root * root ≤ n → n < (root + 2 ^ todo) * (root + 2 ^ todo) → Datum.rootFrom n todo root * Datum.rootFrom n todo root ≤ n ∧ n < (Datum.rootFrom n todo root + 1) * (Datum.rootFrom n todo root + 1)
  | 0, root, h1, h2 => by
    rw [Datum.rootFrom]
    exact ⟨h1, by simpa using h2⟩
  | todo + 1, root, h1, h2 => by
    rw [Datum.rootFrom]
    simp only [Nat.one_shiftLeft]
    split
    · rename_i h
      refine rootFrom_spec n todo _ h ?_
      have e : root + 2 ^ todo + 2 ^ todo = root + 2 ^ (todo + 1) := by rw [Nat.pow_succ]; omega
      rw [e]
      exact h2
    · rename_i h
      exact rootFrom_spec n todo root h1 (Nat.lt_of_not_le h)

theorem cut3 (g : Nat) (hg : 2 ≤ g) : ∃ e : Nat, Toward.even.cut false g 3 = g / 8 + e ∧ ((e = 1 ∧ 4 ≤ g % 8) ∨ (e = 0 ∧ g % 8 ≤ 4)) := by
  have hl : 1 ≤ g.log2 := (Nat.le_log2 (by omega)).2 hg
  have hm : min 3 (g.log2 + 2) = 3 := by omega
  unfold Toward.cut
  simp only [hm, Nat.one_shiftLeft]
  rw [show (2 : Nat) ^ 3 = 8 from rfl]
  refine ⟨_, rfl, ?_⟩
  by_cases h1 : 8 < 2 * (g % 8)
  · left
    simp [h1]
    omega
  · by_cases h2 : 8 = 2 * (g % 8)
    · have h3 : g % 8 = 4 := by omega
      by_cases h4 : g / 8 % 2 = 1
      · left; simp [h3, h4]
      · right; simp [h3, h4]
    · right
      simp [h1]
      omega

theorem toInt_num (k x : Nat) (hk : 2 ^ 52 ≤ k) (hx : x ≤ 52) : (Datum.number false k (-(x : Int))).toInt .zero = some ((k / 2 ^ x : Nat) : Int) := by
  have hl : 52 ≤ k.log2 := (Nat.le_log2 (by have := Nat.two_pow_pos 52; omega)).2 hk
  have e1 : (-(x : Int)).toNat = 0 := by omega
  have e2 : (- -(x : Int)).toNat = x := by omega
  have hm : min x (k.log2 + 2) = x := by omega
  unfold Datum.toInt Datum.integral
  simp only [e1, e2, Nat.shiftLeft_zero, Toward.cut, hm, Nat.one_shiftLeft]
  simp [signed]

/-- a number with 56 digits, written and cut -/
theorem write_cut (g h : Nat) (hg1 : 2 ^ 55 ≤ g) (hg2 : g < 2 ^ 56) (hh1 : 5 ≤ h) (hh2 : h ≤ 54) :
    ∃ k : Nat, floatToIntVal .f64 (Ieee.double.write (.number false g (-(h : Int) - 1))) .i64 = some ((k / 2 ^ (h - 2) : Nat) : Int) ∧ (∀ T, 8 * T ≤ g + 3 → T ≤ k) ∧ (∀ T, g ≤ 8 * T + 3 → k ≤ T) := by
  obtain ⟨e, hc, he⟩ := cut3 g (by omega)
  have hl : g.log2 = 55 := by
    have a := (Nat.le_log2 (k := 55) (n := g) (by omega)).2 hg1
    have b := (Nat.log2_lt (k := 56) (n := g) (by omega)).2 hg2
    omega
  have hlp : double.leastPlace = -1074 := by decide
  have hfb : double.fractionBits = 52 := rfl
  have hbi : double.binade = 4503599627370496 := by decide
  have hinf : double.infRung = 9218868437227405312 := by decide
  obtain ⟨kk, hkk⟩ : ∃ kk, kk = g / 8 + e := ⟨_, rfl⟩
  have hk1 : 4503599627370496 ≤ kk := by omega
  have hk2 : kk ≤ 9007199254740992 := by omega
  rw [← hkk] at hc
  have hn : double.write (.number false g (-(h : Int) - 1)) = double.word false ((1076 - h) * 4503599627370496 + kk) := by
    show double.nearest false g (-(h : Int) - 1) = _
    unfold Format.nearest
    rw [if_neg (by omega)]
    simp only [hlp, hbi, hinf, hfb, hl]
    have hlast : max (-(h : Int) - 1 + ((55 : Nat) : Int) - ((52 : Nat) : Int)) (-1074) = 2 - (h : Int) := by omega
    rw [hlast]
    have e1 : (-(h : Int) - 1 - (2 - (h : Int))).toNat = 0 := by omega
    have e2 : (2 - (h : Int) - (-(h : Int) - 1)).toNat = 3 := by omega
    have e3 : (2 - (h : Int) - -1074).toNat = 1076 - h := by omega
    rw [e1, e2, e3, Nat.shiftLeft_zero, hc, Nat.min_eq_left (by omega)]
  refine ⟨kk, ?_, fun T hT => by omega, fun T hT => by omega⟩
  have hval : (FloatKind.f64.decode (double.write (.number false g (-(h : Int) - 1)))).toInt .zero = some ((kk / 2 ^ (h - 2) : Nat) : Int) := by
    rw [hn]
    show (double.read _).toInt .zero = _
    rcases Nat.lt_or_ge kk 9007199254740992 with q | q
    · have := read_word double false (1076 - h) kk (by rw [hbi]; exact hk1) (by rw [hbi]; omega) (by show 1076 - h + 2 ≤ 2 ^ 11 - 1; omega)
      rw [hbi] at this
      rw [this, hlp, show (-1074 : Int) + ((1076 - h : Nat) : Int) = -((h - 2 : Nat) : Int) by omega]
      exact toInt_num _ _ (by omega) (by omega)
    · have hq : kk = 4503599627370496 * 2 := by omega
      have := read_word double false (1077 - h) 4503599627370496 (by rw [hbi]; exact Nat.le_refl _) (by rw [hbi]; omega) (by show 1077 - h + 2 ≤ 2 ^ 11 - 1; omega)
      rw [hbi] at this
      have h7 : (1076 - h) * 4503599627370496 + kk = (1077 - h) * 4503599627370496 + 4503599627370496 := by omega
      have e5 : h - 2 = (h - 3) + 1 := by omega
      have h8 : kk / 2 ^ (h - 2) = 4503599627370496 / 2 ^ (h - 3) := by
        rw [hq, e5, Nat.pow_succ, Nat.mul_div_mul_right _ _ (by decide)]
      rw [h7, this, hlp, h8, show (-1074 : Int) + ((1077 - h : Nat) : Int) = -((h - 3 : Nat) : Int) by omega]
      exact toInt_num _ _ (by omega) (by omega)
  have hlt : kk / 2 ^ (h - 2) ≤ 9007199254740992 := Nat.le_trans (Nat.div_le_self _ _) hk2
  unfold floatToIntVal
  rw [hval]
  generalize kk / 2 ^ (h - 2) = z at hlt
  have a1 : IntKind.i64.min = -9223372036854775808 := by decide
  have a2 : IntKind.i64.max = 9223372036854775807 := by decide
  simp only [a1, a2]
  rw [if_pos ⟨by omega, by omega⟩]

theorem sq_exp (a b : Nat) (hb : 2 ≤ a * b) : (a * b - 2) * (a * b - 2) + 4 * (a * b) = a * a * (b * b) + 4 := by
  obtain ⟨c, hc⟩ : ∃ c, a * b = c + 2 := ⟨a * b - 2, by omega⟩
  have e : a * a * (b * b) = (a * b) * (a * b) := by rw [Nat.mul_mul_mul_comm]
  rw [e, hc]
  simp only [Nat.add_sub_cancel, Nat.add_mul, Nat.mul_add]
  omega
theorem sq_exp2 (a b : Nat) : (a * b + 2) * (a * b + 2) = a * a * (b * b) + 4 * (a * b) + 4 := by
  have e : a * a * (b * b) = (a * b) * (a * b) := by rw [Nat.mul_mul_mul_comm]
  rw [e]
  generalize a * b = c
  simp only [Nat.add_mul, Nat.mul_add]
  omega

theorem sqrt_num (m more h N n r E : Nat) (i : Int) (hm1 : 2 ^ 52 ≤ m) (hm2 : m < 2 ^ 53) (hmo : more = 56 + ((i - 56) % 2).toNat) (hh : i - (more : Int) = -2 * (h : Int)) (hh1 : 5 ≤ h) (hh2 : h ≤ 54)
    (hN : m * 2 ^ more = N * (2 ^ h * 2 ^ h)) (h1 : n ≤ N + E) (h2 : N ≤ n + E) (h3 : E * 2 ^ h + 1 ≤ 4 * r) (r1 : r * r ≤ n) (r2 : n < (r + 1) * (r + 1)) :
    ∃ q : Nat, ((Datum.number false m i).root 54).map double.write = some q ∧ ∃ g : Int, floatToIntVal .f64 q .i64 = some g ∧ (r : Int) ≤ g ∧ g ≤ (r : Int) + 1 := by
  have hl : m.log2 = 52 := by
    have a := (Nat.le_log2 (k := 52) (n := m) (by omega)).2 hm1
    have b := (Nat.log2_lt (k := 53) (n := m) (by omega)).2 hm2
    omega
  have hmr : 56 ≤ more ∧ more ≤ 57 := by omega
  obtain ⟨n', hn'⟩ : ∃ n', n' = m * 2 ^ more := ⟨_, rfl⟩
  have hb1 : 2 ^ 108 ≤ n' := by
    rw [hn', show 2 ^ 108 = 2 ^ 52 * 2 ^ 56 from by decide]
    exact Nat.mul_le_mul hm1 (Nat.pow_le_pow_right (by decide) hmr.1)
  have hb2 : n' < 2 ^ 110 := by
    rw [hn', show 2 ^ 110 = 2 ^ 53 * 2 ^ 57 from by decide]
    exact Nat.mul_lt_mul_of_lt_of_le hm2 (Nat.pow_le_pow_right (by decide) hmr.2) (by decide)
  have hln : n'.log2 = 108 ∨ n'.log2 = 109 := by
    have a := (Nat.le_log2 (k := 108) (n := n') (by omega)).2 hb1
    have b := (Nat.log2_lt (k := 110) (n := n') (by omega)).2 hb2
    omega
  obtain ⟨w, hw⟩ : ∃ w, w = Datum.rootFrom n' (n'.log2 / 2 + 1) 0 := ⟨_, rfl⟩
  have hspec : w * w ≤ n' ∧ n' < (w + 1) * (w + 1) := by
    rw [hw]
    refine rootFrom_spec n' _ 0 (by omega) ?_
    have e : n'.log2 / 2 + 1 = 55 := by omega
    rw [e, Nat.zero_add]
    exact Nat.lt_of_lt_of_le hb2 (by decide)
  obtain ⟨w1, w2⟩ := hspec
  have wl : 2 ^ 54 ≤ w := by
    rcases Nat.lt_or_ge w (2 ^ 54) with q | q
    · have : (w + 1) * (w + 1) ≤ 2 ^ 54 * 2 ^ 54 := Nat.mul_le_mul q q
      have e : 2 ^ 54 * 2 ^ 54 = 2 ^ 108 := by decide
      omega
    · exact q
  have wh : w < 2 ^ 55 := by
    rcases Nat.lt_or_ge w (2 ^ 55) with q | q
    · exact q
    · have : 2 ^ 55 * 2 ^ 55 ≤ w * w := Nat.mul_le_mul q q
      have e : 2 ^ 55 * 2 ^ 55 = 2 ^ 110 := by decide
      omega
  obtain ⟨s, hs⟩ : ∃ s, s = (w * w != n').toNat := ⟨_, rfl⟩
  have hs1 : s ≤ 1 := by rw [hs]; exact Bool.toNat_le _
  have hs2 : w * w ≠ n' → s = 1 := fun g => by
    rw [hs, show (w * w != n') = true by simpa using g]; rfl
  have hroot : (Datum.number false m i).root 54 = some (.number false (2 * w + s) (-(h : Int) - 1)) := by
    simp only [Datum.root]
    rw [if_neg (by omega), if_neg (by decide)]
    simp only [hl]
    have e1 : 2 * 54 - 52 + ((i - ((2 * 54 - 52 : Nat) : Int)) % 2).toNat = more := by rw [hmo]; rfl
    simp only [e1, Nat.shiftLeft_eq, ← hn', ← hw, ← hs]
    rw [hh, show -2 * (h : Int) / 2 = -(h : Int) by omega]
  obtain ⟨k, hk, hk1, hk2⟩ := write_cut (2 * w + s) h (by omega) (by omega) hh1 hh2
  refine ⟨_, by rw [hroot]; rfl, _, hk, ?_, ?_⟩
  all_goals
    obtain ⟨P, hP⟩ : ∃ P, P = 2 ^ h := ⟨_, rfl⟩
    have hP4 : 32 ≤ P := by
      rw [hP]
      have := Nat.pow_le_pow_right (n := 2) (show 2 > 0 by decide) hh1
      exact this
    have hPx : 4 * 2 ^ (h - 2) = P := by
      rw [hP, show 4 = 2 ^ 2 from rfl, ← Nat.pow_add]
      congr 1
      omega
    rw [← hn'] at hN
    rw [← hP] at hN h3
    have hr0 : 1 ≤ r := by omega
    have x0 : 0 < 2 ^ (h - 2) := Nat.two_pow_pos _
  · have hrP : 2 ≤ r * P := by
      have := Nat.mul_le_mul hr0 hP4
      omega
    have ex := sq_exp r P hrP
    have b1 : r * r * (P * P) ≤ (N + E) * (P * P) := Nat.mul_le_mul_right _ (Nat.le_trans r1 h1)
    rw [Nat.add_mul, ← hN] at b1
    have b2 : (E * P + 1) * P ≤ 4 * r * P := Nat.mul_le_mul_right _ h3
    have b3 : E * (P * P) = E * P * P := (Nat.mul_assoc _ _ _).symm
    have b4 : 4 * r * P = 4 * (r * P) := Nat.mul_assoc _ _ _
    rw [Nat.add_mul, Nat.one_mul, ← b3, b4] at b2
    have key : (r * P - 2) * (r * P - 2) + P ≤ n' + 4 := by omega
    have c1 : r * P ≤ w + 2 := by
      rcases Nat.lt_or_ge (w + 2) (r * P) with q | q
      · have : (w + 1) * (w + 1) ≤ (r * P - 2) * (r * P - 2) := Nat.mul_le_mul (by omega) (by omega)
        omega
      · exact q
    have c2 : 2 * (r * P) ≤ 2 * w + s + 3 := by
      rcases Nat.lt_or_ge (r * P) (w + 2) with q | q
      · omega
      · have : w = r * P - 2 := by omega
        have hne : w * w ≠ n' := by rw [this]; omega
        have := hs2 hne
        omega
    have c3 : r * 2 ^ (h - 2) ≤ k := by
      refine hk1 _ ?_
      have e : 8 * (r * 2 ^ (h - 2)) = 2 * (r * P) := by rw [← hPx, Nat.mul_left_comm r 4]; omega
      omega
    have c4 : r ≤ k / 2 ^ (h - 2) := (Nat.le_div_iff_mul_le x0).2 c3
    omega
  · have ex := sq_exp2 (r + 1) P
    have b1 : N * (P * P) ≤ (n + E) * (P * P) := Nat.mul_le_mul_right _ h2
    have b0 : (n + 1) * (P * P) ≤ (r + 1) * (r + 1) * (P * P) := Nat.mul_le_mul_right _ r2
    rw [← hN, Nat.add_mul] at b1
    rw [Nat.add_mul, Nat.one_mul] at b0
    have b2 : (E * P + 1) * P ≤ 4 * r * P := Nat.mul_le_mul_right _ h3
    have b3 : E * (P * P) = E * P * P := (Nat.mul_assoc _ _ _).symm
    have b4 : 4 * r * P = 4 * (r * P) := Nat.mul_assoc _ _ _
    rw [Nat.add_mul, Nat.one_mul, ← b3, b4] at b2
    have b5 : (r + 1) * P = r * P + P := by rw [Nat.add_mul, Nat.one_mul]
    have c1 : w ≤ (r + 1) * P + 1 := by
      rcases Nat.lt_or_ge ((r + 1) * P + 1) w with q | q
      · have : ((r + 1) * P + 2) * ((r + 1) * P + 2) ≤ w * w := Nat.mul_le_mul (by omega) (by omega)
        omega
      · exact q
    have c3 : k ≤ (r + 1) * 2 ^ (h - 2) := by
      refine hk2 _ ?_
      have e : 8 * ((r + 1) * 2 ^ (h - 2)) = 2 * ((r + 1) * P) := by rw [← hPx, Nat.mul_left_comm (r + 1) 4]; omega
      omega
    have c4 : k / 2 ^ (h - 2) ≤ r + 1 := by
      have := Nat.div_le_div_right (c := 2 ^ (h - 2)) c3
      rwa [Nat.mul_div_cancel _ x0] at this
    omega

theorem cut_any (g d : Nat) (hd : d ≤ g.log2 + 2) : ∃ e : Nat, Toward.even.cut false g d = g / 2 ^ d + e ∧ ((e = 1 ∧ 2 ^ d ≤ 2 * (g % 2 ^ d)) ∨ (e = 0 ∧ 2 * (g % 2 ^ d) ≤ 2 ^ d)) := by
  have hm : min d (g.log2 + 2) = d := by omega
  unfold Toward.cut
  simp only [hm, Nat.one_shiftLeft]
  refine ⟨_, rfl, ?_⟩
  by_cases h1 : 2 ^ d < 2 * (g % 2 ^ d)
  · left
    simp [h1]
    omega
  · by_cases h2 : 2 ^ d = 2 * (g % 2 ^ d)
    · by_cases h4 : g / 2 ^ d % 2 = 1
      · left; simp [← h2, h4]
      · right; simp [← h2, h4]
    · right
      simp [h1]
      exact ⟨fun h => absurd h h2, by omega⟩

theorem root_low {n r q : Nat} (h : q * q ≤ n) (r2 : n < (r + 1) * (r + 1)) : q ≤ r := by
  rcases Nat.lt_or_ge r q with g | g
  · have : (r + 1) * (r + 1) ≤ q * q := Nat.mul_le_mul g g
    omega
  · exact g

theorem pow_move (m more d h : Nat) (e : more = d + (h + h)) : m * 2 ^ more = m * 2 ^ d * (2 ^ h * 2 ^ h) := by
  rw [e, Nat.pow_add, Nat.pow_add, Nat.mul_assoc]

theorem sqrt_read (m more h N n r E : Nat) (i : Int) (b : Nat) (hread : FloatKind.f64.format.read b = .number false m i) (hm1 : 2 ^ 52 ≤ m) (hm2 : m < 2 ^ 53) (hmo : more = 56 + ((i - 56) % 2).toNat) (hh : i - (more : Int) = -2 * (h : Int)) (hh1 : 5 ≤ h) (hh2 : h ≤ 54)
    (hN : m * 2 ^ more = N * (2 ^ h * 2 ^ h)) (h1 : n ≤ N + E) (h2 : N ≤ n + E) (h3 : E * 2 ^ h + 1 ≤ 4 * r) (r1 : r * r ≤ n) (r2 : n < (r + 1) * (r + 1)) :
    ∃ q : Nat, FloatKind.f64.format.sqrt b = some q ∧ ∃ g : Int, floatToIntVal .f64 q .i64 = some g ∧ (r : Int) ≤ g ∧ g ≤ (r : Int) + 1 := by
  obtain ⟨q, hq, hg⟩ := sqrt_num m more h N n r E i hm1 hm2 hmo hh hh1 hh2 hN h1 h2 h3 r1 r2
  refine ⟨q, ?_, hg⟩
  unfold Format.sqrt
  rw [hread]
  exact hq

theorem sqrt_small (n r : Nat) (h0 : 0 < n) (hn : n < 2 ^ 53) (r1 : r * r ≤ n) (r2 : n < (r + 1) * (r + 1)) :
    ∃ q : Nat, FloatKind.f64.format.sqrt (floatOfInt .f64 (n : Int)) = some q ∧ ∃ g : Int, floatToIntVal .f64 q .i64 = some g ∧ (r : Int) ≤ g ∧ g ≤ (r : Int) + 1 := by
  have hl : n.log2 ≤ 52 := log2_le (by omega) hn
  have hr := root_low (q := 1) (by omega) r2
  have e0 : floatOfInt .f64 (n : Int) = FloatKind.f64.format.nearest false (n <<< 0) (-((0 : Nat) : Int)) := by
    have : decide ((n : Int) < 0) = false := by simp
    show FloatKind.f64.format.nearest (decide ((n : Int) < 0)) ((n : Int).natAbs) 0 = _
    rw [this]
    simp
  have hread := read_nearest .f64 false n 0 (by omega) hn
  rw [← e0] at hread
  have hfb : FloatKind.f64.format.fractionBits = 52 := rfl
  rw [hfb] at hread
  obtain ⟨b1, b2⟩ := shl_bounds n 52 (by omega) hl
  obtain ⟨c, hc⟩ : ∃ c : Nat, c = 52 - n.log2 := ⟨_, rfl⟩
  rw [← hc] at hread b1 b2
  obtain ⟨more, hmo⟩ : ∃ more : Nat, more = 56 + ((-(c : Int) - 56) % 2).toNat := ⟨_, rfl⟩
  refine sqrt_read (n <<< c) more ((more + c) / 2) n n r 0 (-(c : Int)) _ hread b1 (by omega) hmo (by omega) (by omega) (by omega) ?_ (by omega) (by omega) (by omega) r1 r2
  rw [Nat.shiftLeft_eq, Nat.mul_assoc, ← Nat.pow_add, ← Nat.pow_add]
  congr 2
  omega

theorem sqrt_large (n r d : Nat) (hd : 1 ≤ d ∧ d ≤ 4) (h1 : 2 ^ (52 + d) ≤ n) (h2 : n < 2 ^ (53 + d)) (r1 : r * r ≤ n) (r2 : n < (r + 1) * (r + 1)) :
    ∃ q : Nat, FloatKind.f64.format.sqrt (floatOfInt .f64 (n : Int)) = some q ∧ ∃ g : Int, floatToIntVal .f64 q .i64 = some g ∧ (r : Int) ≤ g ∧ g ≤ (r : Int) + 1 := by
  have hn0 : n ≠ 0 := by have := Nat.two_pow_pos (52 + d); omega
  have hl : n.log2 = 52 + d := by
    have a := (Nat.le_log2 (k := 52 + d) (n := n) hn0).2 h1
    have b := (Nat.log2_lt (k := 53 + d) (n := n) hn0).2 h2
    omega
  obtain ⟨e, hc, he⟩ := cut_any n d (by omega)
  have hlp : double.leastPlace = -1074 := by decide
  have hfb : double.fractionBits = 52 := rfl
  have hbi : double.binade = 4503599627370496 := by decide
  have hinf : double.infRung = 9218868437227405312 := by decide
  obtain ⟨kk, hkk⟩ : ∃ kk, kk = n / 2 ^ d + e := ⟨_, rfl⟩
  rw [← hkk] at hc
  have hx := Nat.div_add_mod n (2 ^ d)
  have hp := Nat.two_pow_pos d
  have hkx : kk * 2 ^ d = 2 ^ d * (n / 2 ^ d) + e * 2 ^ d := by rw [hkk, Nat.add_mul, Nat.mul_comm (n / 2 ^ d)]
  have hmod := Nat.mod_lt n hp
  have hk1 : 4503599627370496 ≤ n / 2 ^ d := by
    refine (Nat.le_div_iff_mul_le hp).2 ?_
    rw [Nat.pow_add] at h1
    exact h1
  have hk2 : n / 2 ^ d < 9007199254740992 := by
    refine (Nat.div_lt_iff_lt_mul hp).2 ?_
    rw [Nat.pow_add] at h2
    exact h2
  have he1 : e ≤ 1 := by omega
  have hE : e * 2 ^ d ≤ 2 ^ d := by
    have := Nat.mul_le_mul_right (2 ^ d) he1
    omega
  have hhalf : 2 * 2 ^ (d - 1) = 2 ^ d := by
    rw [show d = (d - 1) + 1 by omega, Nat.pow_succ]
    simp
    omega
  have hlo : n ≤ kk * 2 ^ d + 2 ^ (d - 1) := by
    rcases he with ⟨rfl, hq⟩ | ⟨rfl, hq⟩ <;> omega
  have hhi : kk * 2 ^ d ≤ n + 2 ^ (d - 1) := by
    rcases he with ⟨rfl, hq⟩ | ⟨rfl, hq⟩ <;> omega
  have hword : floatOfInt .f64 (n : Int) = double.word false ((d + 1074) * 4503599627370496 + kk) := by
    have : decide ((n : Int) < 0) = false := by simp
    show double.nearest (decide ((n : Int) < 0)) ((n : Int).natAbs) 0 = _
    rw [this]
    unfold Format.nearest
    rw [if_neg (by omega)]
    simp only [hlp, hbi, hinf, hfb, Int.natAbs_natCast, hl]
    have hlast : max (0 + ((52 + d : Nat) : Int) - ((52 : Nat) : Int)) (-1074) = (d : Int) := by omega
    rw [hlast]
    have e1 : ((0 : Int) - (d : Int)).toNat = 0 := by omega
    have e2 : ((d : Int) - 0).toNat = d := by omega
    have e3 : ((d : Int) - -1074).toNat = d + 1074 := by omega
    rw [e1, e2, e3, Nat.shiftLeft_zero, hc, Nat.min_eq_left (by omega)]
  have hr1 : d ≤ 2 → 67108865 ≤ r := fun _ => root_low (n := n) (Nat.le_trans (show 67108865 * 67108865 ≤ 2 ^ 53 by decide) (Nat.le_trans (Nat.pow_le_pow_right (by decide) (by omega)) h1)) r2
  have hr2 : 3 ≤ d → 134217729 ≤ r := fun _ => root_low (n := n) (Nat.le_trans (show 134217729 * 134217729 ≤ 2 ^ 55 by decide) (Nat.le_trans (Nat.pow_le_pow_right (by decide) (by omega)) h1)) r2
  rcases Nat.lt_or_ge kk 9007199254740992 with q | q
  · have hread := read_word double false (d + 1074) kk (by rw [hbi]; omega) (by rw [hbi]; omega) (by show d + 1074 + 2 ≤ 2 ^ 11 - 1; omega)
    rw [hbi, ← hword, hlp, show (-1074 : Int) + ((d + 1074 : Nat) : Int) = (d : Int) by omega] at hread
    have hds : d = 1 ∨ d = 2 ∨ d = 3 ∨ d = 4 := by omega
    rcases hds with rfl | rfl | rfl | rfl
    · exact sqrt_read kk 57 28 (kk * 2 ^ 1) n r (2 ^ 0) (1 : Nat) _ hread (by omega) (by omega) (by decide) (by decide) (by decide) (by decide) (pow_move _ _ _ _ rfl) hlo hhi (by have := hr1 (by omega); omega) r1 r2
    · exact sqrt_read kk 56 27 (kk * 2 ^ 2) n r (2 ^ 1) (2 : Nat) _ hread (by omega) (by omega) (by decide) (by decide) (by decide) (by decide) (pow_move _ _ _ _ rfl) hlo hhi (by have := hr1 (by omega); omega) r1 r2
    · exact sqrt_read kk 57 27 (kk * 2 ^ 3) n r (2 ^ 2) (3 : Nat) _ hread (by omega) (by omega) (by decide) (by decide) (by decide) (by decide) (pow_move _ _ _ _ rfl) hlo hhi (by have := hr2 (by omega); omega) r1 r2
    · exact sqrt_read kk 56 26 (kk * 2 ^ 4) n r (2 ^ 3) (4 : Nat) _ hread (by omega) (by omega) (by decide) (by decide) (by decide) (by decide) (pow_move _ _ _ _ rfl) hlo hhi (by have := hr2 (by omega); omega) r1 r2
  · have hq : kk = 9007199254740992 := by omega
    have h7 : (d + 1074) * 4503599627370496 + kk = (d + 1075) * 4503599627370496 + 4503599627370496 := by omega
    have hread := read_word double false (d + 1075) 4503599627370496 (by rw [hbi]; exact Nat.le_refl _) (by rw [hbi]; omega) (by show d + 1075 + 2 ≤ 2 ^ 11 - 1; omega)
    rw [h7] at hword
    rw [hbi, ← hword, hlp, show (-1074 : Int) + ((d + 1075 : Nat) : Int) = ((d + 1 : Nat) : Int) by omega] at hread
    clear hword h7
    have hds : d = 1 ∨ d = 2 ∨ d = 3 ∨ d = 4 := by omega
    subst hq
    rcases hds with rfl | rfl | rfl | rfl
    · exact sqrt_read 4503599627370496 56 27 (9007199254740992 * 2 ^ 1) n r (2 ^ 0) (2 : Nat) _ hread (by decide) (by decide) (by decide) (by decide) (by decide) (by decide) (by decide) hlo hhi (by have := hr1 (by omega); omega) r1 r2
    · exact sqrt_read 4503599627370496 57 27 (9007199254740992 * 2 ^ 2) n r (2 ^ 1) (3 : Nat) _ hread (by decide) (by decide) (by decide) (by decide) (by decide) (by decide) (by decide) hlo hhi (by have := hr1 (by omega); omega) r1 r2
    · exact sqrt_read 4503599627370496 56 26 (9007199254740992 * 2 ^ 3) n r (2 ^ 2) (4 : Nat) _ hread (by decide) (by decide) (by decide) (by decide) (by decide) (by decide) (by decide) hlo hhi (by have := hr2 (by omega); omega) r1 r2
    · exact sqrt_read 4503599627370496 57 26 (9007199254740992 * 2 ^ 4) n r (2 ^ 3) (5 : Nat) _ hread (by decide) (by decide) (by decide) (by decide) (by decide) (by decide) (by decide) hlo hhi (by have := hr2 (by omega); omega) r1 r2

/-- the float's root of a whole number, cut, is the true root or one more -/
theorem sqrt_root (n r : Nat) (hn : n < 2 ^ 57) (r1 : r * r ≤ n) (r2 : n < (r + 1) * (r + 1)) :
    ∃ q : Nat, FloatKind.f64.format.sqrt (floatOfInt .f64 (n : Int)) = some q ∧ ∃ g : Int, floatToIntVal .f64 q .i64 = some g ∧ (r : Int) ≤ g ∧ g ≤ (r : Int) + 1 := by
  rcases Nat.eq_zero_or_pos n with rfl | h0
  · have hr : r = 0 := by
      rcases Nat.eq_zero_or_pos r with g | g
      · exact g
      · have := Nat.mul_le_mul g g
        omega
    subst hr
    have e : floatOfInt .f64 ((0 : Nat) : Int) = 0 := F_zero .f64
    exact ⟨0, by rw [e]; decide, 0, by decide, by decide, by decide⟩
  · rcases Nat.lt_or_ge n (2 ^ 53) with g | g
    · exact sqrt_small n r h0 g r1 r2
    · rcases Nat.lt_or_ge n (2 ^ 54) with g2 | g2
      · exact sqrt_large n r 1 (by omega) g g2 r1 r2
      · rcases Nat.lt_or_ge n (2 ^ 55) with g3 | g3
        · exact sqrt_large n r 2 (by omega) g2 g3 r1 r2
        · rcases Nat.lt_or_ge n (2 ^ 56) with g4 | g4
          · exact sqrt_large n r 3 (by omega) g3 g4 r1 r2
          · exact sqrt_large n r 4 (by omega) g4 hn r1 r2
end Go.Proofs.Ytegmjanpeaibcaa
