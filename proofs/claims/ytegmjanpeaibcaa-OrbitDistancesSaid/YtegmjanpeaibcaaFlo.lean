/- Plain facts: what a word of a binary float stands for when it is a whole number, and that sums, products, comparisons and conversions of such words are exact. Conditions: the whole numbers are below 2 to the power of 53 (24 for float32) in size. No program is named here. -/
import Derived.Laws.FloatArith
import Derived.Laws.ComplexArith
namespace Go.Proofs.Ytegmjanpeaibcaa
open Ieee

theorem cut_zero (neg : Bool) (n : Nat) : Toward.even.cut neg n 0 = n := by
  simp [Toward.cut, Nat.mod_one]

theorem log2_shl (n d : Nat) (h : n ≠ 0) : (n <<< d).log2 = n.log2 + d := by
  rw [Nat.shiftLeft_eq]
  have h2 : n * 2 ^ d ≠ 0 := Nat.mul_ne_zero h (by have := Nat.two_pow_pos d; omega)
  have a := Nat.log2_self_le h
  have b := Nat.lt_log2_self (n := n)
  apply Nat.le_antisymm
  · have : (n * 2 ^ d).log2 < n.log2 + d + 1 := by
      rw [Nat.log2_lt h2]
      have : n.log2 + d + 1 = (n.log2 + 1) + d := by omega
      rw [this, Nat.pow_add]
      exact Nat.mul_lt_mul_of_pos_right b (Nat.two_pow_pos d)
    omega
  · rw [Nat.le_log2 h2, Nat.pow_add]
    exact Nat.mul_le_mul_right _ a

theorem cut_exact (neg : Bool) (n d : Nat) (h : n ≠ 0) : Toward.even.cut neg (n <<< d) d = n := by
  have hl := log2_shl n d h
  have hm : min d ((n <<< d).log2 + 2) = d := by omega
  have hp := Nat.two_pow_pos d
  have e1 : n <<< d / 2 ^ d = n := by rw [Nat.shiftLeft_eq, Nat.mul_div_cancel _ hp]
  have e2 : n <<< d % 2 ^ d = 0 := by rw [Nat.shiftLeft_eq, Nat.mul_mod_left]
  unfold Toward.cut
  simp only [hm, Nat.one_shiftLeft, e1, e2]
  simp

theorem shl_add (n a b : Nat) : (n <<< a) <<< b = n <<< (a + b) := (Nat.shiftLeft_add n a b).symm

theorem nearest_norm (f : Format) (neg : Bool) (m s : Nat) (p : Int) (hm : m ≠ 0) (hfit : m.log2 ≤ f.fractionBits) (hlo : f.leastPlace ≤ p + m.log2 - f.fractionBits) :
    f.nearest neg (m <<< s) (p - s) = f.word neg (min ((p + m.log2 - f.fractionBits - f.leastPlace).toNat * f.binade + m <<< (f.fractionBits - m.log2)) f.infRung) := by
  have h0 : m <<< s ≠ 0 := by
    rw [Nat.shiftLeft_eq]
    exact Nat.mul_ne_zero hm (by have := Nat.two_pow_pos s; omega)
  unfold Format.nearest
  rw [if_neg h0]
  have hl := log2_shl m s hm
  have hlast : max (p - (s : Int) + ((m <<< s).log2 : Int) - (f.fractionBits : Int)) f.leastPlace = p + m.log2 - f.fractionBits := by
    rw [hl]; omega
  simp only [hlast]
  congr 2
  congr 1
  by_cases hs : s ≤ f.fractionBits - m.log2
  · have e1 : (p - (s : Int) - (p + m.log2 - f.fractionBits)).toNat = f.fractionBits - m.log2 - s := by omega
    have e2 : (p + (m.log2 : Int) - f.fractionBits - (p - (s : Int))).toNat = 0 := by omega
    rw [e1, e2, cut_zero, shl_add]
    congr 1
    omega
  · have e1 : (p - (s : Int) - (p + m.log2 - f.fractionBits)).toNat = 0 := by omega
    have e2 : (p + (m.log2 : Int) - f.fractionBits - (p - (s : Int))).toNat = s - (f.fractionBits - m.log2) := by omega
    have e3 : m <<< s = (m <<< (f.fractionBits - m.log2)) <<< (s - (f.fractionBits - m.log2)) := by
      rw [shl_add]; congr 1; omega
    rw [e1, e2, Nat.shiftLeft_zero, e3, cut_exact]
    rw [Nat.shiftLeft_eq]
    exact Nat.mul_ne_zero hm (by have := Nat.two_pow_pos (f.fractionBits - m.log2); omega)

theorem shl_bounds (m b : Nat) (hm : m ≠ 0) (hfit : m.log2 ≤ b) : 2 ^ b ≤ m <<< (b - m.log2) ∧ m <<< (b - m.log2) < 2 * 2 ^ b := by
  have a := Nat.log2_self_le hm
  have c := Nat.lt_log2_self (n := m)
  rw [Nat.shiftLeft_eq]
  have e : 2 ^ b = 2 ^ m.log2 * 2 ^ (b - m.log2) := by rw [← Nat.pow_add]; congr 1; omega
  have hp := Nat.two_pow_pos (b - m.log2)
  constructor
  · rw [e]; exact Nat.mul_le_mul_right _ a
  · have : 2 * 2 ^ b = 2 ^ (m.log2 + 1) * 2 ^ (b - m.log2) := by rw [e, Nat.pow_succ]; rw [← Nat.mul_assoc, Nat.mul_comm 2]
    rw [this]
    exact Nat.mul_lt_mul_of_pos_right c hp

theorem read_word (f : Format) (neg : Bool) (e k : Nat) (hk1 : f.binade ≤ k) (hk2 : k < 2 * f.binade) (he : e + 2 ≤ 2 ^ f.exponentBits - 1) :
    f.read (f.word neg (e * f.binade + k)) = .number neg k (f.leastPlace + e) := by
  have hB : 0 < f.binade := Nat.two_pow_pos _
  have hinf : e * f.binade + k < f.infRung := by
    have : (e + 2) * f.binade ≤ f.infRung := Nat.mul_le_mul_right _ he
    have e1 : (e + 2) * f.binade = e * f.binade + 2 * f.binade := by rw [Nat.add_mul]
    omega
  have hsw : f.infRung < f.signWeight := Format.infRung_lt f
  have hread : f.word neg (e * f.binade + k) / f.signWeight % 2 = (if neg then 1 else 0) ∧ f.word neg (e * f.binade + k) % f.signWeight = e * f.binade + k := by
    have hlt : e * f.binade + k < f.signWeight := by omega
    cases neg
    · simp only [Format.word, Bool.false_eq_true, if_false]
      exact ⟨by rw [Nat.div_eq_of_lt hlt], Nat.mod_eq_of_lt hlt⟩
    · simp only [Format.word, if_true]
      have hp : 0 < f.signWeight := by omega
      constructor
      · rw [Nat.add_div_left _ hp, Nat.div_eq_of_lt hlt]
      · rw [Nat.add_mod_left, Nat.mod_eq_of_lt hlt]
  have hdiv : (e * f.binade + k) / f.binade = e + 1 := by
    rw [Nat.add_comm, Nat.add_mul_div_right _ _ hB]
    have : k / f.binade = 1 := by
      apply Nat.div_eq_of_lt_le
      · omega
      · omega
    omega
  have hmod : (e * f.binade + k) % f.binade = k - f.binade := by
    rw [Nat.add_comm, Nat.add_mul_mod_self_right, Nat.mod_eq_sub_mod hk1, Nat.mod_eq_of_lt (by omega)]
  unfold Format.read
  simp only [hread.2, hread.1]
  rw [if_neg (by
    have : f.binade ≤ e * f.binade + k := by omega
    omega), if_pos hinf, hmod, hdiv]
  have e2 : f.binade + (k - f.binade) = k := by omega
  rw [e2]
  cases neg <;> simp

/-- the word b of the format stands for the whole number n -/
def Is (k : FloatKind) (b : Nat) (n : Int) : Prop := ∃ (s : Bool) (t : Nat), k.format.read b = .number s (n.natAbs <<< t) (-(t : Int)) ∧ (n ≠ 0 → s = decide (n < 0)) ∧ b < 2 ^ k.format.width

/-- how many digits a whole number may have: 53, 24 -/
def digits (k : FloatKind) : Nat := k.format.fractionBits + 1

theorem fmt_facts (k : FloatKind) : k.format.leastPlace ≤ 0 - (k.format.fractionBits : Int) ∧ ∀ l : Nat, l ≤ k.format.fractionBits → ((l : Int) - k.format.fractionBits - k.format.leastPlace).toNat + 2 ≤ 2 ^ k.format.exponentBits - 1 := by
  cases k
  · refine ⟨by decide, fun l hl => ?_⟩
    have h1 : FloatKind.f32.format.fractionBits = 23 := rfl
    have h2 : FloatKind.f32.format.leastPlace = -149 := by decide
    have h3 : 2 ^ FloatKind.f32.format.exponentBits - 1 = 255 := by decide
    rw [h1] at hl; rw [h1, h2, h3]; omega
  · refine ⟨by decide, fun l hl => ?_⟩
    have h1 : FloatKind.f64.format.fractionBits = 52 := rfl
    have h2 : FloatKind.f64.format.leastPlace = -1074 := by decide
    have h3 : 2 ^ FloatKind.f64.format.exponentBits - 1 = 2047 := by decide
    rw [h1] at hl; rw [h1, h2, h3]; omega

theorem log2_le {m b : Nat} (hm : m ≠ 0) (h : m < 2 ^ (b + 1)) : m.log2 ≤ b := by
  have := (Nat.log2_lt hm).2 h
  omega

theorem read_nearest (k : FloatKind) (neg : Bool) (m s : Nat) (hm : m ≠ 0) (hb : m < 2 ^ digits k) :
    k.format.read (k.format.nearest neg (m <<< s) (-(s : Int))) = .number neg (m <<< (k.format.fractionBits - m.log2)) (-((k.format.fractionBits - m.log2 : Nat) : Int)) := by
  obtain ⟨hlo, hhi⟩ := fmt_facts k
  have hl := log2_le hm hb
  have hn := nearest_norm k.format neg m s 0 hm hl (by omega)
  rw [Int.zero_sub] at hn
  obtain ⟨b1, b2⟩ := shl_bounds m k.format.fractionBits hm hl
  have he := hhi m.log2 hl
  rw [hn]
  have hmin : (0 + (m.log2 : Int) - k.format.fractionBits - k.format.leastPlace).toNat * k.format.binade + m <<< (k.format.fractionBits - m.log2) ≤ k.format.infRung := by
    have e0 : (0 + (m.log2 : Int) - k.format.fractionBits - k.format.leastPlace).toNat = ((m.log2 : Int) - k.format.fractionBits - k.format.leastPlace).toNat := by omega
    rw [e0]
    have : (((m.log2 : Int) - k.format.fractionBits - k.format.leastPlace).toNat + 2) * k.format.binade ≤ k.format.infRung := Nat.mul_le_mul_right _ he
    have e1 : (((m.log2 : Int) - k.format.fractionBits - k.format.leastPlace).toNat + 2) * k.format.binade = ((m.log2 : Int) - k.format.fractionBits - k.format.leastPlace).toNat * k.format.binade + 2 * k.format.binade := by rw [Nat.add_mul]
    have e2 : k.format.binade = 2 ^ k.format.fractionBits := rfl
    omega
  rw [Nat.min_eq_left hmin, read_word k.format neg _ _ b1 b2 (by omega)]
  congr 1
  omega

theorem read_zero (k : FloatKind) (neg : Bool) : k.format.read (k.format.word neg 0) = .number neg 0 k.format.leastPlace := by
  cases k <;> cases neg <;> decide

theorem is_nearest (k : FloatKind) (neg : Bool) (n : Int) (s : Nat) (hs : n ≠ 0 → neg = decide (n < 0)) (hb : n.natAbs < 2 ^ digits k) : Is k (k.format.nearest neg (n.natAbs <<< s) (-(s : Int))) n := by
  by_cases h0 : n = 0
  · subst h0
    refine ⟨neg, (-k.format.leastPlace).toNat, ?_, fun h => absurd rfl h, Format.nearest_lt ..⟩
    have e : k.format.nearest neg ((0 : Int).natAbs <<< s) (-(s : Int)) = k.format.word neg 0 := by simp [Format.nearest]
    rw [e, read_zero]
    have := (fmt_facts k).1
    simp
    omega
  · exact ⟨neg, _, read_nearest k neg n.natAbs s (by omega) hb, hs, Format.nearest_lt ..⟩

/-- the word of a whole number, and that it has no -0 -/
def F (k : FloatKind) (n : Int) : Nat := floatOfInt k n

theorem nearest_F (k : FloatKind) (neg : Bool) (n : Int) (s : Nat) (hs : neg = decide (n < 0)) (hb : n.natAbs < 2 ^ digits k) : k.format.nearest neg (n.natAbs <<< s) (-(s : Int)) = F k n := by
  have hF : F k n = k.format.nearest (decide (n < 0)) n.natAbs 0 := rfl
  rw [hF, hs]
  by_cases h0 : n = 0
  · subst h0; simp [Format.nearest]
  · have hl := log2_le (b := k.format.fractionBits) (m := n.natAbs) (by omega) hb
    have h1 := nearest_norm k.format (decide (n < 0)) n.natAbs s 0 (by omega) hl (by have := (fmt_facts k).1; omega)
    have h2 := nearest_norm k.format (decide (n < 0)) n.natAbs 0 0 (by omega) hl (by have := (fmt_facts k).1; omega)
    rw [Int.zero_sub] at h1
    rw [h1]
    simpa using h2.symm

theorem is_F (k : FloatKind) (n : Int) (hb : n.natAbs < 2 ^ digits k) : Is k (F k n) n := by
  rw [← nearest_F k _ n 0 rfl hb]
  exact is_nearest k _ n 0 (fun _ => rfl) hb

theorem signed_is (n : Int) (s : Bool) (a : Nat) (hs : n ≠ 0 → s = decide (n < 0)) : signed s n.natAbs a = n * 2 ^ a := by
  unfold signed
  rw [Nat.shiftLeft_eq]
  by_cases h0 : n = 0
  · subst h0; simp
  · rw [hs h0]
    by_cases h : n < 0
    · simp only [h, decide_true, if_true]
      have : (n.natAbs : Int) = -n := by omega
      push_cast
      rw [this]
      simp [Int.neg_mul]
    · simp only [h, decide_false, Bool.false_eq_true, if_false]
      have : (n.natAbs : Int) = n := by omega
      push_cast
      rw [this]

theorem signed_shl (s : Bool) (m t a : Nat) : signed s (m <<< t) a = signed s m (t + a) := by
  unfold signed; rw [shl_add]

/-- sums -/
theorem sum_is (_k : FloatKind) {d e : Datum} {x y : Int} {s t : Bool} {i j : Nat} (hd : d = .number s (x.natAbs <<< i) (-(i : Int))) (he : e = .number t (y.natAbs <<< j) (-(j : Int)))
    (hs : x ≠ 0 → s = decide (x < 0)) (ht : y ≠ 0 → t = decide (y < 0)) :
    ∃ u, d.sum e = some (.number (if x + y = 0 then s && t else decide (x + y < 0)) ((x + y).natAbs <<< u) (-(u : Int))) := by
  subst hd; subst he
  refine ⟨max i j, ?_⟩
  unfold Datum.sum
  have hbase : min (-(i : Int)) (-(j : Int)) = -((max i j : Nat) : Int) := by omega
  simp only [hbase]
  have e1 : (-(i : Int) - -((max i j : Nat) : Int)).toNat = max i j - i := by omega
  have e2 : (-(j : Int) - -((max i j : Nat) : Int)).toNat = max i j - j := by omega
  rw [e1, e2, signed_shl, signed_shl, signed_is x s _ hs, signed_is y t _ ht]
  have e3 : i + (max i j - i) = max i j := by omega
  have e4 : j + (max i j - j) = max i j := by omega
  rw [e3, e4, ← Int.add_mul]
  have hp : (0 : Int) < 2 ^ (max i j) := by
    have := Nat.two_pow_pos (max i j)
    exact_mod_cast this
  have z : ((x + y) * 2 ^ (max i j) = 0) = (x + y = 0) := by
    rw [Int.mul_eq_zero]
    apply propext
    constructor
    · rintro (h | h)
      · exact h
      · omega
    · exact Or.inl
  have ng : decide ((x + y) * 2 ^ (max i j) < 0) = decide (x + y < 0) := by
    congr 1
    apply propext
    constructor
    · intro h
      by_cases h' : x + y < 0
      · exact h'
      · have := Int.mul_nonneg (a := x + y) (b := 2 ^ (max i j)) (by omega) (by omega)
        omega
    · intro h
      exact Int.mul_neg_of_neg_of_pos h hp
  have na : ((x + y) * 2 ^ (max i j)).natAbs = (x + y).natAbs <<< (max i j) := by
    rw [Int.natAbs_mul, Nat.shiftLeft_eq]
    congr 1
  simp only [z, ng, na]

theorem two53 : (2 : Nat) ^ digits .f64 = 9007199254740992 := by decide
theorem two24 : (2 : Nat) ^ digits .f32 = 16777216 := by decide

theorem add_is {k : FloatKind} {a b : Nat} {x y : Int} (ha : Is k a x) (hb : Is k b y) (hr : (x + y).natAbs < 2 ^ digits k) : ∃ r, floatBits .add k a b = some r ∧ Is k r (x + y) := by
  obtain ⟨s, i, hd, hs, _⟩ := ha
  obtain ⟨t, j, he, ht, _⟩ := hb
  obtain ⟨u, hu⟩ := sum_is k hd he hs ht
  refine ⟨_, by simp only [floatBits, Format.add, hu, Option.map_some]; rfl, ?_⟩
  exact is_nearest k _ _ _ (fun h => if_neg h) hr

theorem not_neg_F (k : FloatKind) (x : Int) (hb : x.natAbs < 2 ^ digits k) : ∃ t : Nat, k.format.read (F k x) = .number (decide (x < 0)) (x.natAbs <<< t) (-(t : Int)) := by
  obtain ⟨s, t, h, hs, _⟩ := is_F k x hb
  by_cases h0 : x = 0
  · subst h0
    have e : F k 0 = k.format.word false 0 := by simp [F, floatOfInt, FloatKind.nearest, FloatKind.encode, Format.write, Format.nearest]
    refine ⟨(-k.format.leastPlace).toNat, ?_⟩
    rw [e, read_zero]
    have := (fmt_facts k).1
    simp
    omega
  · exact ⟨t, by rw [h, hs h0]⟩

/-- onto a word that is no -0 a sum is no -0 -/
theorem add_F {k : FloatKind} {b : Nat} {x y : Int} (hx : x.natAbs < 2 ^ digits k) (hb : Is k b y) (hr : (x + y).natAbs < 2 ^ digits k) : floatBits .add k (F k x) b = some (F k (x + y)) := by
  obtain ⟨i, hd⟩ := not_neg_F k x hx
  obtain ⟨t, j, he, ht, _⟩ := hb
  obtain ⟨u, hu⟩ := sum_is k hd he (fun _ => rfl) ht
  simp only [floatBits, Format.add, hu, Option.map_some]
  congr 1
  refine nearest_F k _ (x + y) u ?_ hr
  by_cases h0 : x + y = 0
  · rw [if_pos h0]
    by_cases hx0 : x = 0
    · have : ¬ y < 0 := by omega
      simp [hx0, this]
    · by_cases hn : x < 0
      · have hy : t = decide (y < 0) := ht (by omega)
        have : ¬ y < 0 := by omega
        simp [hy, this, h0]
      · simp [hn, h0]
  · rw [if_neg h0]

theorem opposite_is {k : FloatKind} {b : Nat} {y : Int} (hb : Is k b y) : ∃ (t : Bool) (j : Nat), (k.format.read b).opposite = .number t ((-y).natAbs <<< j) (-(j : Int)) ∧ (-y ≠ 0 → t = decide (-y < 0)) := by
  obtain ⟨t, j, he, ht, _⟩ := hb
  refine ⟨!t, j, by rw [he, Int.natAbs_neg]; rfl, fun h => ?_⟩
  rw [ht (by omega)]
  by_cases hn : y < 0
  · have : ¬ -y < 0 := by omega
    rw [decide_eq_true hn, decide_eq_false this]; rfl
  · have : -y < 0 := by omega
    rw [decide_eq_false hn, decide_eq_true this]; rfl

theorem sub_is {k : FloatKind} {a b : Nat} {x y : Int} (ha : Is k a x) (hb : Is k b y) (hr : (x - y).natAbs < 2 ^ digits k) : ∃ r, floatBits .sub k a b = some r ∧ Is k r (x - y) := by
  obtain ⟨s, i, hd, hs, _⟩ := ha
  obtain ⟨t, j, he, ht⟩ := opposite_is hb
  obtain ⟨u, hu⟩ := sum_is k hd he hs ht
  rw [← Int.sub_eq_add_neg] at hu
  refine ⟨_, by simp only [floatBits, Format.sub, hu, Option.map_some]; rfl, ?_⟩
  exact is_nearest k _ _ _ (fun h => if_neg h) hr

theorem mul_is {k : FloatKind} {a b : Nat} {x y : Int} (ha : Is k a x) (hb : Is k b y) (hr : (x * y).natAbs < 2 ^ digits k) : ∃ r, floatBits .mul k a b = some r ∧ Is k r (x * y) := by
  obtain ⟨s, i, hd, hs, _⟩ := ha
  obtain ⟨t, j, he, ht, _⟩ := hb
  have hm : (x.natAbs <<< i) * (y.natAbs <<< j) = (x * y).natAbs <<< (i + j) := by
    rw [Int.natAbs_mul, Nat.shiftLeft_eq, Nat.shiftLeft_eq, Nat.shiftLeft_eq, Nat.pow_add]
    simp [Nat.mul_assoc, Nat.mul_left_comm]
  have hp : -(i : Int) + -(j : Int) = -((i + j : Nat) : Int) := by omega
  have hu : (k.format.read a).product (k.format.read b) = some (.number (s ^^ t) ((x * y).natAbs <<< (i + j)) (-((i + j : Nat) : Int))) := by
    rw [hd, he]; simp only [Datum.product, hm, hp]
  refine ⟨_, by simp only [floatBits, Format.mul, hu, Option.map_some]; rfl, ?_⟩
  refine is_nearest k _ _ _ (fun h => ?_) hr
  have hx0 : x ≠ 0 := fun h' => h (by simp [h'])
  have hy0 : y ≠ 0 := fun h' => h (by simp [h'])
  rw [hs hx0, ht hy0]
  by_cases h1 : x < 0 <;> by_cases h2 : y < 0
  · have : 0 < x * y := Int.mul_pos_of_neg_of_neg h1 h2
    have : ¬ x * y < 0 := by omega
    simp [h1, h2, this]
  · have : x * y < 0 := Int.mul_neg_of_neg_of_pos h1 (by omega)
    simp [h1, h2, this]
  · have : x * y < 0 := Int.mul_neg_of_pos_of_neg (by omega) h2
    simp [h1, h2, this]
  · have : 0 < x * y := Int.mul_pos (by omega) (by omega)
    have : ¬ x * y < 0 := by omega
    simp [h1, h2, this]

theorem order_is {k : FloatKind} {a b : Nat} {x y : Int} (ha : Is k a x) (hb : Is k b y) : k.format.order a b = some (compare x y) := by
  obtain ⟨s, i, hd, hs, _⟩ := ha
  obtain ⟨t, j, he, ht, _⟩ := hb
  unfold Format.order
  rw [hd, he]
  unfold Datum.order
  have hbase : min (-(i : Int)) (-(j : Int)) = -((max i j : Nat) : Int) := by omega
  simp only [hbase]
  have e1 : (-(i : Int) - -((max i j : Nat) : Int)).toNat = max i j - i := by omega
  have e2 : (-(j : Int) - -((max i j : Nat) : Int)).toNat = max i j - j := by omega
  have e3 : i + (max i j - i) = max i j := by omega
  have e4 : j + (max i j - j) = max i j := by omega
  rw [e1, e2, signed_shl, signed_shl, signed_is x s _ hs, signed_is y t _ ht, e3, e4]
  have hp : (0 : Int) < 2 ^ (max i j) := by
    have := Nat.two_pow_pos (max i j)
    exact_mod_cast this
  congr 1
  have c1 : (x * 2 ^ max i j < y * 2 ^ max i j) = (x < y) := propext ⟨fun h => Int.lt_of_mul_lt_mul_right h (by omega), fun h => Int.mul_lt_mul_of_pos_right h hp⟩
  have c2 : (x * 2 ^ max i j = y * 2 ^ max i j) = (x = y) := propext ⟨fun h => Int.eq_of_mul_eq_mul_right (by omega) h, fun h => by rw [h]⟩
  simp only [compare, compareOfLessAndEq, c1, c2]

theorem toInt_is {k : FloatKind} {b : Nat} {n : Int} (h : Is k b n) : (k.decode b).toInt .zero = some n := by
  obtain ⟨s, i, hd, hs, _⟩ := h
  unfold FloatKind.decode
  rw [hd]
  have e1 : (-(i : Int)).toNat = 0 := by omega
  have e2 : (- -(i : Int)).toNat = i := by omega
  have hc : Toward.zero.cut s (n.natAbs <<< i) i = n.natAbs := by
    by_cases h0 : n.natAbs = 0
    · rw [h0]; simp [Toward.cut]
    · have hl := log2_shl n.natAbs i h0
      have hm : min i ((n.natAbs <<< i).log2 + 2) = i := by omega
      unfold Toward.cut
      simp only [hm, Nat.one_shiftLeft]
      rw [Nat.shiftLeft_eq, Nat.mul_div_cancel _ (Nat.two_pow_pos i)]
      simp
  unfold Datum.toInt Datum.integral
  simp only [e1, e2, Nat.shiftLeft_zero, hc]
  rw [signed_is n s 0 hs]
  simp

theorem toInt64_is {k : FloatKind} {b : Nat} {n : Int} (h : Is k b n) (h1 : -9223372036854775808 ≤ n) (h2 : n ≤ 9223372036854775807) : floatToIntVal k b .i64 = some n := by
  unfold floatToIntVal
  rw [toInt_is h]
  have e1 : IntKind.i64.min = -9223372036854775808 := by decide
  have e2 : IntKind.i64.max = 9223372036854775807 := by decide
  simp only [e1, e2]
  rw [if_pos ⟨h1, h2⟩]

/-- float64(x) of a float32 that is whole -/
theorem widen_is {b : Nat} {n : Int} (h : Is .f32 b n) (hb : n.natAbs < 2 ^ digits .f64) : ∃ r, floatToFloatBits .f32 b .f64 = some r ∧ Is .f64 r n := by
  obtain ⟨s, i, hd, hs, _⟩ := h
  have hw : Is .f64 (FloatKind.f64.encode (.number s (n.natAbs <<< i) (-(i : Int)))) n := is_nearest .f64 s n i hs hb
  refine ⟨_, ?_, hw⟩
  unfold floatToFloatBits
  rw [if_neg (by decide)]
  have hd' : FloatKind.f32.decode b = .number s (n.natAbs <<< i) (-(i : Int)) := hd
  rw [hd']
  obtain ⟨s', i', hd2, _⟩ := hw
  have : (FloatKind.f64.decode (FloatKind.f64.encode (.number s (n.natAbs <<< i) (-(i : Int))))).isInfinity = false := by
    show (FloatKind.f64.format.read _).isInfinity = false
    rw [hd2]; rfl
  simp only [this]
  rfl

theorem F_zero (k : FloatKind) : F k 0 = 0 := by
  simp [F, floatOfInt, FloatKind.nearest, FloatKind.encode, Format.write, Format.nearest, Format.word]

theorem is_zero (k : FloatKind) : Is k 0 0 := by
  rw [← F_zero k]
  exact is_F k 0 (by have := Nat.two_pow_pos (digits k); simpa using this)

theorem trunc_is {b : Nat} {n : Int} (h : Is .f64 b n) (hb : n.natAbs < 2 ^ digits .f64) : ∃ s m p, FloatKind.f64.decode b = .number s m p ∧ Is .f64 (FloatKind.f64.encode ((FloatKind.f64.decode b).integral .zero)) n := by
  obtain ⟨s, i, hd, hs, hw⟩ := h
  have hd' : FloatKind.f64.decode b = .number s (n.natAbs <<< i) (-(i : Int)) := hd
  refine ⟨s, _, _, hd', ?_⟩
  rw [hd']
  have e1 : (-(i : Int)).toNat = 0 := by omega
  have e2 : (- -(i : Int)).toNat = i := by omega
  have hc : Toward.zero.cut s (n.natAbs <<< i) i = n.natAbs := by
    by_cases h0 : n.natAbs = 0
    · rw [h0]; simp [Toward.cut]
    · have hl := log2_shl n.natAbs i h0
      have hm : min i ((n.natAbs <<< i).log2 + 2) = i := by omega
      unfold Toward.cut
      simp only [hm, Nat.one_shiftLeft]
      rw [Nat.shiftLeft_eq, Nat.mul_div_cancel _ (Nat.two_pow_pos i)]
      simp
  unfold Datum.integral
  simp only [e1, e2, Nat.shiftLeft_zero, hc]
  have := is_nearest .f64 s n 0 hs hb
  show Is .f64 (FloatKind.f64.format.nearest s n.natAbs 0) n
  simpa using this

theorem max_lt (M : Nat) (n : Int) (i e : Nat) (hM : 1 ≤ M) (hb : n.natAbs ≤ M) (he : 1 ≤ e) : n * 2 ^ (i + 0) < signed false M (e + i) := by
  have hp : (0 : Int) < 2 ^ i := by
    have := Nat.two_pow_pos i
    exact_mod_cast this
  unfold signed
  simp only [Bool.false_eq_true, if_false, Nat.shiftLeft_eq, Nat.add_zero]
  rw [Nat.pow_add]
  push_cast
  rw [← Int.mul_assoc]
  have h2 : (2 : Nat) ^ 1 ≤ 2 ^ e := Nat.pow_le_pow_right (by decide) he
  have h3 : (2 : Int) ≤ 2 ^ e := by exact_mod_cast h2
  have hp2 : (M : Int) * 2 ≤ M * 2 ^ e := Int.mul_le_mul_of_nonneg_left h3 (by omega)
  exact Int.mul_lt_mul_of_pos_right (by omega) hp

theorem max_read : FloatKind.f64.format.read 9218868437227405311 = .number false 9007199254740991 971 := by decide

theorem order_max {b : Nat} {n : Int} (h : Is .f64 b n) (hb : n.natAbs < 2 ^ digits .f64) : FloatKind.f64.format.order b 9218868437227405311 = some .lt := by
  obtain ⟨s, i, hd, hs, _⟩ := h
  unfold Format.order
  rw [hd, max_read]
  unfold Datum.order
  have hbase : min (-(i : Int)) (971 : Int) = -(i : Int) := by omega
  simp only [hbase]
  have e1 : (-(i : Int) - -(i : Int)).toNat = 0 := by omega
  have e2 : ((971 : Int) - -(i : Int)).toNat = 971 + i := by omega
  rw [e1, e2, signed_shl, signed_is n s _ hs]
  rw [two53] at hb
  have hlt := max_lt 9007199254740991 n i 971 (by omega) (by omega) (by omega)
  congr 1
  simp only [compare, compareOfLessAndEq, hlt, if_true]

/-- the size of a float -/
theorem abs_is {b : Nat} {n : Int} (h : Is .f64 b n) : Is .f64 (b % 9223372036854775808) n.natAbs := by
  obtain ⟨s, i, hd, hs, hw⟩ := h
  have hw' : b < 18446744073709551616 := hw
  refine ⟨false, i, ?_, fun _ => ?_, ?_⟩
  · have hsw : FloatKind.f64.format.signWeight = 9223372036854775808 := by decide
    unfold Format.read at hd ⊢
    rw [hsw] at hd ⊢
    have e1 : b % 9223372036854775808 % 9223372036854775808 = b % 9223372036854775808 := by omega
    have e2 : (b % 9223372036854775808 / 9223372036854775808 % 2 == 1) = false := by
      have : b % 9223372036854775808 / 9223372036854775808 = 0 := by omega
      rw [this]; rfl
    simp only [e1, e2] at hd ⊢
    by_cases c1 : b % 9223372036854775808 < FloatKind.f64.format.binade
    · rw [if_pos c1] at hd ⊢
      injection hd with h1 h2 h3
      rw [h2, h3]; simp
    · rw [if_neg c1] at hd ⊢
      by_cases c2 : b % 9223372036854775808 < FloatKind.f64.format.infRung
      · rw [if_pos c2] at hd ⊢
        injection hd with h1 h2 h3
        rw [h2, h3]; simp
      · rw [if_neg c2] at hd
        split at hd <;> cases hd
  · have : ¬ (n.natAbs : Int) < 0 := by omega
    simp [this]
  · show b % 9223372036854775808 < 18446744073709551616
    omega

def absB (b : Nat) : Nat := b % 9223372036854775808
theorem absB_is {b : Nat} {n : Int} (h : Is .f64 b n) : Is .f64 (absB b) n.natAbs := abs_is h

/-- minus a float -/
theorem neg_is {b : Nat} {n : Int} (h : Is .f64 b n) : Is .f64 (Op.negFloat .f64 b) (-n) := by
  obtain ⟨s, i, hd, hs, hw⟩ := h
  have hw' : b < 2 ^ 64 := hw
  have hx : Op.negFloat .f64 b = if b < 2 ^ 63 then b + 2 ^ 63 else b - 2 ^ 63 := by
    show b ^^^ 2 ^ 63 = _
    by_cases hb : b < 2 ^ 63
    · rw [if_pos hb]
      have e : b ^^^ 2 ^ 63 = 2 ^ 63 + b := by
        have h1 := Nat.two_pow_add_eq_or_of_lt hb 1
        apply Nat.eq_of_testBit_eq
        intro j
        rw [Nat.mul_one] at h1
        rw [h1, Nat.testBit_xor, Nat.testBit_or]
        by_cases hj : j = 63
        · subst hj
          rw [Nat.testBit_lt_two_pow hb]; simp
        · have : (2 ^ 63).testBit j = false := Nat.testBit_two_pow_of_ne (fun h => hj h.symm)
          rw [this]; simp
      rw [e]; omega
    · rw [if_neg hb]
      have hb' : b - 2 ^ 63 < 2 ^ 63 := by omega
      have e0 : b = 2 ^ 63 + (b - 2 ^ 63) := by omega
      have h1 := Nat.two_pow_add_eq_or_of_lt hb' 1
      rw [Nat.mul_one] at h1
      apply Nat.eq_of_testBit_eq
      intro j
      conv => lhs; rw [e0]
      rw [h1, Nat.testBit_xor, Nat.testBit_or]
      by_cases hj : j = 63
      · subst hj
        rw [Nat.testBit_lt_two_pow hb']; simp
      · have : (2 ^ 63).testBit j = false := Nat.testBit_two_pow_of_ne (fun h => hj h.symm)
        rw [this]; simp
  have hsw : FloatKind.f64.format.signWeight = 9223372036854775808 := by decide
  refine ⟨!s, i, ?_, fun h0 => ?_, ?_⟩
  · have hr : Op.negFloat .f64 b % 9223372036854775808 = b % 9223372036854775808 := by rw [hx]; split <;> omega
    have hs2 : (Op.negFloat .f64 b / 9223372036854775808 % 2 == 1) = !(b / 9223372036854775808 % 2 == 1) := by
      rw [hx]
      split
      · have e1 : b / 9223372036854775808 = 0 := by omega
        have e2 : (b + 2 ^ 63) / 9223372036854775808 = 1 := by omega
        rw [e1, e2]; rfl
      · have e1 : b / 9223372036854775808 = 1 := by omega
        have e2 : (b - 2 ^ 63) / 9223372036854775808 = 0 := by omega
        rw [e1, e2]; rfl
    unfold Format.read at hd ⊢
    rw [hsw] at hd ⊢
    simp only [hr, hs2] at hd ⊢
    rw [Int.natAbs_neg]
    by_cases c1 : b % 9223372036854775808 < FloatKind.f64.format.binade
    · rw [if_pos c1] at hd ⊢
      injection hd with h1 h2 h3
      rw [h1, h2, h3]
    · rw [if_neg c1] at hd ⊢
      by_cases c2 : b % 9223372036854775808 < FloatKind.f64.format.infRung
      · rw [if_pos c2] at hd ⊢
        injection hd with h1 h2 h3
        rw [h1, h2, h3]
      · rw [if_neg c2] at hd
        split at hd <;> cases hd
  · rw [hs (by omega)]
    by_cases hn : n < 0
    · have : ¬ -n < 0 := by omega
      rw [decide_eq_true hn, decide_eq_false this]; rfl
    · have : -n < 0 := by omega
      rw [decide_eq_false hn, decide_eq_true this]; rfl
  · show _ < 2 ^ 64
    rw [hx]; split <;> omega
end Go.Proofs.Ytegmjanpeaibcaa
