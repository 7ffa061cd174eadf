/- Contracts: the checks of the parts of any complex number, by the code and by the reference. -/
import Derived.Test.YtdpoemhpmdahjaaDoorWhc
import Derived.Test.YtdpoemhpmdahjaaDoorTsl
namespace Go.Proofs.YtdpoemhpmdahjaaDoor
open Go.RowKit Ieee
set_option maxHeartbeats 400000
set_option maxRecDepth 100000

def Over (b : Nat) (L : Int) : Prop := Big b ∨ ∃ n : Int, Is .f64 b n ∧ n.natAbs < 9007199254740992 ∧ L < n.natAbs
def Inn (b : Nat) (n L : Int) : Prop := Is .f64 b n ∧ (n.natAbs : Int) ≤ L
theorem Over.yes {b : Nat} {L : Int} (h : Over b L) : Yes b := by
  rcases h with h | ⟨n, h1, h2, _⟩
  · exact Or.inl h
  · exact Or.inr ⟨n, h1, h2⟩
theorem Inn.yes {b : Nat} {n L : Int} (h : Inn b n L) (hL : L ≤ 1000000000000) : Yes b := Or.inr ⟨n, h.1, by have := h.2; omega⟩
theorem over_or_in {b : Nat} (h : Yes b) (L : Int) : Over b L ∨ ∃ n, Inn b n L := by
  rcases h with h | ⟨n, h1, h2⟩
  · exact Or.inl (Or.inl h)
  · by_cases hn : (n.natAbs : Int) ≤ L
    · exact Or.inr ⟨n, h1, hn⟩
    · exact Or.inl (Or.inr ⟨n, h1, h2, by omega⟩)

theorem order_big {b l : Nat} {s : Bool} {m p : Nat} {L : Int} (h : FloatKind.f64.format.read b = .number s m (p : Int)) (p1 : 1 ≤ p) (m1 : 4503599627370496 ≤ m) (hl : Is .f64 l L) (hL : L.natAbs < 9007199254740992) :
    FloatKind.f64.format.order b l = some (if s then .lt else .gt) := by
  obtain ⟨s', t, hl, _, _⟩ := hl
  unfold Format.order
  rw [h, hl]
  simp only [Datum.order]
  have e1 : ((p : Int) - min (p : Int) (-(t : Int))).toNat = p + t := by omega
  have e2 : (-(t : Int) - min (p : Int) (-(t : Int))).toNat = 0 := by omega
  rw [e1, e2]
  have a1 := signed_abs s m (p + t)
  have a2 : (signed s' (L.natAbs <<< t) 0).natAbs = L.natAbs * 2 ^ t := by rw [signed_abs, Nat.pow_zero, Nat.mul_one, Nat.shiftLeft_eq]
  have hp : 2 * 2 ^ t ≤ 2 ^ (p + t) := by
    have h2 : 2 ^ (1 + t) ≤ 2 ^ (p + t) := Nat.pow_le_pow_right (by decide) (by omega)
    rw [Nat.pow_add] at h2
    exact h2
  have hlt : L.natAbs * 2 ^ t < m * 2 ^ (p + t) := by
    have h1 : L.natAbs * 2 ^ t < 9007199254740992 * 2 ^ t := Nat.mul_lt_mul_of_pos_right hL (Nat.two_pow_pos t)
    have h2 : 4503599627370496 * (2 * 2 ^ t) ≤ m * 2 ^ (p + t) := Nat.mul_le_mul m1 hp
    omega
  have hs : (s = true → signed s m (p + t) ≤ 0) ∧ (s = false → 0 ≤ signed s m (p + t)) := by
    unfold signed
    cases s
    · constructor
      · intro h; cases h
      · intro _
        show 0 ≤ ((m <<< (p + t) : Nat) : Int)
        omega
    · constructor
      · intro _
        show -((m <<< (p + t) : Nat) : Int) ≤ 0
        omega
      · intro h; cases h
  congr 1
  simp only [compare, compareOfLessAndEq]
  cases s
  · have := hs.2 rfl
    rw [if_neg (by omega), if_neg (by omega)]
    rfl
  · have := hs.1 rfl
    rw [if_pos (by omega)]
    rfl

theorem over_abs {b l : Nat} {L : Int} (h : Over b L) (hl : Is .f64 l L) (hL : L.natAbs < 9007199254740992) : (FloatKind.f64.format.order (absB b) l == some .gt) = true := by
  rcases h with ⟨s, m, p, h, p1, _, m1, _⟩ | ⟨n, h1, _, h3⟩
  · have hr := read_abs b
    rw [h] at hr
    rw [order_big hr p1 m1 hl hL]
    rfl
  · rw [order_is (absB_is h1) hl]
    simp only [compare, compareOfLessAndEq]
    rw [if_neg (by omega), if_neg (by omega)]
    rfl
theorem inn_abs {b l : Nat} {n L : Int} (h : Inn b n L) (hl : Is .f64 l L) : (FloatKind.f64.format.order (absB b) l == some .gt) = false := by
  rw [order_is (absB_is h.1) hl]
  have := h.2
  simp only [compare, compareOfLessAndEq]
  split
  · rfl
  · split
    · rfl
    · omega
theorem over_ref {b l k : Nat} {L : Int} (h : Over b L) (hl : Is .f64 l L) (hk : Is .f64 k (-L)) (hL : L.natAbs < 9007199254740992) :
    (FloatKind.f64.format.order b k == some .lt) = true ∨ ((FloatKind.f64.format.order b k == some .lt) = false ∧ (FloatKind.f64.format.order b l == some .gt) = true) := by
  rcases h with ⟨s, m, p, h, p1, _, m1, _⟩ | ⟨n, h1, _, h3⟩
  · rw [order_big h p1 m1 hl hL, order_big h p1 m1 hk (by omega)]
    cases s
    · right; exact ⟨rfl, rfl⟩
    · left; rfl
  · rw [order_is h1 hl, order_is h1 hk]
    simp only [compare, compareOfLessAndEq]
    by_cases hn : n < -L
    · left; rw [if_pos hn]; rfl
    · right
      rw [if_neg hn]
      constructor
      · split <;> rfl
      · rw [if_neg (by omega), if_neg (by omega)]; rfl
theorem inn_ref {b l k : Nat} {n L : Int} (h : Inn b n L) (hl : Is .f64 l L) (hk : Is .f64 k (-L)) :
    (FloatKind.f64.format.order b k == some .lt) = false ∧ (FloatKind.f64.format.order b l == some .gt) = false := by
  have h2 := h.2
  rw [order_is h.1 hl, order_is h.1 hk]
  simp only [compare, compareOfLessAndEq]
  constructor
  · rw [if_neg (by omega)]; split <;> rfl
  · split
    · rfl
    · split
      · rfl
      · omega

theorem exceeds_yes (a b l : Nat) (L : Int) (ha : a < 18446744073709551616) (hb : b < 18446744073709551616) (h : Over a L ∨ Over b L ∧ ∃ x, Inn a x L) (hl : Is .f64 l L) (hL : L.natAbs < 9007199254740992) (w : World) :
    Calls Tryd.prog 74 #[.complex .f64 a b, .float .f64 l] w fun e w' => e = .returned (.bool true) ∧ w = w' := by
  have HA := Lib.hid ha
  have HB := Lib.hid hb
  clear ha hb
  rcases h with h | ⟨h, x, hx⟩
  · have h1 := over_abs h hl hL
    clear h hl hL
    go_enter Tryd.func74, Tryd.ntmps74
    go_wp2_with (go_at_call 118; refine (abs_any a HA.out _).mono ?_; rintro e w' ⟨rfl, rfl⟩)
    go_ret
    exact ⟨rfl, rfl⟩
  · have h1 := over_abs h hl hL
    have h2 := inn_abs hx hl
    clear h hl hL hx
    go_enter Tryd.func74, Tryd.ntmps74
    go_wp2_with (go_at_call 118; (first | refine (abs_any a HA.out _).mono ?_ | refine (abs_any b HB.out _).mono ?_); rintro e w' ⟨rfl, rfl⟩)
    go_ret
    exact ⟨rfl, rfl⟩

/-- neither part is anything but whole / some part is too great -/
def Odd (a b : Nat) : Prop := No a ∨ Yes a ∧ No b
def Far (a b : Nat) (L : Int) : Prop := Yes a ∧ Yes b ∧ (Over a L ∨ Over b L ∧ ∃ x, Inn a x L)
theorem three {a b : Nat} (ha : a < 18446744073709551616) (hb : b < 18446744073709551616) (L : Int) : Odd a b ∨ Far a b L ∨ ∃ x y, Inn a x L ∧ Inn b y L := by
  rcases yes_or_no ha with h1 | h1
  · rcases yes_or_no hb with h2 | h2
    · right
      rcases over_or_in h1 L with h3 | ⟨x, h3⟩
      · exact Or.inl ⟨h1, h2, Or.inl h3⟩
      · rcases over_or_in h2 L with h4 | ⟨y, h4⟩
        · exact Or.inl ⟨h1, h2, Or.inr ⟨h4, x, h3⟩⟩
        · exact Or.inr ⟨x, y, h3, h4⟩
    · exact Or.inl (Or.inr ⟨h1, h2⟩)
  · exact Or.inl (Or.inl h1)

theorem checkParts_odd (a b l : Nat) (ha : a < 18446744073709551616) (hb : b < 18446744073709551616) (h : Odd a b) (w : World) :
    Calls Tryd.prog 104 #[.complex .f64 a b, .float .f64 l] w fun e w' => e = .returned (.int .i64 29) ∧ ∃ k, w' = w.drewN k := by
  have HA := Lib.hid ha
  have HB := Lib.hid hb
  clear ha hb
  rcases h with h | ⟨h, h2⟩
  · have H := Lib.hid h
    clear h
    go_enter Tryd.func104, Tryd.ntmps104
    go_wp2_with fail
    refine (isWhole_no a HA.out H.out _).mono ?_
    rintro e w' ⟨rfl, k, rfl⟩
    go_wp2_with fail
    go_ret
    exact ⟨rfl, k, rfl⟩
  · have H := Lib.hid h
    have H2 := Lib.hid h2
    clear h h2
    go_enter Tryd.func104, Tryd.ntmps104
    go_wp2_with fail
    refine (isWhole_yes a HA.out H.out _).mono ?_
    rintro e w' ⟨rfl, k, rfl⟩
    go_wp2_with fail
    refine (isWhole_no b HB.out H2.out _).mono ?_
    rintro e w' ⟨rfl, k2, rfl⟩
    go_wp2_with fail
    go_ret
    exact ⟨rfl, k + k2, by simp⟩

theorem checkParts_far (a b l : Nat) (L : Int) (ha : a < 18446744073709551616) (hb : b < 18446744073709551616) (h : Far a b L) (hl : Is .f64 l L) (hL : L.natAbs < 9007199254740992) (w : World) :
    Calls Tryd.prog 104 #[.complex .f64 a b, .float .f64 l] w fun e w' => e = .returned (.int .i64 2) ∧ ∃ k, w' = w.drewN k := by
  have HA := Lib.hid ha
  have HB := Lib.hid hb
  have H := Lib.hid h
  have HL := Lib.hid hl
  clear ha hb h hl
  go_enter Tryd.func104, Tryd.ntmps104
  go_wp2_with fail
  refine (isWhole_yes a HA.out H.out.1 _).mono ?_
  rintro e w' ⟨rfl, k, rfl⟩
  go_wp2_with fail
  refine (isWhole_yes b HB.out H.out.2.1 _).mono ?_
  rintro e w' ⟨rfl, k2, rfl⟩
  go_wp2_with fail
  refine (exceeds_yes a b l L HA.out HB.out H.out.2.2 HL.out hL _).mono ?_
  rintro e w' ⟨rfl, rfl⟩
  go_wp2_with fail
  go_ret
  exact ⟨rfl, k + k2, by simp⟩
end Go.Proofs.YtdpoemhpmdahjaaDoor
