/- Contracts of the small functions of package echo and of the base. -/
import Derived.Test.YtdpoemhpmdahjaaDoorRows
import Derived.Test.YtdpoemhpmdahjaaDoorFlo
import Derived.WalkKit
import Derived.WalkSpells
import Derived.WalkLawsBesides
import Derived.BigQuiet
import Derived.Deep.QuietTactic
import Derived.Lib.Hide
namespace Go.Proofs.YtdpoemhpmdahjaaDoor
open Go.RowKit
set_option maxHeartbeats 400000
set_option maxRecDepth 100000

theorem store_float (P : Program) (w : World) (a : Addr) (m : Mode) (k : FloatKind) (b : Nat) : (store a (.float k b) m).run P w = stored P w a (.float k b) m := run_store P w a _ m rfl
theorem store_complex (P : Program) (w : World) (a : Addr) (m : Mode) (k : FloatKind) (x y : Nat) : (store a (.complex k x y) m).run P w = stored P w a (.complex k x y) m := run_store P w a _ m rfl
attribute [go_sem] store_float store_complex

/-! ### words for memory: a block that is known whole -/
def At (w : World) (g : Nat) (t : TypeId) (cs : Array Value) : Prop := w.heap[g]? = some (.cells cs t (0, 0))
theorem At.lt {w : World} {g : Nat} {t : TypeId} {cs : Array Value} (h : At w g t cs) : g < w.heap.size := by
  unfold At at h
  exact (Array.getElem?_eq_some_iff.1 h).1
theorem At.cell {w : World} {g : Nat} {t : TypeId} {cs : Array Value} (h : At w g t cs) (i : Nat) : w.cell? ⟨g, i, none⟩ = cs[i]? := cell_of_row w g i cs t (0, 0) h
theorem At.free {w : World} {g : Nat} {t : TypeId} {cs : Array Value} (h : At w g t cs) (i : Nat) : w.frozen? ⟨g, i, none⟩ = false := by
  unfold At at h
  simp [World.frozen?, h]
theorem At.below {w w' : World} {g B : Nat} {t : TypeId} {cs : Array Value} (h : At w g t cs) (hb : Below B w w') (hg : g < B) : At w' g t cs := (hb.block g hg).trans h
theorem At.alloc {w : World} {g : Nat} {t : TypeId} {cs : Array Value} (h : At w g t cs) (o : Obj) : At (w.alloc o) g t cs := (Below.heap_alloc w o g h.lt).trans h
theorem At.new (w : World) (t : TypeId) (cs : Array Value) : At (w.alloc (.cells cs t)) w.heap.size t cs := heap_alloc_new w _
theorem at_new {w : World} {g : Nat} {t : TypeId} {cs : Array Value} (hg : g = w.heap.size) : At (w.alloc (.cells cs t)) g t cs := by
  subst hg; exact At.new w t cs
theorem At.far {w : World} {g : Nat} {t : TypeId} {cs : Array Value} (h : At w g t cs) {p : Addr} (hp : g ≠ p.block) (u : Value) : At (w.setCell p u) g t cs := (Below.heap_setCell w p u g hp).trans h
theorem At.put {w : World} {g : Nat} {t : TypeId} {cs : Array Value} (h : At w g t cs) (i : Nat) (u : Value) : At (w.setCell ⟨g, i, none⟩ u) g t (cs.setIfInBounds i u) := by
  unfold At at h ⊢
  simp [World.setCell, Array.getElem?_modify, h]

theorem below_set {B g i : Nat} {a w : World} {u : Value} (h : Below B a w) (hg : B ≤ g) : Below B a (w.setCell ⟨g, i, none⟩ u) := h.setCell hg u
theorem below_drewNs {B n : Nat} {a w : World} (h : Below B a w) : Below B a (w.drewN n) := h.trans ⟨rfl, rfl, rfl, Nat.le_refl _, fun _ _ => rfl⟩
theorem below_new {B : Nat} {a w : World} {o : Obj} (h : Below B a w) (hB : B ≤ w.heap.size) : Below B a (w.alloc o) := h.alloc hB o

def inB (n lo hi : Int) : Bool := decide (lo ≤ n) && decide (n ≤ hi)
theorem inB_t {n lo hi : Int} (h : lo ≤ n ∧ n ≤ hi) : inB n lo hi = true := by simp [inB, h.1, h.2]
theorem inB_f {n lo hi : Int} (h : ¬ (lo ≤ n ∧ n ≤ hi)) : inB n lo hi = false := by
  simp only [inB, Bool.and_eq_false_iff, decide_eq_false_iff_not]; omega

theorem within_any (n lo hi : Int) (w : World) :
    Calls Tryd.prog 83 #[.int .i64 n, .int .i64 lo, .int .i64 hi] w fun e w' => e = .returned (.bool (inB n lo hi)) ∧ w = w' := by
  by_cases h : lo ≤ n
  · have hd : decide (lo ≤ n) = true := by simpa using h
    by_cases h2 : n ≤ hi
    · have hd2 : decide (n ≤ hi) = true := by simpa using h2
      have hf : inB n lo hi = true := by simp [inB, h, h2]
      have HF := Lib.hid hf
      clear hf
      go_enter Tryd.func83, Tryd.ntmps83
      go_wp2
      go_ret
      rw [HF.out]
      exact ⟨rfl, rfl⟩
    · have hd2 : decide (n ≤ hi) = false := by simpa using h2
      have hf : inB n lo hi = false := by simp [inB, h2]
      have HF := Lib.hid hf
      clear hf
      go_enter Tryd.func83, Tryd.ntmps83
      go_wp2
      go_ret
      rw [HF.out]
      exact ⟨rfl, rfl⟩
  · have hd : decide (lo ≤ n) = false := by simpa using h
    have hf : inB n lo hi = false := by simp [inB, h]
    have HF := Lib.hid hf
    clear hf
    go_enter Tryd.func83, Tryd.ntmps83
    go_wp2
    go_ret
    rw [HF.out]
    exact ⟨rfl, rfl⟩

/-! ### what the model itself gives -/
theorem integral_form (b : Nat) : ∃ rest : Bool → Nat → Sem Value, Extern.MathFloor.toIntegral "math.archTrunc" .zero #[.float .f64 b] = (match FloatKind.f64.decode b with
      | .nan s t => rest s t
      | d => pure (Value.float .f64 (FloatKind.f64.encode (d.integral .zero)))) := ⟨_, rfl⟩
theorem sqrt_form (b : Nat) : ∃ rest : Sem Value, Extern.MathSqrt.sqrt #[.float .f64 b] = (match FloatKind.f64.format.sqrt b with
      | some r => pure (Value.float .f64 r)
      | none => rest) := ⟨_, rfl⟩
theorem run_trunc (b : Nat) (s : Bool) (m : Nat) (p : Int) (h : FloatKind.f64.decode b = .number s m p) (w : World) :
    (callFunc 136 #[.float .f64 b]).run Tryd.prog w = .ok (.value (.float .f64 (FloatKind.f64.encode ((FloatKind.f64.decode b).integral .zero)))) w := by
  rw [run_callFunc_extern Tryd.func136 (by kernel_rfl) (by kernel_rfl) (by kernel_rfl) (e := Extern.MathFloor.toIntegral "math.archTrunc" .zero) (by kernel_rfl)]
  have e : (Extern.MathFloor.toIntegral "math.archTrunc" .zero #[.float .f64 b]).run Tryd.prog w = .ok (.float .f64 (FloatKind.f64.encode ((FloatKind.f64.decode b).integral .zero))) w := by
    obtain ⟨rest, hr⟩ := integral_form b
    rw [hr, h]
    rfl
  rw [e]; rfl
theorem run_bits (b : Nat) (w : World) : (callFunc 113 #[.float .f64 b]).run Tryd.prog w = .ok (.value (.int .u64 b)) w := by
  rw [run_callFunc_extern Tryd.func113 (by kernel_rfl) (by kernel_rfl) (by kernel_rfl) (e := Extern.MathFloatBits.float64bits) (by kernel_rfl)]
  rfl
theorem run_frombits (n : Int) (w : World) : (callFunc 129 #[.int .u64 n]).run Tryd.prog w = .ok (.value (.float .f64 n.toNat)) w := by
  rw [run_callFunc_extern Tryd.func129 (by kernel_rfl) (by kernel_rfl) (by kernel_rfl) (e := Extern.MathFloatBits.float64frombits) (by kernel_rfl)]
  rfl
theorem run_sqrt (b r : Nat) (h : FloatKind.f64.format.sqrt b = some r) (w : World) : (callFunc 135 #[.float .f64 b]).run Tryd.prog w = .ok (.value (.float .f64 r)) w := by
  rw [run_callFunc_extern Tryd.func135 (by kernel_rfl) (by kernel_rfl) (by kernel_rfl) (e := Extern.MathSqrt.sqrt) (by kernel_rfl)]
  have e : (Extern.MathSqrt.sqrt #[.float .f64 b]).run Tryd.prog w = .ok (.float .f64 r) w := by
    obtain ⟨rest, hr⟩ := sqrt_form b
    rw [hr, h]
    rfl
  rw [e]; rfl

/-- clearing the sign bit -/
theorem clear_sign (b : Nat) (hb : b < 18446744073709551616) : bits .andNot .u64 (b : Int) 9223372036854775808 = ((b % 9223372036854775808 : Nat) : Int) := by
  show IntKind.u64.wrap (((BitVec.ofInt 64 (b : Int) &&& ~~~ BitVec.ofInt 64 9223372036854775808).toNat : Nat) : Int) = _
  have e1 : (BitVec.ofInt 64 (b : Int)).toNat = b := by
    rw [BitVec.ofInt_natCast, BitVec.toNat_ofNat]; exact Nat.mod_eq_of_lt hb
  have e2 : (~~~ BitVec.ofInt 64 9223372036854775808).toNat = 2 ^ 63 - 1 := by decide
  rw [BitVec.toNat_and, e1, e2, Nat.and_two_pow_sub_one_eq_mod]
  rw [IntKind.wrap_u64]
  have e3 : b % 2 ^ 63 = b % 9223372036854775808 := rfl
  rw [e3]
  omega

theorem run_frombits_abs (b : Nat) (hb : Hid (b < 18446744073709551616)) (w : World) : (callFunc 129 #[.int .u64 (bits .andNot .u64 (b : Int) 9223372036854775808)]).run Tryd.prog w = .ok (.value (.float .f64 (absB b))) w := by
  rw [clear_sign b hb.out, run_frombits]; rfl

theorem abs_any (b : Nat) (hb : b < 18446744073709551616) (w : World) :
    Calls Tryd.prog 118 #[.float .f64 b] w fun e w' => e = .returned (.float .f64 (absB b)) ∧ w = w' := by
  have h1 := fun w => run_bits b w
  have HB := Lib.hid hb
  clear hb
  go_enter Tryd.func118, Tryd.ntmps118
  go_wp2_with (simp only [run_frombits_abs b HB])
  go_ret
  exact ⟨rfl, rfl⟩

theorem lt64 {b : Nat} {n : Int} (h : Is .f64 b n) : b < 18446744073709551616 := by
  obtain ⟨_, _, _, _, hw⟩ := h
  exact hw

/-- a float that is a whole number of less than 53 digits is no infinity -/
theorem isInf_ok (b : Nat) (n : Int) (h : Is .f64 b n) (hn : n.natAbs < 9007199254740992) (w : World) :
    Calls Tryd.prog 132 #[.float .f64 b, .int .i64 0] w fun e w' => e = .returned (.bool false) ∧ w = w' := by
  have h1 : (FloatKind.f64.format.order (absB b) 9218868437227405311 == some .gt) = false := by
    rw [order_max (absB_is h) (by rw [two53]; omega)]; rfl
  have hb := Lib.hid (lt64 h)
  clear h hn
  go_enter Tryd.func132, Tryd.ntmps132
  go_wp2_with (go_at_call 118; refine (abs_any b hb.out _).mono ?_; rintro e w' ⟨rfl, rfl⟩)
  go_ret
  exact ⟨rfl, rfl⟩

theorem trunc_any (b r : Nat) (hr : ∀ w, (callFunc 136 #[.float .f64 b]).run Tryd.prog w = .ok (.value (.float .f64 r)) w) (w : World) :
    Calls Tryd.prog 131 #[.float .f64 b] w fun e w' => e = .returned (.float .f64 r) ∧ w = w' := by
  go_enter Tryd.func131, Tryd.ntmps131
  go_wp2
  go_ret
  exact ⟨rfl, rfl⟩

theorem isWhole_ok (b : Nat) (n : Int) (h : Is .f64 b n) (hn : n.natAbs < 9007199254740992) (w : World) :
    Calls Tryd.prog 125 #[.float .f64 b] w fun e w' => e = .returned (.bool true) ∧ w = w' := by
  obtain ⟨s, m, p, hd, hr⟩ := trunc_is h (by rw [two53]; omega)
  have ht := fun w => run_trunc b s m p hd w
  obtain ⟨r, hrr⟩ : ∃ r, r = FloatKind.f64.encode ((FloatKind.f64.decode b).integral .zero) := ⟨_, rfl⟩
  rw [← hrr] at hr
  simp only [← hrr] at ht
  have h1 : (FloatKind.f64.format.order b r == some .eq) = true := by
    rw [order_is h hr]; simp [compare, compareOfLessAndEq]
  have HT := Lib.hid ht
  have H := Lib.hid h
  have HN := Lib.hid hn
  clear hrr hd ht hr h hn
  go_enter Tryd.func125, Tryd.ntmps125
  go_wp2_with (first
    | (go_at_call 131; refine (trunc_any b r HT.out _).mono ?_; rintro e w' ⟨rfl, rfl⟩)
    | (go_at_call 132; refine (isInf_ok b n H.out HN.out _).mono ?_; rintro e w' ⟨rfl, rfl⟩))
  go_ret
  exact ⟨rfl, rfl⟩

theorem exceeds_no (a b l : Nat) (x y m : Int) (ha : Is .f64 a x) (hb : Is .f64 b y) (hl : Is .f64 l m) (hx : x.natAbs ≤ m) (hy : y.natAbs ≤ m) (w : World) :
    Calls Tryd.prog 74 #[.complex .f64 a b, .float .f64 l] w fun e w' => e = .returned (.bool false) ∧ w = w' := by
  have h1 : (FloatKind.f64.format.order (absB a) l == some .gt) = false := by
    rw [order_is (absB_is ha) hl]; simp [compare, compareOfLessAndEq]; split <;> (try split) <;> simp <;> omega
  have h2 : (FloatKind.f64.format.order (absB b) l == some .gt) = false := by
    rw [order_is (absB_is hb) hl]; simp [compare, compareOfLessAndEq]; split <;> (try split) <;> simp <;> omega
  have HA := Lib.hid (lt64 ha)
  have HB := Lib.hid (lt64 hb)
  clear ha hb hl hx hy
  go_enter Tryd.func74, Tryd.ntmps74
  go_wp2_with (go_at_call 118; (first | refine (abs_any a HA.out _).mono ?_ | refine (abs_any b HB.out _).mono ?_); rintro e w' ⟨rfl, rfl⟩)
  go_ret
  exact ⟨rfl, rfl⟩
end Go.Proofs.YtdpoemhpmdahjaaDoor
