/- What is known only by name: numbers, truths, rows of numbers; what is decided of them. -/
import Derived.OrdersIn
import Derived.Laws.BitsLemmas
namespace Go.Proofs.Ytmglofemnobakaa

/-- a number, a truth, or a row of numbers -/
inductive SE where
  | lit (n : Int)
  | var (k : Nat)
  | add (a b : SE)
  | sub (a b : SE)
  | mul (a b : SE)
  /-- cut to a whole number, towards 0; what is left -/
  | quo (a b : SE)
  | rem (a b : SE)
  | avar (k : Nat)
  | azero
  | upd (a i v : SE)
  | sel (a i : SE)
  | tt (b : Bool)
  | bvar (k : Nat)
  | le (a b : SE)
  | eq (a b : SE)
  | not (a : SE)
  | inr (k : IntKind) (a : SE)
  deriving DecidableEq

/-- what the names stand for: numbers, truths, rows; rows that were there before, with their places and lengths; from which block on the call's own blocks lie -/
structure RhoS where
  i : Nat → Int
  b : Nat → Bool
  a : Nat → Int → Int
  fb : Nat
  fo : Nat → Nat × Nat
  fn : Nat → Nat
abbrev Rho := Inhabited RhoS
def Rho.i [Rho] : Nat → Int := (default : RhoS).i
def Rho.b [Rho] : Nat → Bool := (default : RhoS).b
def Rho.a [Rho] : Nat → Int → Int := (default : RhoS).a
def Rho.fb [Rho] : Nat := (default : RhoS).fb
def Rho.fo [Rho] : Nat → Nat × Nat := (default : RhoS).fo
def Rho.fn [Rho] : Nat → Nat := (default : RhoS).fn
structure EV where
  i : Int
  b : Bool
  a : Int → Int
def SE.ev [Rho] : SE → EV
  | .lit n => ⟨n, false, fun _ => 0⟩
  | .var k => ⟨Rho.i k, false, fun _ => 0⟩
  | .add a b => ⟨a.ev.i + b.ev.i, false, fun _ => 0⟩
  | .sub a b => ⟨a.ev.i - b.ev.i, false, fun _ => 0⟩
  | .mul a b => ⟨a.ev.i * b.ev.i, false, fun _ => 0⟩
  | .quo a b => ⟨a.ev.i.tdiv b.ev.i, false, fun _ => 0⟩
  | .rem a b => ⟨a.ev.i.tmod b.ev.i, false, fun _ => 0⟩
  | .avar k => ⟨0, false, Rho.a k⟩
  | .azero => ⟨0, false, fun _ => 0⟩
  | .upd a i v => ⟨0, false, fun j => if j = i.ev.i then v.ev.i else a.ev.a j⟩
  | .sel a i => ⟨a.ev.a i.ev.i, false, fun _ => 0⟩
  | .tt b => ⟨0, b, fun _ => 0⟩
  | .bvar k => ⟨0, Rho.b k, fun _ => 0⟩
  | .le a b => ⟨0, decide (a.ev.i ≤ b.ev.i), fun _ => 0⟩
  | .eq a b => ⟨0, decide (a.ev.i = b.ev.i), fun _ => 0⟩
  | .not a => ⟨0, !a.ev.b, fun _ => 0⟩
  | .inr k a => ⟨0, decide (k.wrap a.ev.i = a.ev.i), fun _ => 0⟩

/-! what is put together; what can be reckoned is reckoned -/
def addL (a : SE) (n : Int) : SE :=
  match n with
  | .ofNat 0 => a
  | n => match a with | .add x (.lit m) => .add x (.lit (m + n)) | a => .add a (.lit n)
def mkAdd (a b : SE) : SE :=
  match a with
  | .lit m => match b with | .lit n => .lit (m + n) | b => match m with | .ofNat 0 => b | m => .add (.lit m) b
  | a => match b with | .lit n => addL a n | b => .add a b
def mkSub (a b : SE) : SE :=
  match b with
  | .lit n => match a with | .lit m => .lit (m - n) | a => addL a (-n)
  | b => .sub a b
def mulL (a : SE) (n : Int) : SE :=
  match n with
  | .ofNat 0 => .lit 0
  | .ofNat 1 => a
  | n => .mul a (.lit n)
def mkMul (a b : SE) : SE :=
  match a with
  | .lit m => match b with | .lit n => .lit (m * n) | b => mulL b m
  | a => match b with | .lit n => mulL a n | b => .mul a b
def mkQuo (a b : SE) : SE :=
  match a with
  | .lit m => match b with | .lit n => .lit (m.tdiv n) | b => .quo (.lit m) b
  | a => .quo a b
def mkRem (a b : SE) : SE :=
  match a with
  | .lit m => match b with | .lit n => .lit (m.tmod n) | b => .rem (.lit m) b
  | a => .rem a b
def mkLe (a b : SE) : SE :=
  match a with
  | .lit m => match b with | .lit n => .tt (decide (m ≤ n)) | b => .le (.lit m) b
  | a => .le a b
def mkNot (a : SE) : SE :=
  match a with
  | .tt b => .tt !b
  | .not a => a
  | a => .not a
def mkEq (a b : SE) : SE :=
  match a with
  | .lit m => match b with | .lit n => .tt (decide (m = n)) | b => .eq b (.lit m)
  | a => match decide (a = b) with | true => .tt true | false => .eq a b

section
variable [Rho]
theorem addL_ev (a : SE) (n : Int) : (addL a n).ev.i = a.ev.i + n := by
  unfold addL
  split
  · show a.ev.i = a.ev.i + 0; omega
  · split
    · simp only [SE.ev]; omega
    · simp only [SE.ev]
theorem mkAdd_ev (a b : SE) : (mkAdd a b).ev.i = a.ev.i + b.ev.i := by
  unfold mkAdd
  split
  · split
    · simp only [SE.ev]
    · split
      · show _ = (0 : Int) + _; omega
      · simp only [SE.ev]
  · split
    · rw [addL_ev]; simp only [SE.ev]
    · simp only [SE.ev]
theorem mkSub_ev (a b : SE) : (mkSub a b).ev.i = a.ev.i - b.ev.i := by
  unfold mkSub
  split
  · split
    · simp only [SE.ev]
    · rw [addL_ev]; simp only [SE.ev]; omega
  · simp only [SE.ev]
theorem mulL_ev (a : SE) (n : Int) : (mulL a n).ev.i = a.ev.i * n := by
  unfold mulL
  split
  · show (0 : Int) = a.ev.i * 0; simp
  · show a.ev.i = a.ev.i * 1; simp
  · simp only [SE.ev]
theorem mkMul_ev (a b : SE) : (mkMul a b).ev.i = a.ev.i * b.ev.i := by
  unfold mkMul
  split
  · split
    · simp only [SE.ev]
    · rw [mulL_ev]; simp only [SE.ev]; exact Int.mul_comm _ _
  · split
    · rw [mulL_ev]; simp only [SE.ev]
    · simp only [SE.ev]
theorem mkQuo_ev (a b : SE) : (mkQuo a b).ev.i = a.ev.i.tdiv b.ev.i := by
  unfold mkQuo
  split
  · split <;> simp only [SE.ev]
  · simp only [SE.ev]
theorem mkRem_ev (a b : SE) : (mkRem a b).ev.i = a.ev.i.tmod b.ev.i := by
  unfold mkRem
  split
  · split <;> simp only [SE.ev]
  · simp only [SE.ev]
theorem mkLe_ev (a b : SE) : (mkLe a b).ev.b = decide (a.ev.i ≤ b.ev.i) := by
  unfold mkLe
  split
  · split
    · rfl
    · rfl
  · rfl
theorem mkNot_ev (a : SE) : (mkNot a).ev.b = !a.ev.b := by
  unfold mkNot
  split <;> simp [SE.ev]
theorem mkEq_ev (a b : SE) : (mkEq a b).ev.b = decide (a.ev.i = b.ev.i) := by
  unfold mkEq
  split
  · split
    · rfl
    · simp only [SE.ev]; congr 1; exact propext ⟨fun h => h.symm, fun h => h.symm⟩
  · split
    · rename_i h
      have h := of_decide_eq_true h
      subst h
      simp [SE.ev]
    · simp only [SE.ev]
end

/-! decisions -/
def askD (D : SE → Option Bool) : SE → Option Bool
  | .tt b => some b
  | .not a => match askD D a with | some b => some !b | none => none
  | e => D e
def DOk [Rho] (D : SE → Option Bool) : Prop := ∀ e b, D e = some b → e.ev.b = b
theorem askD_ok [Rho] {D : SE → Option Bool} (hD : DOk D) : ∀ (e : SE) (b : Bool), askD D e = some b → e.ev.b = b
  | .tt b, c, h => by simp only [askD, Option.some.injEq] at h; simpa [SE.ev] using h
  | .not a, c, h => by
    simp only [askD] at h
    split at h
    · rename_i b hb
      cases h
      simp only [SE.ev]
      rw [askD_ok hD a b hb]
    · cases h
  | .lit _, _, h => hD _ _ h
  | .var _, _, h => hD _ _ h
  | .add _ _, _, h => hD _ _ h
  | .sub _ _, _, h => hD _ _ h
  | .mul _ _, _, h => hD _ _ h
  | .quo _ _, _, h => hD _ _ h
  | .rem _ _, _, h => hD _ _ h
  | .avar _, _, h => hD _ _ h
  | .azero, _, h => hD _ _ h
  | .upd _ _ _, _, h => hD _ _ h
  | .sel _ _, _, h => hD _ _ h
  | .bvar _, _, h => hD _ _ h
  | .le _ _, _, h => hD _ _ h
  | .eq _ _, _, h => hD _ _ h
  | .inr _ _, _, h => hD _ _ h
/-- decisions from a list; otherwise from another source -/
def lookF (D : SE → Option Bool) : List (SE × Bool) → SE → Option Bool
  | [], e => D e
  | (x, b) :: l, e => match decide (x = e) with | true => some b | false => lookF D l e
def noD : SE → Option Bool := fun _ => none
def Facts [Rho] : List (SE × Bool) → Prop
  | [] => True
  | (x, b) :: l => x.ev.b = b ∧ Facts l
theorem noD_ok [Rho] : DOk noD := fun _ _ h => by cases h
theorem lookF_ok [Rho] {D : SE → Option Bool} (hD : DOk D) : ∀ {l : List (SE × Bool)}, Facts l → DOk (lookF D l)
  | [], _, e, b, h => hD e b h
  | (x, c) :: l, hf, e, b, h => by
    simp only [lookF] at h
    split at h
    · rename_i hx
      have hx := of_decide_eq_true hx
      subst hx
      cases h
      exact hf.1
    · exact lookF_ok hD hf.2 e b h
theorem inr64 [Rho] {e : SE} (h : -9223372036854775808 ≤ e.ev.i ∧ e.ev.i ≤ 9223372036854775807) : (SE.inr .i64 e).ev.b = true := by
  simp only [SE.ev, decide_eq_true_eq]
  rw [IntKind.wrap_i64]
  omega
theorem inr_wrap [Rho] {k : IntKind} {e : SE} (h : (SE.inr k e).ev.b = true) : k.wrap e.ev.i = e.ev.i := by simpa [SE.ev] using h
end Go.Proofs.Ytmglofemnobakaa
