/- What is known under some names is known under others. -/
import Derived.Test.YtmglofemnobakaaSyx
namespace Go.Proofs.Ytmglofemnobakaa
open Go.RowKit

/-- names below B only -/
def stab (B : Nat) : SE → Bool
  | .lit _ => true
  | .var k => Nat.blt k B
  | .add a b => stab B a && stab B b
  | .sub a b => stab B a && stab B b
  | .mul a b => stab B a && stab B b
  | .quo a b => stab B a && stab B b
  | .rem a b => stab B a && stab B b
  | .avar k => Nat.blt k B
  | .azero => true
  | .upd a i v => stab B a && stab B i && stab B v
  | .sel a i => stab B a && stab B i
  | .tt _ => true
  | .bvar k => Nat.blt k B
  | .le a b => stab B a && stab B b
  | .eq a b => stab B a && stab B b
  | .not a => stab B a
  | .inr _ a => stab B a
structure Agree (B : Nat) (ρ ρ' : Rho) : Prop where
  i : ∀ k, k < B → @Rho.i ρ' k = @Rho.i ρ k
  b : ∀ k, k < B → @Rho.b ρ' k = @Rho.b ρ k
  a : ∀ k, k < B → @Rho.a ρ' k = @Rho.a ρ k
  fb : @Rho.fb ρ' = @Rho.fb ρ
  fo : @Rho.fo ρ' = @Rho.fo ρ
  fn : @Rho.fn ρ' = @Rho.fn ρ
  fa : ∀ k, 0 < @Rho.fn ρ k → @Rho.a ρ' k = @Rho.a ρ k
theorem Agree.refl (B : Nat) (ρ : Rho) : Agree B ρ ρ := ⟨fun _ _ => rfl, fun _ _ => rfl, fun _ _ => rfl, rfl, rfl, rfl, fun _ _ => rfl⟩
theorem stab_ev {B : Nat} {ρ ρ' : Rho} (h : Agree B ρ ρ') : ∀ e : SE, stab B e = true → @SE.ev ρ' e = @SE.ev ρ e := by
  intro e
  induction e with
  | lit n => intro _; rfl
  | var k => intro hs; simp only [SE.ev]; rw [h.i k (by simpa [stab, Nat.blt_eq] using hs)]
  | add a b ha hb => intro hs; simp only [stab, Bool.and_eq_true] at hs; simp only [SE.ev]; rw [ha hs.1, hb hs.2]
  | sub a b ha hb => intro hs; simp only [stab, Bool.and_eq_true] at hs; simp only [SE.ev]; rw [ha hs.1, hb hs.2]
  | mul a b ha hb => intro hs; simp only [stab, Bool.and_eq_true] at hs; simp only [SE.ev]; rw [ha hs.1, hb hs.2]
  | quo a b ha hb => intro hs; simp only [stab, Bool.and_eq_true] at hs; simp only [SE.ev]; rw [ha hs.1, hb hs.2]
  | rem a b ha hb => intro hs; simp only [stab, Bool.and_eq_true] at hs; simp only [SE.ev]; rw [ha hs.1, hb hs.2]
  | avar k => intro hs; simp only [SE.ev]; rw [h.a k (by simpa [stab, Nat.blt_eq] using hs)]
  | azero => intro _; rfl
  | upd a i v ha hi hv => intro hs; simp only [stab, Bool.and_eq_true] at hs; simp only [SE.ev]; rw [ha hs.1.1, hi hs.1.2, hv hs.2]
  | sel a i ha hi => intro hs; simp only [stab, Bool.and_eq_true] at hs; simp only [SE.ev]; rw [ha hs.1, hi hs.2]
  | tt b => intro _; rfl
  | bvar k => intro hs; simp only [SE.ev]; rw [h.b k (by simpa [stab, Nat.blt_eq] using hs)]
  | le a b ha hb => intro hs; simp only [stab, Bool.and_eq_true] at hs; simp only [SE.ev]; rw [ha hs.1, hb hs.2]
  | eq a b ha hb => intro hs; simp only [stab, Bool.and_eq_true] at hs; simp only [SE.ev]; rw [ha hs.1, hb hs.2]
  | not a ha => intro hs; simp only [stab] at hs; simp only [SE.ev]; rw [ha hs]
  | inr k a ha => intro hs; simp only [stab] at hs; simp only [SE.ev]; rw [ha hs]

/-- what is left to show: a number, a truth under the old names is one under the new ones -/
inductive Du where
  | int (e e' : SE)
  | bool (e e' : SE)
  | row (e e' : SE)
  | cell (r : RV) (ar : SE) (i : Nat)
def DuOk (ρ ρ' : Rho) : Du → Prop
  | .int e e' => (@SE.ev ρ e).i = (@SE.ev ρ' e').i
  | .bool e e' => (@SE.ev ρ e).b = (@SE.ev ρ' e').b
  | .row e e' => (@SE.ev ρ e).a = (@SE.ev ρ' e').a
  | .cell r ar i => match sI r with | some (.i64, e) => (@SE.ev ρ e).i = (@SE.ev ρ' ar).a (i : Int) | _ => False
def AllDu (ρ ρ' : Rho) : List Du → Prop
  | [] => True
  | d :: ds => DuOk ρ ρ' d ∧ AllDu ρ ρ' ds
theorem allDu_app {ρ ρ' : Rho} : ∀ {l l' : List Du}, AllDu ρ ρ' (l ++ l') ↔ AllDu ρ ρ' l ∧ AllDu ρ ρ' l'
  | [], l' => by simp [AllDu]
  | d :: l, l' => by simp only [List.cons_append, AllDu, allDu_app (l := l), and_assoc]
def duI (B : Nat) (e e' : SE) : List Du := match decide (e = e') && stab B e with | true => [] | false => [.int e e']
def duR (B : Nat) (e e' : SE) : List Du := match decide (e = e') && stab B e with | true => [] | false => [.row e e']
def duB (B : Nat) (e e' : SE) : List Du := match decide (e = e') && stab B e with | true => [] | false => [.bool e e']
theorem duI_ok {B : Nat} {ρ ρ' : Rho} (h : Agree B ρ ρ') {e e' : SE} (hd : AllDu ρ ρ' (duI B e e')) : (@SE.ev ρ e).i = (@SE.ev ρ' e').i := by
  unfold duI at hd
  split at hd
  · rename_i hb
    simp only [Bool.and_eq_true, decide_eq_true_eq] at hb
    obtain ⟨rfl, hs⟩ := hb
    rw [stab_ev h _ hs]
  · exact hd.1
theorem duR_ok {B : Nat} {ρ ρ' : Rho} (h : Agree B ρ ρ') {e e' : SE} (hd : AllDu ρ ρ' (duR B e e')) : (@SE.ev ρ e).a = (@SE.ev ρ' e').a := by
  unfold duR at hd
  split at hd
  · rename_i hb
    simp only [Bool.and_eq_true, decide_eq_true_eq] at hb
    obtain ⟨rfl, hs⟩ := hb
    rw [stab_ev h _ hs]
  · exact hd.1
theorem duB_ok {B : Nat} {ρ ρ' : Rho} (h : Agree B ρ ρ') {e e' : SE} (hd : AllDu ρ ρ' (duB B e e')) : (@SE.ev ρ e).b = (@SE.ev ρ' e').b := by
  unfold duB at hd
  split at hd
  · rename_i hb
    simp only [Bool.and_eq_true, decide_eq_true_eq] at hb
    obtain ⟨rfl, hs⟩ := hb
    rw [stab_ev h _ hs]
  · exact hd.1

def sameV : Value → Value → Bool
  | .int k n, .int k' n' => decide (k = k') && decide (n = n')
  | .bool b, .bool b' => decide (b = b')
  | .slice none 0 0, .slice none 0 0 => true
  | .pointer none, .pointer none => true
  | .tuple ⟨[]⟩, .tuple ⟨[]⟩ => true
  | .nilFunc, .nilFunc => true
  | .string s, .string s' => decide (s.data.toList = s'.data.toList)
  | _, _ => false
theorem sameV_eq {v v' : Value} (h : sameV v v' = true) : v = v' := by
  unfold sameV at h
  split at h
  · simp only [Bool.and_eq_true, decide_eq_true_eq] at h; rw [h.1, h.2]
  · simp only [decide_eq_true_eq] at h; rw [h]
  · rfl
  · rfl
  · rfl
  · rfl
  · simp only [decide_eq_true_eq] at h
    rename_i s s'
    obtain ⟨⟨s⟩⟩ := s
    obtain ⟨⟨s'⟩⟩ := s'
    simp only at h
    rw [h]
  · cases h
def capE : Option Nat → Option Nat → Bool
  | none, none => true
  | some a, some b => Nat.beq a b
  | _, _ => false
theorem capE_eq {a b : Option Nat} (h : capE a b = true) : a = b := by
  unfold capE at h
  split at h
  · rfl
  · rw [Nat.eq_of_beq_eq_true h]
  · cases h

mutual
/-- from one to the other; blocks below N stay -/
def cvR (B N : Nat) : RV → RV → Option (List Du)
  | _, .unk => some []
  | .pl v, .pl v' => match sameV v v' with | true => some [] | false => none
  | .pl (.int k n), .si k' e => match decide (k = k') with | true => some (duI B (.lit n) e) | false => none
  | .si k e, .si k' e' => match decide (k = k') with | true => some (duI B e e') | false => none
  | .pl (.bool b), .sb e => some (duB B (.tt b) e)
  | .sb e, .sb e' => some (duB B e e')
  | .ptr b o, .ptr b' o' => match Nat.beq b b' && Nat.beq o o' && Nat.blt b N with | true => some [] | false => none
  | .slc b o l c, .slc b' o' l' c' => match Nat.beq b b' && Nat.beq o o' && Nat.beq l l' && capE c c' && Nat.blt b N with | true => some [] | false => none
  | .agg l, .agg l' => cvL B N l l'
  | .tup l, .tup l' => cvL B N l l'
  | .fn f x y, .fn f' x' y' => match Nat.beq f f' with | true => (match cvL B N x x', cvL B N y y' with | some p, some q => some (p ++ q) | _, _ => none) | false => none
  | .fsl id sz o l, .fsl id' sz' o' l' => match Nat.beq id id' && Nat.beq sz sz' with | true => some (duI B o o' ++ duI B l l') | false => none
  | .fpt id n e, .fpt id' n' e' => match Nat.beq id id' && Nat.beq n n' with | true => some (duI B e e') | false => none
  | .osl b sz l, .osl b' sz' l' => match Nat.beq b b' && Nat.beq sz sz' && Nat.blt b N with | true => some (duI B l l') | false => none
  | .slc b 0 n none, .osl b' 1 l' => match Nat.beq b b' && Nat.blt b N with | true => some [.int (.lit (.ofNat n)) l'] | false => none
  | _, _ => none
def cvL (B N : Nat) : List RV → List RV → Option (List Du)
  | [], [] => some []
  | r :: rs, r' :: rs' => match cvR B N r r', cvL B N rs rs' with | some p, some q => some (p ++ q) | _, _ => none
  | _, _ => none
end

section
variable {B N : Nat} {ρ ρ' : Rho} {V : Nat → Prop} {m g : Nat → Nat}
mutual
theorem cvR_ok (h : Agree B ρ ρ') : ∀ (r r' : RV) (x : Value) (ds : List Du), cvR B N r r' = some ds → AllDu ρ ρ' ds → @Rep ρ V m g r x → @Rep ρ' (fun k => V k ∧ k < N) m g r' x := by
  intro r r' x ds hc hd hr
  unfold cvR at hc
  split at hc
  · simp only [Rep]
  · split at hc
    · rename_i hs
      simp only [Rep] at hr ⊢
      rw [hr, sameV_eq hs]
    · cases hc
  · split at hc
    · rename_i hk
      have hk := of_decide_eq_true hk
      subst hk
      cases hc
      simp only [Rep] at hr ⊢
      rw [hr, ← duI_ok h hd]
      rfl
    · cases hc
  · split at hc
    · rename_i hk
      have hk := of_decide_eq_true hk
      subst hk
      cases hc
      simp only [Rep] at hr ⊢
      rw [hr, ← duI_ok h hd]
    · cases hc
  · cases hc
    simp only [Rep] at hr ⊢
    rw [hr, ← duB_ok h hd]
    rfl
  · cases hc
    simp only [Rep] at hr ⊢
    rw [hr, ← duB_ok h hd]
  · split at hc
    · rename_i hb
      simp only [Bool.and_eq_true, Nat.blt_eq] at hb
      obtain ⟨⟨h1, h2⟩, h3⟩ := hb
      obtain rfl := Nat.eq_of_beq_eq_true h1
      obtain rfl := Nat.eq_of_beq_eq_true h2
      simp only [Rep] at hr ⊢
      exact ⟨⟨hr.1, h3⟩, hr.2⟩
    · cases hc
  · rename_i b o l c b' o' l' c'
    split at hc
    · rename_i hb
      simp only [Bool.and_eq_true, Nat.blt_eq] at hb
      obtain ⟨⟨⟨⟨h1, h2⟩, h3⟩, h4⟩, h5⟩ := hb
      obtain rfl := Nat.eq_of_beq_eq_true h1
      obtain rfl := Nat.eq_of_beq_eq_true h2
      obtain rfl := Nat.eq_of_beq_eq_true h3
      obtain rfl := capE_eq h4
      cases c with
      | none => simp only [Rep] at hr ⊢; exact ⟨⟨hr.1, h5⟩, hr.2⟩
      | some c => simp only [Rep] at hr ⊢; exact ⟨⟨hr.1, h5⟩, hr.2⟩
    · cases hc
  · simp only [Rep] at hr ⊢
    obtain ⟨a, h1, h2⟩ := hr
    exact ⟨a, h1, cvL_ok h _ _ _ ds hc hd h2⟩
  · simp only [Rep] at hr ⊢
    obtain ⟨a, h1, h2⟩ := hr
    exact ⟨a, h1, cvL_ok h _ _ _ ds hc hd h2⟩
  · split at hc
    · rename_i hf
      obtain rfl := Nat.eq_of_beq_eq_true hf
      split at hc
      · rename_i p q hp hq
        cases hc
        obtain ⟨d1, d2⟩ := allDu_app.1 hd
        simp only [Rep] at hr ⊢
        obtain ⟨a, b, h1, h2, h3⟩ := hr
        exact ⟨a, b, h1, cvL_ok h _ _ _ p hp d1 h2, cvL_ok h _ _ _ q hq d2 h3⟩
      · cases hc
    · cases hc
  · split at hc
    · rename_i hb
      simp only [Bool.and_eq_true] at hb
      obtain rfl := Nat.eq_of_beq_eq_true hb.1
      obtain rfl := Nat.eq_of_beq_eq_true hb.2
      cases hc
      obtain ⟨d1, d2⟩ := allDu_app.1 hd
      simp only [Rep, FSl] at hr ⊢
      rw [duI_ok h d1, duI_ok h d2] at hr
      rw [h.fo, h.fn]
      exact hr
    · cases hc
  · split at hc
    · rename_i hb
      simp only [Bool.and_eq_true] at hb
      obtain rfl := Nat.eq_of_beq_eq_true hb.1
      obtain rfl := Nat.eq_of_beq_eq_true hb.2
      cases hc
      simp only [Rep, FPt] at hr ⊢
      rw [duI_ok h hd] at hr
      rw [h.fo, h.fn]
      exact hr
    · cases hc
  · split at hc
    · rename_i hb
      simp only [Bool.and_eq_true, Nat.blt_eq] at hb
      obtain ⟨⟨h1, h2⟩, h3⟩ := hb
      obtain rfl := Nat.eq_of_beq_eq_true h1
      obtain rfl := Nat.eq_of_beq_eq_true h2
      cases hc
      simp only [Rep] at hr ⊢
      rw [duI_ok h hd] at hr
      exact ⟨⟨hr.1, h3⟩, hr.2⟩
    · cases hc
  · rename_i b n b' l'
    split at hc
    · rename_i hb
      simp only [Bool.and_eq_true, Nat.blt_eq] at hb
      obtain ⟨h1, h3⟩ := hb
      obtain rfl := Nat.eq_of_beq_eq_true h1
      cases hc
      simp only [Rep] at hr ⊢
      have hd1 : (n : Int) = (@SE.ev ρ' l').i := hd.1
      exact ⟨⟨hr.1, h3⟩, n, hd1.symm, hr.2.1, hr.2.2⟩
    · cases hc
  · cases hc
theorem cvL_ok (h : Agree B ρ ρ') : ∀ (l l' : List RV) (xs : List Value) (ds : List Du), cvL B N l l' = some ds → AllDu ρ ρ' ds → @RepL ρ V m g l xs → @RepL ρ' (fun k => V k ∧ k < N) m g l' xs := by
  intro l l' xs ds hc hd hr
  unfold cvL at hc
  split at hc
  · simpa only [RepL] using hr
  · split at hc
    · rename_i p q hp hq
      cases hc
      obtain ⟨d1, d2⟩ := allDu_app.1 hd
      simp only [RepL] at hr ⊢
      obtain ⟨v, vs, h1, h2, h3⟩ := hr
      exact ⟨v, vs, h1, cvR_ok h _ _ _ p hp d1 h2, cvL_ok h _ _ _ q hq d2 h3⟩
    · cases hc
  · cases hc
end

/-- slots -/
def cvT (B N : Nat) : RT → RT → Option (List Du)
  | [], [] => some []
  | l :: t, l' :: t' => match cvL B N l l', cvT B N t t' with | some p, some q => some (p ++ q) | _, _ => none
  | _, _ => none
theorem cvL_get : ∀ (l l' : List RV) (ds : List Du), cvL B N l l' = some ds → AllDu ρ ρ' ds → ∀ j, ∃ ds', cvR B N (rowGet l j) (rowGet l' j) = some ds' ∧ AllDu ρ ρ' ds' := by
  intro l
  induction l with
  | nil =>
    intro l' ds hc hd j
    cases l' with
    | nil => exact ⟨[], rfl, trivial⟩
    | cons r' rs' => simp [cvL] at hc
  | cons r rs ih =>
    intro l' ds hc hd j
    cases l' with
    | nil => simp [cvL] at hc
    | cons r' rs' =>
      simp only [cvL] at hc
      split at hc
      · rename_i p q hp hq
        cases hc
        obtain ⟨d1, d2⟩ := allDu_app.1 hd
        cases j with
        | zero => exact ⟨p, hp, d1⟩
        | succ j => exact ih rs' q hq d2 j
      · cases hc
theorem cvT_get : ∀ (t t' : RT) (ds : List Du), cvT B N t t' = some ds → AllDu ρ ρ' ds → ∀ i j, ∃ ds', cvR B N (rtGet t i j) (rtGet t' i j) = some ds' ∧ AllDu ρ ρ' ds' := by
  intro t
  induction t with
  | nil =>
    intro t' ds hc hd i j
    cases t' with
    | nil => exact ⟨[], rfl, trivial⟩
    | cons l' ls' => simp [cvT] at hc
  | cons l t ih =>
    intro t' ds hc hd i j
    cases t' with
    | nil => simp [cvT] at hc
    | cons l' t' =>
      simp only [cvT] at hc
      split at hc
      · rename_i p q hp hq
        cases hc
        obtain ⟨d1, d2⟩ := allDu_app.1 hd
        cases i with
        | zero => exact cvL_get l l' p hp d1 j
        | succ i => exact ih t' q hq d2 i j
      · cases hc
def all8 : RT → Bool
  | [] => true
  | l :: t => Nat.beq l.length 8 && all8 t
theorem all8_ok : ∀ {t : RT}, all8 t = true → ∀ l ∈ t, l.length = 8
  | [], _, l, hl => by cases hl
  | x :: t, h, l, hl => by
    simp only [all8, Bool.and_eq_true] at h
    rcases List.mem_cons.1 hl with rfl | hl
    · exact Nat.eq_of_beq_eq_true h.1
    · exact all8_ok h.2 l hl
def sameDfs : List Nat → List Nat → Bool
  | [], [] => true
  | _, _ => false
def cvA (B N : Nat) (a a' : RA) : Option (List Du) :=
  match Nat.beq a.sz a'.sz && sameDfs a.dfs a'.dfs && all8 a'.tmps && Nat.ble a'.sz (a'.tmps.length * 8) with
  | true => cvT B N a.tmps a'.tmps
  | false => none
theorem cvA_ok (h : Agree B ρ ρ') {a a' : RA} {A : Act} {ds : List Du} (hc : cvA B N a a' = some ds) (hd : AllDu ρ ρ' ds) (hr : @RepA ρ V m g a A) : @RepA ρ' (fun k => V k ∧ k < N) m g a' A := by
  unfold cvA at hc
  split at hc
  · rename_i hb
    simp only [Bool.and_eq_true] at hb
    obtain ⟨⟨⟨h1, h2⟩, h3⟩, h4⟩ := hb
    have h1 := Nat.eq_of_beq_eq_true h1
    have h4 := Nat.le_of_ble_eq_true h4
    have e1 : a.dfs = [] ∧ a'.dfs = [] := by
      unfold sameDfs at h2
      split at h2
      · rename_i x y; exact ⟨x, y⟩
      · cases h2
    obtain ⟨⟨q1, q2, q3⟩, q4, q5⟩ := hr
    refine ⟨⟨⟨all8_ok h3, h4⟩, by rw [← h1]; exact q2, fun i => ?_⟩, ?_, fun d hd => ?_⟩
    · obtain ⟨ds', x1, x2⟩ := cvT_get a.tmps a'.tmps ds hc hd (i / 8) (i % 8)
      exact cvR_ok h _ _ _ ds' x1 x2 (q3 i)
    · rw [e1.2, q4, e1.1]
    · rw [e1.2] at hd; cases hd
  · cases hc
/-- blocks -/
def cvO (B N : Nat) : Option RO → Option RO → Option (List Du)
  | _, none => some []
  | some (.cells l t g), some (.cells l' t' g') => match Nat.beq t t' && decide (g = g') with | true => cvL B N l l' | false => none
  | some (.row ar n t sz), some (.row ar' n' t' sz') => match Nat.beq t t' && Nat.beq sz sz' with | true => some (duR B ar ar' ++ duI B n n') | false => none
  | _, _ => none
/-- the blocks numbered below k -/
def cvB (B N : Nat) (h h' : RH) : Nat → Option (List Du)
  | 0 => some []
  | .succ k => match cvO B N (h.at? k) (h'.at? k), cvB B N h h' k with | some p, some q => some (p ++ q) | _, _ => none
def cvH (B : Nat) (h h' : RH) : Option (List Du) :=
  match Nat.beq h'.bl.length h'.n && Nat.ble h'.n h.n with
  | true => cvB B h'.n h h' h'.n
  | false => none
theorem cvB_get {h h' : RH} : ∀ (k : Nat) (ds : List Du), cvB B N h h' k = some ds → AllDu ρ ρ' ds → ∀ j, j < k → ∃ ds', cvO B N (h.at? j) (h'.at? j) = some ds' ∧ AllDu ρ ρ' ds' := by
  intro k
  induction k with
  | zero => intro ds _ _ j hj; omega
  | succ k ih =>
    intro ds hc hd j hj
    simp only [cvB] at hc
    split at hc
    · rename_i p q hp hq
      cases hc
      obtain ⟨d1, d2⟩ := allDu_app.1 hd
      by_cases e : j = k
      · subst e; exact ⟨p, hp, d1⟩
      · exact ih q hq d2 j (by omega)
    · cases hc
theorem cvL_len : ∀ (l l' : List RV) (ds : List Du), cvL B N l l' = some ds → l'.length = l.length := by
  intro l
  induction l with
  | nil =>
    intro l' ds hc
    cases l' with
    | nil => rfl
    | cons r' rs' => simp [cvL] at hc
  | cons r rs ih =>
    intro l' ds hc
    cases l' with
    | nil => simp [cvL] at hc
    | cons r' rs' =>
      simp only [cvL] at hc
      split at hc
      · rename_i p q hp hq
        simp [ih rs' q hq]
      · cases hc
theorem cvH_ok {P : Program} (ha : Agree B ρ ρ') {h h' : RH} {w : World} {ds : List Du} (hc : cvH B h h' = some ds) (hd : AllDu ρ ρ' ds) (hw : @RepW ρ P V m g h w) : @RepW ρ' P (fun k => V k ∧ k < h'.n) m g h' w := by
  unfold cvH at hc
  split at hc
  · rename_i hb
    simp only [Bool.and_eq_true] at hb
    have h1 := Nat.eq_of_beq_eq_true hb.1
    have h2 := Nat.le_of_ble_eq_true hb.2
    have hlive := @RepW.live ρ P V m g h w hw
    have hinj := @RepW.inj ρ P V m g h w hw
    have hfar := @RepW.far ρ P V m g h w hw
    have hlow := @RepW.low ρ P V m g h w hw
    have f1 := @Far.size ρ w hfar
    have f2 := @Far.low ρ w hfar
    have f3 := @Far.cell ρ w hfar
    have each : ∀ k o, h'.at? k = some o → ∃ o0, h.at? k = some o0 ∧ V k ∧ @ROk ρ' P (fun k => V k ∧ k < h'.n) m g k o w := fun k o hk => by
      obtain ⟨ds', x1, x2⟩ := cvB_get _ ds hc hd k (at_some_lt hk)
      rw [hk] at x1
      unfold cvO at x1
      split at x1
      · rename_i e; cases e
      · rename_i l t gr l' t' gr' e1 e2
        split at x1
        · rename_i hq
          simp only [Bool.and_eq_true, decide_eq_true_eq] at hq
          obtain rfl := Nat.eq_of_beq_eq_true hq.1
          obtain rfl := hq.2
          cases e2
          obtain ⟨z1, c, y1, y2, y3, y4⟩ := hlive k _ e1
          have hl := cvL_len _ _ _ x1
          exact ⟨_, e1, z1, c, y1, by omega, by rw [hl]; exact cvL_ok ha _ _ _ ds' x1 x2 y3, y4⟩
        · cases x1
      · rename_i ar n t sz ar' n' t' sz' e1 e2
        split at x1
        · rename_i hq
          simp only [Bool.and_eq_true] at hq
          obtain rfl := Nat.eq_of_beq_eq_true hq.1
          obtain rfl := Nat.eq_of_beq_eq_true hq.2
          cases e2
          cases x1
          obtain ⟨d1, d2⟩ := allDu_app.1 x2
          obtain ⟨z1, c, K, y1, y2, y3, y4, y5⟩ := hlive k _ e1
          exact ⟨_, e1, z1, c, K, y1, by rw [← duI_ok ha d2]; exact y2, y3, by rw [← duR_ok ha d1]; exact y4, y5⟩
        · cases x1
      · cases x1
    refine @RepW.mk ρ' _ _ _ _ _ _ h1 (fun k o hk => ?_) (fun k1 k2 o1 o2 e1 e2 e => ?_) (fun k hk => hk.2) ?_ (fun k hk => ?_)
    · obtain ⟨o0, q1, q2, q3⟩ := each k o hk
      exact ⟨⟨q2, at_some_lt hk⟩, q3⟩
    · obtain ⟨_, q1, _⟩ := each k1 o1 e1
      obtain ⟨_, q2, _⟩ := each k2 o2 e2
      exact hinj k1 k2 _ _ q1 q2 e
    · refine @Far.mk ρ' w (by rw [ha.fb]; exact f1) (fun id hi => ?_) (fun id j hj => ?_)
      · rw [ha.fn] at hi
        rw [ha.fo, ha.fb]
        exact f2 id hi
      · rw [ha.fn] at hj
        rw [ha.fo, ha.fa id (by omega)]
        exact f3 id j hj
    · rw [ha.fb]
      exact hlow k hk.1
  · cases hc
/-- what is left to show, when what is known is put under other names -/
def cvS (B : Nat) (a : RA) (h : RH) (a' : RA) (h' : RH) : Option (List Du) :=
  match cvA B h'.n a a', cvH B h h' with
  | some p, some q => some (p ++ q)
  | _, _ => none
theorem st_cv {P : Program} {W0 : World} (ha : Agree B ρ ρ') {a a' : RA} {h h' : RH} {A : Act} {W : World} {ds : List Du} (hc : cvS B a h a' h' = some ds) (hd : AllDu ρ ρ' ds) (hs : @St ρ P W0 a h A W) : @St ρ' P W0 a' h' A W := by
  unfold cvS at hc
  split at hc
  · rename_i p q hp hq
    cases hc
    obtain ⟨d1, d2⟩ := allDu_app.1 hd
    obtain ⟨V, m, g, x1, x2, x3⟩ := hs
    refine ⟨_, m, g, cvA_ok ha hp d1 x1, cvH_ok ha hq d2 x2, by rw [ha.fb]; exact x3⟩
  · cases hc
end
end Go.Proofs.Ytmglofemnobakaa
