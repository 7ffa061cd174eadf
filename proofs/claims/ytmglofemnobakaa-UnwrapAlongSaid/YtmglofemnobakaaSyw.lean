/- Calls that are known by what their arguments show: numbers by name, rows by name, wherever these lie. -/
import Derived.Test.YtmglofemnobakaaSyk
namespace Go.Proofs.Ytmglofemnobakaa
open Go.RowKit

/-- what a slice shows: its row, its length -/
def sview (h : RH) (sz : Nat) : RV → Option (SE × SE)
  | .fsl id s o len => match Nat.beq s sz && decide (o = .lit 0) with | true => some (.avar id, len) | false => none
  | .osl b s len =>
    match h.at? b with
    | some (.row ar rn _ z) => match Nat.beq s sz && (Nat.beq z sz && decide (rn = len)) with | true => some (ar, len) | false => none
    | _ => none
  | .slc _ _ len _ => match len with | 0 => some (.azero, .lit 0) | .succ _ => none
  | .pl v => match v with | .slice none 0 0 => some (.azero, .lit 0) | _ => none
  | _ => none
/-- what an argument is: a number by name, a truth by name, a row by name (z: empty), parts -/
inductive AV where
  | int (k : IntKind) (v : Nat)
  | tru (v : Nat)
  | row (id v sz : Nat) (z : Bool)
  | agg (l : List AV)
mutual
def avD (h : RH) : AV → RV → Bool
  | .int k v, .si k' e => decide (k = k') && decide (e = .var v)
  | .tru v, .sb e => decide (e = .bvar v)
  | .row id v sz z, r =>
    match sview h sz r with
    | some (a, l) => match z with | true => decide (l = .lit 0) | false => decide (a = .avar id) && decide (l = .var v)
    | none => false
  | .agg l, .agg rs => avL h l rs
  | _, _ => false
def avL (h : RH) : List AV → List RV → Bool
  | [], [] => true
  | a :: l, r :: rs => match avD h a r with | true => avL h l rs | false => false
  | _, _ => false
end
mutual
def AVal [Rho] (W : World) : AV → Value → Prop
  | .int k v, x => x = .int k (Rho.i v)
  | .tru v, x => x = .bool (Rho.b v)
  | .row id v sz _, x => ∃ A L c, x = .slice A L c ∧ (L : Int) = Rho.i v ∧ L ≤ c ∧ RowR W A (L * sz) (Rho.a id)
  | .agg l, x => ∃ a : Array Value, x = .agg a ∧ AValL W l a.toList
def AValL [Rho] (W : World) : List AV → List Value → Prop
  | [], l => l = []
  | a :: l, xs => ∃ v vs, xs = v :: vs ∧ AVal W a v ∧ AValL W l vs
end
mutual
/-- rows that are said to be empty are -/
def AZ [Rho] : AV → Prop
  | .row _ v _ z => z = true → Rho.i v = 0
  | .agg l => AZL l
  | _ => True
def AZL [Rho] : List AV → Prop
  | [] => True
  | a :: l => AZ a ∧ AZL l
end
theorem sview_ok [Rho] {P : Program} {V : Nat → Prop} {m g : Nat → Nat} {h : RH} {W : World} {sz : Nat} {r : RV} {x : Value} {a l : SE} (hs : sview h sz r = some (a, l)) (hx : Rep V m g r x) (hw : RepW P V m g h W) :
    ∃ A L c, x = .slice A L c ∧ l.ev.i = (L : Int) ∧ L ≤ c ∧ RowR W A (L * sz) a.ev.a := by
  have none_row : ∀ A F, RowR W A (0 * sz) F := fun A F hp => absurd hp (by simp)
  unfold sview at hs
  split at hs
  · split at hs
    · rename_i hq
      simp only [Bool.and_eq_true, decide_eq_true_eq] at hq
      obtain ⟨q1, rfl⟩ := hq
      obtain rfl := Nat.eq_of_beq_eq_true q1
      cases hs
      simp only [Rep] at hx
      exact fsl_rowR hx hw.far
    · cases hs
  · split at hs
    · rename_i hat
      split at hs
      · rename_i hq
        simp only [Bool.and_eq_true, decide_eq_true_eq] at hq
        obtain ⟨q1, q2, rfl⟩ := hq
        obtain rfl := Nat.eq_of_beq_eq_true q1
        obtain rfl := Nat.eq_of_beq_eq_true q2
        cases hs
        obtain ⟨B, L, c, e1, e2, e3, _, e4⟩ := osl_rowR hx hw hat
        exact ⟨_, L, c, e1, e2, e3, e4⟩
      · cases hs
    · cases hs
  · rename_i b0 o0 ln cp
    split at hs
    · cases hs
      cases cp with
      | none =>
        simp only [Rep] at hx
        exact ⟨_, 0, _, hx.2.2, rfl, Nat.zero_le _, none_row _ _⟩
      | some c =>
        simp only [Rep] at hx
        exact ⟨_, 0, _, hx.2, rfl, Nat.zero_le _, none_row _ _⟩
    · cases hs
  · split at hs
    · cases hs
      simp only [Rep] at hx
      exact ⟨_, 0, _, hx, rfl, Nat.le_refl _, none_row _ _⟩
    · cases hs
  · cases hs
section
variable [Rho] {P : Program} {V : Nat → Prop} {m g : Nat → Nat} {h : RH} {W : World}
mutual
theorem avD_ok (hw : RepW P V m g h W) : ∀ (a : AV) (r : RV) (x : Value), avD h a r = true → AZ a → Rep V m g r x → AVal W a x
  | .int k v, r, x, he, _, hx => by
    cases r <;> simp only [avD, Bool.and_eq_true, decide_eq_true_eq] at he <;> try (exact absurd he Bool.false_ne_true)
    obtain ⟨rfl, rfl⟩ := he
    simp only [Rep] at hx
    simp only [AVal]
    exact hx
  | .tru v, r, x, he, _, hx => by
    cases r <;> simp only [avD, decide_eq_true_eq] at he <;> try (exact absurd he Bool.false_ne_true)
    subst he
    simp only [Rep] at hx
    simp only [AVal]
    exact hx
  | .row id v sz z, r, x, he, hz, hx => by
    simp only [avD] at he
    split at he
    · rename_i a l hs
      obtain ⟨A, L, c, e1, e2, e3, e4⟩ := sview_ok hs hx hw
      simp only [AVal]
      cases z with
      | true =>
        have he := of_decide_eq_true he
        subst he
        have hL : L = 0 := by
          have : (0 : Int) = (L : Int) := e2
          omega
        subst hL
        simp only [AZ] at hz
        exact ⟨A, 0, c, e1, by rw [hz trivial]; rfl, e3, fun hp => absurd hp (by simp)⟩
      | false =>
        simp only [Bool.and_eq_true, decide_eq_true_eq] at he
        obtain ⟨rfl, rfl⟩ := he
        exact ⟨A, L, c, e1, e2.symm, e3, e4⟩
    · cases he
  | .agg l, r, x, he, hz, hx => by
    cases r with
    | agg rs =>
      simp only [avD] at he
      simp only [Rep] at hx
      simp only [AZ] at hz
      obtain ⟨a, rfl, hx⟩ := hx
      simp only [AVal]
      exact ⟨a, rfl, avL_ok hw l rs a.toList he hz hx⟩
    | _ => simp only [avD] at he; exact absurd he Bool.false_ne_true
theorem avL_ok (hw : RepW P V m g h W) : ∀ (l : List AV) (rs : List RV) (xs : List Value), avL h l rs = true → AZL l → RepL V m g rs xs → AValL W l xs
  | [], [], xs, _, _, hx => by simp only [RepL] at hx; simp only [AValL]; exact hx
  | [], _ :: _, _, he, _, _ => by simp only [avL] at he; exact absurd he Bool.false_ne_true
  | _ :: _, [], _, he, _, _ => by simp only [avL] at he; exact absurd he Bool.false_ne_true
  | a :: l, r :: rs, xs, he, hz, hx => by
    simp only [avL] at he
    simp only [AZL] at hz
    split at he
    · rename_i h1
      obtain ⟨v, vs, rfl, x1, x2⟩ := repL_cons.1 hx
      simp only [AValL]
      exact ⟨v, vs, rfl, avD_ok hw a r v h1 hz.1 x1, avL_ok hw l rs vs he hz.2 x2⟩
    · cases he
end
end
/-- a call with arguments that show this gives this -/
def viewK (k0 : Nat) (spec : List AV) (res : RV) : Know := fun k args h =>
  match Nat.beq k k0 with
  | true => (match avL h spec args with | true => some (res, h) | false => none)
  | false => none
theorem viewK_ok [Rho] {P : Program} {k0 : Nat} {spec : List AV} {res : RV} (hz : AZL spec)
    (h : ∀ xs W, AValL W spec xs.toList → Far W → Calls P k0 xs W fun e w' => (∃ v, e = .returned v ∧ Rep (fun _ => False) (fun _ => 0) (fun _ => 0) res v) ∧ Below W.heap.size W w') : KOk P (viewK k0 spec res) := fun k args hh r h' he V m g xs W n hx hw => by
  simp only [viewK] at he
  split at he
  · rename_i hb
    obtain rfl := Nat.eq_of_beq_eq_true hb
    split at he
    · rename_i hc
      cases he
      refine quiet_call hw ((h xs W (avL_ok hw _ _ _ hc hz hx) hw.far).mono ?_)
      rintro e w' ⟨⟨v, he, hv⟩, hb⟩
      exact ⟨⟨v, he, rep_mono (fun k hk => hk.elim) _ _ hv⟩, hb⟩
    · cases he
  · cases he
/-- opened: two parts, one -/
theorem aval_cons [Rho] {W : World} {a : AV} {l : List AV} {xs : List Value} (h : AValL W (a :: l) xs) : ∃ v vs, xs = v :: vs ∧ AVal W a v ∧ AValL W l vs := by simpa only [AValL] using h
theorem aval_nil [Rho] {W : World} {xs : List Value} (h : AValL W [] xs) : xs = [] := by simpa only [AValL] using h
theorem aval_row [Rho] {W : World} {id v sz : Nat} {z : Bool} {x : Value} {n : Nat} {F : Int → Int} (h : AVal W (.row id v sz z) x) (hv : Rho.i v = (n : Int)) (hF : Rho.a id = F) : ∃ A c, x = .slice A n c ∧ n ≤ c ∧ RowR W A (n * sz) F := by
  simp only [AVal] at h
  obtain ⟨A, L, c, rfl, h1, h2, h3⟩ := h
  have hL : L = n := by omega
  subst hL
  exact ⟨A, c, rfl, h2, by rw [← hF]; exact h3⟩
theorem aval_int [Rho] {W : World} {k : IntKind} {v : Nat} {x : Value} {N : Int} (h : AVal W (.int k v) x) (hv : Rho.i v = N) : x = .int k N := by
  simp only [AVal] at h
  rw [h, hv]
theorem aval_agg [Rho] {W : World} {l : List AV} {x : Value} (h : AVal W (.agg l) x) : ∃ a : Array Value, x = .agg a ∧ AValL W l a.toList := by simpa only [AVal] using h
end Go.Proofs.Ytmglofemnobakaa
