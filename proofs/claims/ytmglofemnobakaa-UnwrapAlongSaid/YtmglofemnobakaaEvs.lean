/- Calls reckoned beside calls that are known: a function that leaves what was there, and what it returns. -/
import Derived.Test.YtmglofemnobakaaEvn
import Derived.Lib.Join
namespace Go.Proofs.Ytmglofemnobakaa
open Go.RowKit

/-- what is known of calls: what the function returns, and the blocks that are there then -/
abbrev Know := Nat → List RV → RH → Option (RV × RH)
def KOk [Rho] (P : Program) (K : Know) : Prop := ∀ k args h r h', K k args h = some (r, h') → ∀ (V : Nat → Prop) (m g : Nat → Nat) (xs : Array Value) (W : World) (n : Nat), RepL V m g args xs.toList → RepW P V m g h W →
  CallsIn Fence.wide n P k xs W (fun e W' => ∃ v, e = .returned v ∧ Good P V m g h W r h' v W')
/-- a call that leaves what was there, and of whose own memory nothing is known -/
theorem quiet_call [Rho] {P : Program} {k : Nat} {xs : Array Value} {V : Nat → Prop} {m g : Nat → Nat} {h : RH} {W : World} {r : RV} {n : Nat} (hw : RepW P V m g h W)
    (hc : Calls P k xs W fun e w' => (∃ v, e = .returned v ∧ Rep V m g r v) ∧ Below W.heap.size W w') : CallsIn Fence.wide n P k xs W (fun e W' => ∃ v, e = .returned v ∧ Good P V m g h W r h v W') := by
  refine callsIn_wide.2 (hc.mono ?_)
  rintro e w' ⟨⟨v, rfl, hv⟩, hb⟩
  have quiet : ∀ B, B < W.heap.size → w'.heap[B]? = W.heap[B]? := fun B hB => hb.block B hB
  exact ⟨v, rfl, m, g, Ext.still hb.size hb.os hb.tape hb.output quiet, by rw [vx_self rfl]; exact hv, by rw [vx_self rfl]; exact hw.still quiet⟩
def withK (K : Know) (R : Rec) : Rec :=
  { code := R.code
    call := fun k args h =>
      match K k args h with
      | some r => some r
      | none => R.call k args h
    dec := R.dec }
noncomputable def evKD (P : Program) (K : Know) (D : SE → Option Bool) : Nat → Rec
  | 0 => { code := fun _ _ _ _ => none, call := fun _ _ _ => none, dec := D }
  | .succ n => stepR P (withK K (evKD P K D n))
noncomputable def evK (P : Program) (K : Know) (n : Nat) : Rec := evKD P K noD n
/-- either -/
def orK (K L : Know) : Know := fun k args h => match K k args h with | some r => some r | none => L k args h
/-- a function without arguments that returns true -/
def trueK (k0 : Nat) : Know := fun k args h =>
  match Nat.beq k k0 with
  | true => (match args with | [] => some (.pl (.bool true), h) | _ => none)
  | false => none
/-- strings.Join -/
def strsD : Nat → List RV → Option (List ByteArray)
  | 0, _ => some []
  | .succ n, .pl (.string s) :: rest => (match strsD n rest with | some l => some (s :: l) | none => none)
  | _, _ => none
def joinD (xs : List ByteArray) (sep : ByteArray) : List UInt8 := Lib.join (xs.map (·.data.toList)) sep.data.toList
def capD (len : Nat) : Option Nat → Bool
  | some c => Nat.ble len c
  | none => true
def joinV (len : Nat) (c : Option Nat) (xs : List ByteArray) (sep : ByteArray) : Option RV :=
  match capD len c && Nat.ble len 1000000 && Nat.ble (joinD xs sep).length 1000000 with
  | true => some (.pl (.string ⟨(joinD xs sep).toArray⟩))
  | false => none
def joinK (kj : Nat) : Know := fun k args h =>
  match Nat.beq k kj with
  | true =>
    match args with
    | [.slc b off len c, .pl (.string sep)] =>
      match h.at? b with
      | some (.cells l _ _) => (match strsD len (l.drop off) with | some xs => (joinV len c xs sep).map fun r => (r, h) | none => none)
      | _ => none
    | _ => none
  | false => none

section
variable {P : Program} {k0 : Nat} {K L : Know}
theorem known_ok [Rho] (hk : KOk P K) {R : Rec} (hR : AllOk P R) : AllOk P (withK K R) where
  code := hR.code
  again := hR.again
  dec := hR.dec
  call := fun k args h r h' he V m g xs W n hx hw => by
    simp only [withK] at he
    split at he
    · rename_i r1 hr
      cases he
      exact hk k args h r h' hr V m g xs W n hx hw
    · exact hR.call k args h r h' he V m g xs W n hx hw
theorem evKD_all [Rho] (hm : P.follows .mixedOrders = true) (hk : KOk P K) {D : SE → Option Bool} (hD : DOk D) : ∀ n, AllOk P (evKD P K D n)
  | 0 => AllOk.mk (RecOk.mk (fun _ _ _ _ _ _ _ he => by cases he) (fun _ _ _ _ _ he => by cases he) hD) (fun _ _ _ _ _ _ _ he => by cases he)
  | n + 1 => step_all hm (known_ok hk (evKD_all hm hk hD n))
theorem evK_all [Rho] (hm : P.follows .mixedOrders = true) (hk : KOk P K) (n : Nat) : AllOk P (evK P K n) := evKD_all hm hk noD_ok n
theorem orK_ok [Rho] (h1 : KOk P K) (h2 : KOk P L) : KOk P (orK K L) := fun k args h r h' he => by
  simp only [orK] at he
  split at he
  · rename_i hr
    cases he
    exact h1 k args h _ _ hr
  · exact h2 k args h r h' he
theorem trueK_ok [Rho] (hk : ∀ w, Calls P k0 #[] w fun e w' => e = .returned (.bool true) ∧ Below w.heap.size w w') : KOk P (trueK k0) := fun k args h r h' he V m g xs W n hx hw => by
  simp only [trueK] at he
  split at he
  · rename_i hb
    obtain rfl := Nat.eq_of_beq_eq_true hb
    split at he
    · cases he
      have hxs : xs = #[] := by
        simp only [RepL] at hx
        exact Array.toList_inj.1 hx
      subst hxs
      exact quiet_call hw ((hk W).mono fun e w' ⟨he, hb⟩ => ⟨⟨_, he, by simp [Rep]⟩, hb⟩)
    · cases he
  · cases he
theorem strsD_ok : ∀ {n : Nat} {l : List RV} {xs : List ByteArray}, strsD n l = some xs → xs.length = n ∧ ∀ (j : Nat) x, xs[j]? = some x → l[j]? = some (.pl (.string x))
  | 0, l, xs, h => by
    simp only [strsD, Option.some.injEq] at h
    subst h
    exact ⟨rfl, fun j x hj => by simp at hj⟩
  | n + 1, l, xs, h => by
    unfold strsD at h
    split at h
    · omega
    · split at h
      · rename_i l' hl
        cases h
        obtain ⟨a, b⟩ := strsD_ok hl
        refine ⟨by simp [a]; omega, fun j x hj => ?_⟩
        cases j with
        | zero => simpa using hj
        | succ j => simpa using b j x (by simpa using hj)
      · cases h
    · cases h
theorem joinK_ok [Rho] {kj : Nat} (hj : ∀ (bk o c : Nat) (xs : List ByteArray) (sep : ByteArray) (w : World), (∀ (j : Nat) x, xs[j]? = some x → w.cell? ⟨bk, o + j, none⟩ = some (.string x)) → bk < w.heap.size → xs.length ≤ 140737488355328 → xs.length ≤ c →
      (joinD xs sep).length ≤ 140737488355328 → Calls P kj #[.slice (some ⟨bk, o, none⟩) xs.length c, .string sep] w fun e w' => e = .returned (.string ⟨(joinD xs sep).toArray⟩) ∧ Below w.heap.size w w') : KOk P (joinK kj) := fun k args h r h' he V m g xs W n hx hw => by
  simp only [joinK] at he
  split at he
  · rename_i hb
    obtain rfl := Nat.eq_of_beq_eq_true hb
    split at he
    · rename_i b off len c sep
      split at he
      · rename_i l t gr hat
        split at he
        · rename_i ss hs
          unfold joinV at he
          split at he
          · rename_i hc
            cases he
            simp only [Bool.and_eq_true] at hc
            obtain ⟨⟨c1, c2⟩, c3⟩ := hc
            have c2 := Nat.le_of_ble_eq_true c2
            have c3 := Nat.le_of_ble_eq_true c3
            obtain ⟨s1, s2⟩ := strsD_ok hs
            obtain ⟨_, cs, q1, q2, q3, _⟩ := hw.live b _ hat
            obtain ⟨v0, vs0, e0, r0, hx⟩ := hx
            obtain ⟨v1, vs1, rfl, r1, hx⟩ := hx
            simp only [RepL] at hx
            subst hx
            simp only [Rep] at r1
            subst r1
            obtain rfl : xs = #[v0, .string sep] := by cases xs; simp_all
            have hcap : ∃ cc, v0 = .slice (some ⟨m b, off, none⟩) len cc ∧ len ≤ cc := by
              cases c with
              | some c => simp only [Rep] at r0; exact ⟨c, r0.2, Nat.le_of_ble_eq_true c1⟩
              | none => simp only [Rep] at r0; exact ⟨_, r0.2.2, r0.2.1⟩
            obtain ⟨cc, rfl, hcc⟩ := hcap
            have hlt := (Array.getElem?_eq_some_iff.1 q1).1
            have := hj (m b) off cc ss sep W (fun j x hjx => by
              have h1 := s2 j x hjx
              rw [List.getElem?_drop] at h1
              obtain ⟨v, h2, h3⟩ := repL_get q3 h1
              simp only [Rep] at h3
              subst h3
              rw [cell_of_row W (m b) (off + j) cs t (0, 0) q1, ← Array.getElem?_toList]
              rw [List.getElem?_take] at h2
              split at h2
              · exact h2
              · cases h2) hlt (by omega) (by omega) (by omega)
            rw [s1] at this
            exact quiet_call hw (this.mono fun e w' ⟨he, hb⟩ => ⟨⟨_, he, by simp [Rep]⟩, hb⟩)
          · cases he
        · cases he
      · cases he
    · cases he
  · cases he

/-- a call that is reckoned beside those that are known -/
theorem closedK (hm : P.follows .mixedOrders = true) (hk : @KOk rho0 P K) {N k : Nat} {args : List RV} {xs : List Value} {r : RV} (hx : RV.plainL args = some xs) (he : ∃ h', (evK P K N).call k args h0 = some (r, h')) (w : World) :
    Calls P k xs.toArray w fun e w' => (∃ v, e = .returned v ∧ ∀ u, r.plain = some u → v = u) ∧ Below w.heap.size w w' := by
  obtain ⟨h', he⟩ := he
  letI := rho0
  have := (evK_all hm hk N).call k args h0 r h' he (fun _ => False) (fun _ => 0) (fun _ => 0) xs.toArray w 0 (by simpa using repL_of_plain args xs hx) (world_none (far0 w))
  refine (callsIn_wide.1 this).mono ?_
  rintro e w' ⟨v, rfl, m', g', e1, e2, _⟩
  refine ⟨⟨v, rfl, fun u hu => rep_plain _ _ _ hu e2⟩, ⟨e1.os, e1.tape, e1.output, e1.size, fun B hB => e1.frame B hB fun j hj => ?_⟩⟩
  have : j < 0 := hj.1
  omega
end
end Go.Proofs.Ytmglofemnobakaa
