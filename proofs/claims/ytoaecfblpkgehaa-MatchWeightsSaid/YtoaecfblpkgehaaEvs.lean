/- Calls reckoned beside a call that is known: a function without arguments that returns true and leaves what was there. -/
import Derived.Test.YtoaecfblpkgehaaEvn
namespace Go.Proofs.Ytoaecfblpkgehaa
open Go.RowKit

/-- the call k0 is known: it returns true -/
def known (k0 : Nat) (R : Rec) : Rec :=
  { code := R.code
    call := fun k args h =>
      match Nat.beq k k0 with
      | true => (match args with | [] => some (.pl (.bool true), h) | _ => none)
      | false => R.call k args h }
noncomputable def evT (P : Program) (k0 : Nat) : Nat → Rec
  | 0 => { code := fun _ _ _ _ => none, call := fun _ _ _ => none }
  | .succ n => stepR P (known k0 (evT P k0 n))

section
variable {P : Program} {k0 : Nat}
theorem known_ok (hk : ∀ w, Calls P k0 #[] w fun e w' => e = .returned (.bool true) ∧ Below w.heap.size w w') {R : Rec} (hR : AllOk P R) : AllOk P (known k0 R) where
  code := hR.code
  again := hR.again
  call := fun k args h r h' he V m g xs W n hx hw => by
    simp only [known] at he
    split at he
    · rename_i hb
      obtain rfl := Nat.eq_of_beq_eq_true hb
      split at he
      · cases he
        have hxs : xs = #[] := by
          simp only [RepL] at hx
          exact Array.toList_inj.1 hx
        subst hxs
        refine callsIn_wide.2 ((hk W).mono ?_)
        rintro e w' ⟨rfl, hb⟩
        have quiet : ∀ B, B < W.heap.size → w'.heap[B]? = W.heap[B]? := fun B hB => hb.block B hB
        exact ⟨.bool true, rfl, m, g, Ext.still hb.size hb.os hb.tape hb.output quiet, by simp [Rep], by rw [vx_self rfl]; exact hw.still quiet⟩
      · cases he
    · exact hR.call k args h r h' he V m g xs W n hx hw
theorem evT_all (hm : P.follows .mixedOrders = true) (hk : ∀ w, Calls P k0 #[] w fun e w' => e = .returned (.bool true) ∧ Below w.heap.size w w') : ∀ n, AllOk P (evT P k0 n)
  | 0 => AllOk.mk (RecOk.mk (fun _ _ _ _ _ _ _ he => by cases he) (fun _ _ _ _ _ he => by cases he)) (fun _ _ _ _ _ _ _ he => by cases he)
  | n + 1 => step_all hm (known_ok hk (evT_all hm hk n))
/-- a call that is reckoned beside one that is known -/
theorem closedT (hm : P.follows .mixedOrders = true) (hk : ∀ w, Calls P k0 #[] w fun e w' => e = .returned (.bool true) ∧ Below w.heap.size w w') {N k : Nat} {args : List RV} {xs : List Value} {r : RV} (hx : RV.plainL args = some xs) (he : ∃ h', (evT P k0 N).call k args h0 = some (r, h')) (w : World) :
    Calls P k xs.toArray w fun e w' => (∃ v, e = .returned v ∧ ∀ u, r.plain = some u → v = u) ∧ Below w.heap.size w w' := by
  obtain ⟨h', he⟩ := he
  have := (evT_all hm hk N).call k args h0 r h' he (fun _ => False) (fun _ => 0) (fun _ => 0) xs.toArray w 0 (by simpa using repL_of_plain args xs hx) world_none
  refine (callsIn_wide.1 this).mono ?_
  rintro e w' ⟨v, rfl, m', g', e1, e2, _⟩
  refine ⟨⟨v, rfl, fun u hu => rep_plain _ _ _ hu e2⟩, ⟨e1.os, e1.tape, e1.output, e1.size, fun B hB => e1.frame B hB fun j hj => ?_⟩⟩
  have : j < 0 := hj.1
  omega
end
end Go.Proofs.Ytoaecfblpkgehaa
