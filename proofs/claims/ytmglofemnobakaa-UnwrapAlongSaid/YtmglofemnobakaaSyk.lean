/- Calls that are known by their arguments. -/
import Derived.Test.YtmglofemnobakaaSyr
namespace Go.Proofs.Ytmglofemnobakaa
open Go.RowKit

/-- a call with these arguments gives this -/
def canK (k0 : Nat) (canon : List RV) (res : RV) : Know := fun k args h =>
  match Nat.beq k k0 with
  | true => (match cvL 1000000 0 args canon with | some [] => some (res, h) | _ => none)
  | false => none
theorem canK_ok [ρ : Rho] {P : Program} {k0 : Nat} {canon : List RV} {res : RV}
    (h : ∀ xs W, RepL (fun _ => False) (fun _ => 0) (fun _ => 0) canon xs.toList → Far W → Calls P k0 xs W fun e w' => (∃ v, e = .returned v ∧ Rep (fun _ => False) (fun _ => 0) (fun _ => 0) res v) ∧ Below W.heap.size W w') : KOk P (canK k0 canon res) := fun k args hh r h' he V m g xs W n hx hw => by
  simp only [canK] at he
  split at he
  · rename_i hb
    obtain rfl := Nat.eq_of_beq_eq_true hb
    split at he
    · rename_i hc
      cases he
      have h1 := cvL_ok (V := V) (m := m) (g := g) (Agree.refl 1000000 ρ) _ _ _ _ hc trivial hx
      have h2 : RepL (fun _ => False) (fun _ => 0) (fun _ => 0) canon xs.toList := repL_mono (fun k hk => absurd hk.2 (Nat.not_lt_zero k)) _ _ h1
      refine quiet_call hw ((h xs W h2 hw.far).mono ?_)
      rintro e w' ⟨⟨v, he, hv⟩, hb⟩
      exact ⟨⟨v, he, rep_mono (fun k hk => hk.elim) _ _ hv⟩, hb⟩
    · cases he
  · cases he
/-- a slice of a row that was there before is one in memory -/
theorem fsl_rowR [Rho] {id sz : Nat} {len : Int} {x : Value} {W : World} (h : FSl id sz 0 len x) (hf : Far W) : ∃ A L c, x = .slice A L c ∧ len = (L : Int) ∧ L ≤ c ∧ RowR W A (L * sz) (Rho.a id) := by
  obtain ⟨A, c, L, O, rfl, h1, h2, h3, h4, h5⟩ := h
  have hO : O = 0 := by omega
  subst hO
  refine ⟨A, L, c, rfl, h2, h3, fun hp => ?_⟩
  have hL : 0 < L := by
    rcases Nat.eq_zero_or_pos L with h | h
    · rw [h] at hp; simp at hp
    · exact h
  rw [Nat.zero_add] at h4
  refine ⟨_, _, h5 hL, Nat.lt_of_lt_of_le (hf.low id (by omega)) hf.size, fun j hj => ?_⟩
  rw [Nat.zero_mul, Nat.add_zero]
  exact hf.cell id j (by omega)
/-- a slice of a row of the call's own -/
theorem osl_rowR [Rho] {P : Program} {V : Nat → Prop} {m g : Nat → Nat} {h : RH} {W : World} {b sz : Nat} {ar len : SE} {t : TypeId} {x : Value} (hx : Rep V m g (.osl b sz len) x) (hw : RepW P V m g h W) (hb : h.at? b = some (.row ar len t sz)) :
    ∃ B L c, x = .slice (some ⟨B, 0, none⟩) L c ∧ len.ev.i = (L : Int) ∧ L ≤ c ∧ Rho.fb ≤ B ∧ RowR W (some ⟨B, 0, none⟩) (L * sz) ar.ev.a := by
  simp only [Rep] at hx
  obtain ⟨hv, L, h1, h2, rfl⟩ := hx
  obtain ⟨_, c, K, c1, c2, c3, c4, c5⟩ := hw.live b _ hb
  obtain rfl : K = L := by omega
  refine ⟨m b, K, g b, rfl, h1, h2, hw.low b hv, fun _ => ⟨m b, 0, rfl, (Array.getElem?_eq_some_iff.1 c1).1, fun j hj => ?_⟩⟩
  rw [cell_of_row W (m b) (0 + j) c t (0, 0) c1, Nat.zero_add]
  exact c4 j hj
theorem osl_block [Rho] {P : Program} {V : Nat → Prop} {m g : Nat → Nat} {h : RH} {W : World} {b sz : Nat} {ar len : SE} {t : TypeId} {x : Value} (hx : Rep V m g (.osl b sz len) x) (hw : RepW P V m g h W) (hb : h.at? b = some (.row ar len t sz)) :
    ∃ B L k c, x = .slice (some ⟨B, 0, none⟩) L k ∧ len.ev.i = (L : Int) ∧ L ≤ k ∧ Rho.fb ≤ B ∧ W.heap[B]? = some (.cells c t (0, 0)) ∧ c.size = k * sz ∧ ∀ j : Nat, j < L * sz → c[j]? = some (.int .i64 (ar.ev.a (j : Int))) := by
  simp only [Rep] at hx
  obtain ⟨hv, L, h1, h2, rfl⟩ := hx
  obtain ⟨_, c, K, c1, c2, c3, c4, c5⟩ := hw.live b _ hb
  obtain rfl : K = L := by omega
  exact ⟨m b, K, g b, c, rfl, h1, h2, hw.low b hv, c1, c5, c4⟩
/-- a number in a block of the caller's -/
theorem cell_rowR [Rho] {P : Program} {V : Nat → Prop} {m g : Nat → Nat} {h : RH} {W : World} {b : Nat} {e : SE} {l : List RV} {t : TypeId} {gr : Bool} (hw : RepW P V m g h W) (hb : h.at? b = some (.cells (.si .i64 e :: l) t gr)) : RowR W (some ⟨m b, 0, none⟩) 1 (fun _ => e.ev.i) := fun _ => by
  obtain ⟨_, c, h1, h2, h3, _⟩ := hw.live b _ hb
  refine ⟨m b, 0, rfl, (Array.getElem?_eq_some_iff.1 h1).1, fun j hj => ?_⟩
  obtain rfl : j = 0 := by omega
  obtain ⟨v, vs, e1, e2, _⟩ := repL_cons.1 h3
  simp only [Rep] at e2
  subst e2
  have h0 : c.toList[0]? = some (.int .i64 e.ev.i) := by
    have : (c.toList.take (RV.si .i64 e :: l).length)[0]? = some (.int .i64 e.ev.i) := by rw [e1]; rfl
    rw [List.getElem?_take] at this
    split at this
    · exact this
    · cases this
  rw [cell_of_row W (m b) (0 + 0) c t (0, 0) h1, ← Array.getElem?_toList]
  exact h0
/-- a call that leaves what was there, and returns a row in a block of its own -/
theorem row_call [Rho] {P : Program} {V : Nat → Prop} {m g : Nat → Nat} {h : RH} {W w' : World} {ar rn : SE} {elem : TypeId} {sz N C b : Nat} {c : Array Value} (hw : RepW P V m g h W) (hb : Below W.heap.size W w') (hbl : W.heap.size ≤ b) (hx : w'.heap[b]? = some (.cells c elem (0, 0))) (hn : rn.ev.i = N)
    (hc : ∀ j : Nat, j < N * sz → c[j]? = some (.int .i64 (ar.ev.a (j : Int)))) (hsz : c.size = C * sz) (hNC : N ≤ C) : Good P V m g h W (.osl h.n sz rn) (h.push (.row ar rn elem sz)) (.slice (some ⟨b, 0, none⟩) N C) w' := by
  have hold : ∀ B, B < W.heap.size → w'.heap[B]? = W.heap[B]? := fun B hB => hb.block B hB
  have hk : ∀ k, V k → VX V h (h.push (.row ar rn elem sz)) k ∧ (fun k => if k = h.n then b else m k) k = m k ∧ (fun k => if k = h.n then C else g k) k = g k := fun k hk => ⟨.inl hk, by have := hw.lt k hk; simp [show k ≠ h.n by omega]⟩
  refine ⟨fun k => if k = h.n then b else m k, fun k => if k = h.n then C else g k, ⟨by rw [push_n]; omega, rfl, fun _ h => h, fun _ h => .inl h, fun k hk => by simp [show k ≠ h.n by omega], fun k h1 h2 => .inr (by rw [push_n] at h2; simp only [show k = h.n by omega, if_true]; exact hbl), fun k hk e => by rw [push_at_old hw.sound _ hk]; exact e, fun k hk _ _ => push_at_old hw.sound _ hk, hb.size, hb.os, hb.tape, hb.output, fun B hB _ => hold B hB⟩, ?_, ⟨push_sound hw.sound _, fun k o' hk' => ?_, fun k1 k2 o1 o2 e1 e2 e => ?_, fun k hk => ?_, hw.far.keep (fun B hB => hold B (Nat.lt_of_lt_of_le hB hw.far.size)) hb.size, fun k hk => ?_⟩⟩
  · simp only [Rep]
    exact ⟨.inr ⟨Nat.le_refl _, by rw [push_n]; omega⟩, N, hn, by simpa using hNC, by simp⟩
  · have hlt := at_some_lt hk'
    rw [push_n] at hlt
    by_cases hkn : k = h.n
    · subst hkn
      rw [push_at_new hw.sound] at hk'
      cases hk'
      refine ⟨.inr ⟨Nat.le_refl _, by rw [push_n]; omega⟩, c, N, by simpa using hx, hn, by rw [hsz]; exact Nat.mul_le_mul_right _ hNC, hc, by simpa using hsz⟩
    · rw [push_at_old hw.sound _ (by omega)] at hk'
      obtain ⟨x1, x2⟩ := hw.live k o' hk'
      exact ⟨.inl x1, x2.mono hk x1 (hold _ x2.lt)⟩
  · have l1 := at_some_lt e1
    have l2 := at_some_lt e2
    rw [push_n] at l1 l2
    by_cases a1 : k1 = h.n
    · by_cases a2 : k2 = h.n
      · rw [a1, a2]
      · rw [push_at_old hw.sound _ (by omega)] at e2
        have := (hw.live k2 o2 e2).2.lt
        simp only [a1, if_true, a2, if_false] at e
        omega
    · by_cases a2 : k2 = h.n
      · rw [push_at_old hw.sound _ (by omega)] at e1
        have := (hw.live k1 o1 e1).2.lt
        simp only [a1, if_false, a2, if_true] at e
        omega
      · rw [push_at_old hw.sound _ (by omega)] at e1 e2
        simp only [a1, a2, if_false] at e
        exact hw.inj k1 k2 o1 o2 e1 e2 e
  · rcases hk with hk | hk
    · have := hw.lt k hk
      rw [push_n]; omega
    · exact hk.2
  · rcases hk with hk | hk
    · have := hw.lt k hk
      have := hw.low k hk
      simp only [show k ≠ h.n by omega, if_false]
      omega
    · have := hk.1
      have := hk.2
      rw [push_n] at this
      simp only [show k = h.n by omega, if_true]
      exact Nat.le_trans hw.far.size hbl
end Go.Proofs.Ytmglofemnobakaa
