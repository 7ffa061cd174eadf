/- Calls reckoned: worlds and steps between them. -/
import Derived.Test.YtmglofemnobakaaEvb
namespace Go.Proofs.Ytmglofemnobakaa
open Go.RowKit

/-! blocks by their numbers -/
def RH.Sound (h : RH) : Prop := h.bl.length = h.n
theorem blt_true {a b : Nat} (h : a < b) : Nat.blt a b = true := by simpa [Nat.blt_eq] using h
theorem blt_false {a b : Nat} (h : ¬ a < b) : Nat.blt a b = false := by
  cases hb : Nat.blt a b with
  | false => rfl
  | true => exact absurd (by simpa [Nat.blt_eq] using hb) h
theorem at_lt {h : RH} {b : Nat} (hb : b < h.n) : h.at? b = (h.bl[h.n - 1 - b]?).join := by simp only [RH.at?, blt_true hb]
theorem at_ge {h : RH} {b : Nat} (hb : ¬ b < h.n) : h.at? b = none := by simp only [RH.at?, blt_false hb]
theorem at_some_lt {h : RH} {b : Nat} {o : RO} (hb : h.at? b = some o) : b < h.n := by
  by_cases hlt : b < h.n
  · exact hlt
  · rw [at_ge hlt] at hb; cases hb
theorem push_n (h : RH) (o : RO) : (h.push o).n = h.n + 1 := rfl
theorem push_sound {h : RH} (hs : h.Sound) (o : RO) : (h.push o).Sound := by unfold RH.Sound RH.push at *; simp [hs]
theorem push_at_new {h : RH} (_hs : h.Sound) (o : RO) : (h.push o).at? h.n = some o := by
  rw [at_lt (by rw [push_n]; omega)]
  simp [RH.push]
theorem push_at_old {h : RH} (_hs : h.Sound) (o : RO) {k : Nat} (hk : k < h.n) : (h.push o).at? k = h.at? k := by
  rw [at_lt (by rw [push_n]; omega), at_lt hk, push_n]
  have : h.n + 1 - 1 - k = (h.n - 1 - k) + 1 := by omega
  rw [this]
  simp [RH.push]
theorem put_n (h : RH) (b : Nat) (o : Option RO) : (h.put b o).n = h.n := rfl
theorem put_sound {h : RH} (hs : h.Sound) (b : Nat) (o : Option RO) : (h.put b o).Sound := by unfold RH.Sound RH.put at *; simp [hs]
theorem put_at_same {h : RH} (hs : h.Sound) {b : Nat} (hb : b < h.n) (o : Option RO) : (h.put b o).at? b = o := by
  rw [at_lt (by rw [put_n]; exact hb), put_n]
  have : h.n - 1 - b < h.bl.length := by rw [hs]; omega
  simp [RH.put, this]
theorem put_at_other {h : RH} {b k : Nat} (hb : b < h.n) (hk : k ≠ b) (o : Option RO) : (h.put b o).at? k = h.at? k := by
  by_cases hlt : k < h.n
  · rw [at_lt (by rw [put_n]; exact hlt), at_lt hlt, put_n]
    have : h.n - 1 - b ≠ h.n - 1 - k := by omega
    simp [RH.put, this]
  · rw [at_ge (by rw [put_n]; exact hlt), at_ge hlt]
theorem mem_mark {base b k : Nat} {ch : List Nat} : k ∈ mark base b ch ↔ k ∈ ch ∨ (k = b ∧ b < base) := by
  unfold mark
  by_cases hb : b < base
  · rw [blt_true hb]
    cases hm : memN b ch with
    | true =>
      have := memN_iff.1 hm
      simp only
      constructor
      · exact fun h => .inl h
      · rintro (h | ⟨rfl, _⟩)
        · exact h
        · exact this
    | false => simp only [List.mem_cons]; constructor <;> (rintro (h | h) <;> simp_all)
  · rw [blt_false hb]
    simp only
    constructor
    · exact fun h => .inl h
    · rintro (h | ⟨_, h⟩)
      · exact h
      · exact absurd h hb

/-- a block of the world is as it is known -/
def ROk [Rho] (P : Program) (V : Nat → Prop) (m g : Nat → Nat) (k : Nat) (o : RO) (w : World) : Prop :=
  match o with
  | .cells l t gr => ∃ c : Array Value, w.heap[m k]? = some (.cells c t (0, 0)) ∧ l.length ≤ c.size ∧ RepL V m g l (c.toList.take l.length) ∧ (gr = true → ∃ size, sizeD P t = some size ∧ c.size = g k * size)
  | .loop st pe t sz ps s b d => ∃ (fn : FuncId) (tm : Array Value), w.heap[m k]? = some (.loop { state := st, pending := pe, fn := fn, tmps := tm, params := ps, assign := s, body := b, defers := m d }) ∧ RepT V m g t sz tm ∧ V d
  | .defd false => w.heap[m k]? = some (.deferred (some []))
  | .defd true => w.heap[m k]? = some (.deferred none)
  | .row ar rn t sz => ∃ (c : Array Value) (N : Nat), w.heap[m k]? = some (.cells c t (0, 0)) ∧ rn.ev.i = N ∧ N * sz ≤ c.size ∧ (∀ j : Nat, j < N * sz → c[j]? = some (.int .i64 (ar.ev.a (j : Int)))) ∧ c.size = g k * sz
  | .mpo es clock => w.heap[m k]? = some (.map es.toArray clock)

/-- the rows that were there before -/
structure Far [Rho] (w : World) : Prop where
  size : Rho.fb ≤ w.heap.size
  low : ∀ id, 0 < Rho.fn id → (Rho.fo id).1 < Rho.fb
  cell : ∀ id j, j < Rho.fn id → w.cell? ⟨(Rho.fo id).1, (Rho.fo id).2 + j, none⟩ = some (.int .i64 (Rho.a id j))
theorem cell_eq {w w' : World} {b i : Nat} (h : w'.heap[b]? = w.heap[b]?) : w'.cell? ⟨b, i, none⟩ = w.cell? ⟨b, i, none⟩ := by
  simp only [World.cell?, h]
theorem size_of {w w' : World} (hb : ∀ B, B < w.heap.size → w'.heap[B]? = w.heap[B]?) : w.heap.size ≤ w'.heap.size := by
  rcases Nat.eq_zero_or_pos w.heap.size with h | h
  · omega
  · have := hb (w.heap.size - 1) (by omega)
    rw [Array.getElem?_eq_getElem (by omega : w.heap.size - 1 < w.heap.size)] at this
    have := (Array.getElem?_eq_some_iff.1 this).1
    omega
theorem Far.keep [Rho] {w w' : World} (h : Far w) (hb : ∀ B, B < Rho.fb → w'.heap[B]? = w.heap[B]?) (hs : w.heap.size ≤ w'.heap.size) : Far w' :=
  ⟨Nat.le_trans h.size hs, h.low, fun id j hj => (cell_eq (hb _ (h.low id (by omega)))).trans (h.cell id j hj)⟩

structure RepW [Rho] (P : Program) (V : Nat → Prop) (m g : Nat → Nat) (h : RH) (w : World) : Prop where
  sound : h.Sound
  live : ∀ k o, h.at? k = some o → V k ∧ ROk P V m g k o w
  inj : ∀ k1 k2 o1 o2, h.at? k1 = some o1 → h.at? k2 = some o2 → m k1 = m k2 → k1 = k2
  lt : ∀ k, V k → k < h.n
  far : Far w
  low : ∀ k, V k → Rho.fb ≤ m k

def VX (V : Nat → Prop) (h h' : RH) : Nat → Prop := fun k => V k ∨ (h.n ≤ k ∧ k < h'.n)
/-- block j may have been written to between h and h' -/
def Touch (h h' : RH) (j : Nat) : Prop := j < h.n ∧ (j ∈ h'.ch ∨ h.base ≤ j) ∧ h.at? j ≠ none

structure Ext (m g : Nat → Nat) (h : RH) (w : World) (m' g' : Nat → Nat) (h' : RH) (w' : World) : Prop where
  n_le : h.n ≤ h'.n
  base : h'.base = h.base
  ch : ∀ k, k ∈ h.ch → k ∈ h'.ch
  chb : ∀ k, k ∈ h'.ch → k ∈ h.ch ∨ k < h.base
  old : ∀ k, k < h.n → m' k = m k ∧ g' k = g k
  new : ∀ k, h.n ≤ k → k < h'.n → (∃ j, Touch h h' j ∧ m' k = m j) ∨ w.heap.size ≤ m' k
  dead : ∀ k, k < h.n → h.at? k = none → h'.at? k = none
  rel : ∀ k, k < h.n → k < h.base → k ∉ h'.ch → h'.at? k = h.at? k
  size : w.heap.size ≤ w'.heap.size
  os : w'.os = w.os
  tape : w'.tape = w.tape
  output : w'.output = w.output
  frame : ∀ B, B < w.heap.size → (∀ j, Touch h h' j → m j ≠ B) → w'.heap[B]? = w.heap[B]?

section
variable [Rho] {P : Program} {V V' : Nat → Prop} {m g m' g' m1 g1 m2 g2 : Nat → Nat} {h h' h1 h2 : RH} {w w' w1 w2 : World}
theorem ROk.lt {k : Nat} {o : RO} (ho : ROk P V m g k o w) : m k < w.heap.size := by
  have : ∃ x, w.heap[m k]? = some x := by
    cases o with
    | cells l t gr => obtain ⟨c, h, _⟩ := ho; exact ⟨_, h⟩
    | loop st pe t sz ps s b d => obtain ⟨_, _, h, _⟩ := ho; exact ⟨_, h⟩
    | defd b => cases b <;> exact ⟨_, ho⟩
    | row ar rn t sz => obtain ⟨c, _, h, _⟩ := ho; exact ⟨_, h⟩
    | mpo es c => exact ⟨_, ho⟩
  obtain ⟨x, hx⟩ := this
  exact (Array.getElem?_eq_some_iff.1 hx).1
theorem ROk.mono {k : Nat} {o : RO} (ho : ROk P V m g k o w) (h : ∀ k, V k → V' k ∧ m' k = m k ∧ g' k = g k) (hk : V k) (hw : w'.heap[m k]? = w.heap[m k]?) : ROk P V' m' g' k o w' := by
  obtain ⟨h1, h2, h3⟩ := h k hk
  cases o with
  | cells l t gr =>
    obtain ⟨c, a1, a2, a3, a4⟩ := ho
    exact ⟨c, by rw [h2, hw]; exact a1, a2, repL_mono h _ _ a3, fun e => by rw [h3]; exact a4 e⟩
  | loop st pe t sz ps s b d =>
    obtain ⟨fn, tm, a1, a2, a3⟩ := ho
    exact ⟨fn, tm, by rw [h2, hw, (h d a3).2.1]; exact a1, repT_mono h a2, (h d a3).1⟩
  | defd b =>
    cases b
    · show w'.heap[m' k]? = _
      rw [h2, hw]; exact ho
    · show w'.heap[m' k]? = _
      rw [h2, hw]; exact ho
  | row ar rn t sz =>
    obtain ⟨c, N, a1, a2, a3, a4, a5⟩ := ho
    exact ⟨c, N, by rw [h2, hw]; exact a1, a2, a3, a4, by rw [h3]; exact a5⟩
  | mpo es c =>
    show w'.heap[m' k]? = _
    rw [h2, hw]; exact ho

end
section
variable {P : Program} {V V' : Nat → Prop} {m g m' g' m1 g1 m2 g2 : Nat → Nat} {h h' h1 h2 : RH} {w w' w1 w2 : World}
theorem Ext.agree (he : Ext m g h w m' g' h' w') (hl : ∀ k, V k → k < h.n) : ∀ k, V k → VX V h h' k ∧ m' k = m k ∧ g' k = g k :=
  fun k hk => ⟨.inl hk, he.old k (hl k hk)⟩
theorem vx_self (hl : h'.n = h.n) : VX V h h' = V := by
  funext k
  apply propext
  unfold VX
  constructor
  · rintro (hk | hk)
    · exact hk
    · omega
  · exact fun hk => .inl hk
theorem vx_trans (a : h.n ≤ h1.n) (b : h1.n ≤ h2.n) : VX (VX V h h1) h1 h2 = VX V h h2 := by
  funext k
  apply propext
  unfold VX
  constructor
  · rintro ((hk | hk) | hk)
    · exact .inl hk
    · exact .inr (by omega)
    · exact .inr (by omega)
  · rintro (hk | hk)
    · exact .inl (.inl hk)
    · by_cases hlt : k < h1.n
      · exact .inl (.inr ⟨hk.1, hlt⟩)
      · exact .inr ⟨by omega, hk.2⟩

/-- a step that leaves all blocks as they are -/
theorem Ext.still (hs : w.heap.size ≤ w'.heap.size) (ho : w'.os = w.os) (ht : w'.tape = w.tape) (hp : w'.output = w.output) (hb : ∀ B, B < w.heap.size → w'.heap[B]? = w.heap[B]?) : Ext m g h w m g h w' :=
  ⟨Nat.le_refl _, rfl, fun _ hk => hk, fun _ hk => .inl hk, fun _ _ => ⟨rfl, rfl⟩, fun k a b => by omega, fun _ _ hk => hk, fun _ _ _ _ => rfl, hs, ho, ht, hp, fun B hB _ => hb B hB⟩
theorem Ext.refl : Ext m g h w m g h w := Ext.still (Nat.le_refl _) rfl rfl rfl (fun _ _ => rfl)

theorem Ext.trans (a : Ext m g h w m1 g1 h1 w1) (b : Ext m1 g1 h1 w1 m2 g2 h2 w2) : Ext m g h w m2 g2 h2 w2 := by
  have tt : ∀ j, Touch h1 h2 j → (j < h.n → Touch h h2 j) := fun j ⟨t1, t2, t3⟩ hj => ⟨hj, by rw [← a.base]; exact t2, fun e => t3 (a.dead j hj e)⟩
  have up : ∀ j, Touch h h1 j → Touch h h2 j := fun j ⟨t1, t2, t3⟩ => ⟨t1, t2.imp (b.ch j) id, t3⟩
  have back : ∀ j, Touch h1 h2 j → (∃ i, Touch h h2 i ∧ m1 j = m i) ∨ w.heap.size ≤ m1 j := fun j hj => by
    by_cases hlt : j < h.n
    · exact .inl ⟨j, tt j hj hlt, (a.old j hlt).1⟩
    · rcases a.new j (by omega) hj.1 with ⟨i, hi, e⟩ | e
      · exact .inl ⟨i, up i hi, e⟩
      · exact .inr e
  refine ⟨Nat.le_trans a.n_le b.n_le, b.base.trans a.base, fun k hk => b.ch k (a.ch k hk), fun k hk => (b.chb k hk).elim (fun e => a.chb k e) (fun e => .inr (by rw [← a.base]; exact e)), fun k hk => ?_, fun k h1' h2' => ?_, fun k hk e => b.dead k (Nat.lt_of_lt_of_le hk a.n_le) (a.dead k hk e), fun k hk hb hc => ?_, Nat.le_trans a.size b.size, b.os.trans a.os, b.tape.trans a.tape, b.output.trans a.output, fun B hB hf => ?_⟩
  · have e1 := a.old k hk
    have e2 := b.old k (Nat.lt_of_lt_of_le hk a.n_le)
    exact ⟨e2.1.trans e1.1, e2.2.trans e1.2⟩
  · by_cases hlt : k < h1.n
    · rw [(b.old k hlt).1]
      rcases a.new k h1' hlt with ⟨j, hj, e⟩ | e
      · exact .inl ⟨j, up j hj, e⟩
      · exact .inr e
    · rcases b.new k (by omega) h2' with ⟨j, hj, e⟩ | e
      · rw [e]; exact back j hj
      · exact .inr (Nat.le_trans a.size e)
  · exact (b.rel k (Nat.lt_of_lt_of_le hk a.n_le) (by rw [a.base]; exact hb) hc).trans (a.rel k hk hb (fun e => hc (b.ch k e)))
  · rw [b.frame B (Nat.lt_of_lt_of_le hB a.size) ?_, a.frame B hB (fun j hj => hf j (up j hj))]
    intro j hj e
    rcases back j hj with ⟨i, hi, e2⟩ | e2
    · exact hf i hi (by rw [← e2, e])
    · omega

end
section
variable [Rho] {P : Program} {V V' : Nat → Prop} {m g m' g' m1 g1 m2 g2 : Nat → Nat} {h h' h1 h2 : RH} {w w' w1 w2 : World}
/-- what is known of a world is known of one whose old blocks are the same -/
theorem RepW.still (hw : RepW P V m g h w) (hb : ∀ B, B < w.heap.size → w'.heap[B]? = w.heap[B]?) : RepW P V m g h w' :=
  ⟨hw.sound, fun k o hk => by
    obtain ⟨a, b⟩ := hw.live k o hk
    exact ⟨a, b.mono (fun _ h => ⟨h, rfl, rfl⟩) a (hb _ b.lt)⟩, hw.inj, hw.lt, hw.far.keep (fun B hB => hb B (Nat.lt_of_lt_of_le hB hw.far.size)) (size_of hb), hw.low⟩

/-- a new block -/
theorem push_step (hw : RepW P V m g h w) (o : RO) (γ : Nat) {x : Obj} (hx : w'.heap = w.heap.push x) (ho : w'.os = w.os) (ht : w'.tape = w.tape) (hp : w'.output = w.output)
    (hk : ROk P (VX V h (h.push o)) (fun k => if k = h.n then w.heap.size else m k) (fun k => if k = h.n then γ else g k) h.n o w') :
    Ext m g h w (fun k => if k = h.n then w.heap.size else m k) (fun k => if k = h.n then γ else g k) (h.push o) w' ∧
    RepW P (VX V h (h.push o)) (fun k => if k = h.n then w.heap.size else m k) (fun k => if k = h.n then γ else g k) (h.push o) w' := by
  have hold : ∀ B, B < w.heap.size → w'.heap[B]? = w.heap[B]? := fun B hB => by rw [hx, Array.getElem?_push, if_neg (by omega)]
  have hsz : w.heap.size ≤ w'.heap.size := by rw [hx]; simp
  refine ⟨⟨by rw [push_n]; omega, rfl, fun _ h => h, fun _ h => .inl h, fun k hk => by simp [show k ≠ h.n by omega], fun k h1 h2 => .inr (by rw [push_n] at h2; simp [show k = h.n by omega]), fun k hk e => by rw [push_at_old hw.sound _ hk]; exact e, fun k hk _ _ => push_at_old hw.sound _ hk, hsz, ho, ht, hp, fun B hB _ => hold B hB⟩, ⟨push_sound hw.sound _, fun k o' hk' => ?_, fun k1 k2 o1 o2 e1 e2 e => ?_, fun k hk => ?_, hw.far.keep (fun B hB => hold B (Nat.lt_of_lt_of_le hB hw.far.size)) hsz, fun k hk => ?_⟩⟩
  · have hlt := at_some_lt hk'
    rw [push_n] at hlt
    by_cases hkn : k = h.n
    · subst hkn
      rw [push_at_new hw.sound] at hk'
      cases hk'
      exact ⟨.inr ⟨Nat.le_refl _, by rw [push_n]; omega⟩, hk⟩
    · rw [push_at_old hw.sound _ (by omega)] at hk'
      obtain ⟨a, b⟩ := hw.live k o' hk'
      exact ⟨.inl a, b.mono (fun k hk => ⟨.inl hk, by have := hw.lt k hk; simp [show k ≠ h.n by omega]⟩) a (hold _ b.lt)⟩
  · have l1 := at_some_lt e1
    have l2 := at_some_lt e2
    rw [push_n] at l1 l2
    by_cases a1 : k1 = h.n
    · by_cases a2 : k2 = h.n
      · rw [a1, a2]
      · rw [push_at_old hw.sound _ (by omega)] at e2
        have := (hw.live k2 o2 e2).2.lt
        simp only [a1, if_true, a2, if_false] at e
        omega
    · by_cases a2 : k2 = h.n
      · rw [push_at_old hw.sound _ (by omega)] at e1
        have := (hw.live k1 o1 e1).2.lt
        simp only [a1, if_false, a2, if_true] at e
        omega
      · rw [push_at_old hw.sound _ (by omega)] at e1 e2
        simp only [a1, a2, if_false] at e
        exact hw.inj k1 k2 o1 o2 e1 e2 e
  · rcases hk with hk | hk
    · have := hw.lt k hk
      rw [push_n]; omega
    · exact hk.2
  · rcases hk with hk | hk
    · have := hw.lt k hk
      have := hw.low k hk
      simp only [show k ≠ h.n by omega, if_false]
      omega
    · have := hk.1
      have := hk.2
      rw [push_n] at this
      simp only [show k = h.n by omega, if_true]
      exact hw.far.size

/-- a block that is written to -/
theorem put_step (hw : RepW P V m g h w) {b : Nat} {o : RO} (hb : h.at? b = some o) (o' : RO) (hx : ∀ B, B ≠ m b → w'.heap[B]? = w.heap[B]?) (hs : w'.heap.size = w.heap.size) (ho : w'.os = w.os) (ht : w'.tape = w.tape) (hp : w'.output = w.output)
    (hk : ROk P V m g b o' w') : Ext m g h w m g (h.put b (some o')) w' ∧ RepW P V m g (h.put b (some o')) w' := by
  have hlt := at_some_lt hb
  have touched : Touch h (h.put b (some o')) b := by
    refine ⟨hlt, ?_, by rw [hb]; simp⟩
    by_cases hbb : b < h.base
    · exact .inl (mem_mark.2 (.inr ⟨rfl, hbb⟩))
    · exact .inr (by omega)
  refine ⟨⟨Nat.le_refl _, rfl, fun k hk => mem_mark.2 (.inl hk), fun k hk => (mem_mark.1 hk).imp id (fun e => by rw [e.1]; exact e.2), fun _ _ => ⟨rfl, rfl⟩, fun k h1 h2 => by rw [put_n] at h2; omega, fun k hk' e => ?_, fun k hk' hkb hkc => ?_, by omega, ho, ht, hp, fun B hB hf => hx B (fun e => hf b touched e.symm)⟩, ⟨put_sound hw.sound _ _, fun k o1 hk' => ?_, fun k1 k2 o1 o2 e1 e2 e => ?_, fun k hk => hw.lt k hk, hw.far.keep (fun B hB => hx B (fun e => by have := hw.low b (hw.live b o hb).1; omega)) (by omega), hw.low⟩⟩
  · by_cases hkb : k = b
    · subst hkb; rw [hb] at e; cases e
    · rw [put_at_other hlt hkb]; exact e
  · refine put_at_other hlt (fun e => hkc ?_) _
    subst e
    exact mem_mark.2 (.inr ⟨rfl, hkb⟩)
  · by_cases hkb : k = b
    · subst hkb
      rw [put_at_same hw.sound hlt] at hk'
      cases hk'
      exact ⟨(hw.live k o hb).1, hk⟩
    · rw [put_at_other hlt hkb] at hk'
      obtain ⟨a, c⟩ := hw.live k o1 hk'
      exact ⟨a, c.mono (fun _ h => ⟨h, rfl, rfl⟩) a (hx _ (fun e => hkb (hw.inj k b o1 o hk' hb e)))⟩
  · have live : ∀ k o1, (h.put b (some o')).at? k = some o1 → ∃ o2, h.at? k = some o2 := fun k o1 hk' => by
      by_cases hkb : k = b
      · exact ⟨o, by rw [hkb]; exact hb⟩
      · rw [put_at_other hlt hkb] at hk'; exact ⟨o1, hk'⟩
    obtain ⟨p1, q1⟩ := live k1 o1 e1
    obtain ⟨p2, q2⟩ := live k2 o2 e2
    exact hw.inj k1 k2 p1 p2 q1 q2 e

/-- a block that goes, and a new number for what comes in its place: the old block itself, or a new one -/
theorem move_step (hw : RepW P V m g h w) {b : Nat} {o : RO} (hb : h.at? b = some o) (o' : RO) (M γ : Nat) (hx : ∀ B, B < w.heap.size → B ≠ m b → w'.heap[B]? = w.heap[B]?) (hM : M = m b ∨ w.heap.size ≤ M) (hs : w.heap.size ≤ w'.heap.size) (ho : w'.os = w.os) (ht : w'.tape = w.tape) (hp : w'.output = w.output)
    (hk : ROk P (VX V h ((h.put b none).push o')) (fun k => if k = h.n then M else m k) (fun k => if k = h.n then γ else g k) h.n o' w') :
    Ext m g h w (fun k => if k = h.n then M else m k) (fun k => if k = h.n then γ else g k) ((h.put b none).push o') w' ∧
    RepW P (VX V h ((h.put b none).push o')) (fun k => if k = h.n then M else m k) (fun k => if k = h.n then γ else g k) ((h.put b none).push o') w' := by
  have hlt := at_some_lt hb
  have hps := put_sound hw.sound b none
  have hn : ((h.put b none).push o').n = h.n + 1 := rfl
  have hold : ∀ k, k < h.n → k ≠ b → ((h.put b none).push o').at? k = h.at? k := fun k hk hkb => by
    rw [push_at_old hps _ (by rw [put_n]; exact hk), put_at_other hlt hkb]
  have hgone : ((h.put b none).push o').at? b = none := by rw [push_at_old hps _ (by rw [put_n]; exact hlt), put_at_same hw.sound hlt]
  have hnew : ((h.put b none).push o').at? h.n = some o' := push_at_new hps o'
  have touched : Touch h ((h.put b none).push o') b := by
    refine ⟨hlt, ?_, by rw [hb]; simp⟩
    by_cases hbb : b < h.base
    · exact .inl (mem_mark.2 (.inr ⟨rfl, hbb⟩))
    · exact .inr (by omega)
  have agree : ∀ k, V k → VX V h ((h.put b none).push o') k ∧ (fun k => if k = h.n then M else m k) k = m k ∧ (fun k => if k = h.n then γ else g k) k = g k := fun k hk => ⟨.inl hk, by have := hw.lt k hk; simp [show k ≠ h.n by omega]⟩
  have live : ∀ k o1, ((h.put b none).push o').at? k = some o1 → k = h.n ∨ (k < h.n ∧ k ≠ b ∧ h.at? k = some o1) := fun k o1 hk' => by
    have hl := at_some_lt hk'
    rw [hn] at hl
    by_cases hkn : k = h.n
    · exact .inl hkn
    · have hkb : k ≠ b := fun e => by rw [e, hgone] at hk'; cases hk'
      exact .inr ⟨by omega, hkb, by rw [← hold k (by omega) hkb]; exact hk'⟩
  refine ⟨⟨by omega, rfl, fun k hk => mem_mark.2 (.inl hk), fun k hk => (mem_mark.1 hk).imp id (fun e => by rw [e.1]; exact e.2), fun k hk => by simp [show k ≠ h.n by omega], fun k h1 h2 => ?_, fun k hk' e => ?_, fun k hk' hkb hkc => ?_, hs, ho, ht, hp, fun B hB hf => hx B hB (fun e => hf b touched e.symm)⟩, ⟨push_sound hps _, fun k o1 hk' => ?_, fun k1 k2 o1 o2 e1 e2 e => ?_, fun k hk => ?_, hw.far.keep (fun B hB => hx B (Nat.lt_of_lt_of_le hB hw.far.size) (fun e => by have := hw.low b (hw.live b o hb).1; omega)) hs, fun k hk => ?_⟩⟩
  · have : k = h.n := by omega
    subst this
    simp only [if_true]
    rcases hM with e | e
    · exact .inl ⟨b, touched, e⟩
    · exact .inr e
  · by_cases hkb : k = b
    · rw [hkb]; exact hgone
    · rw [hold k hk' hkb]; exact e
  · refine hold k hk' (fun e => hkc ?_)
    subst e
    exact mem_mark.2 (.inr ⟨rfl, hkb⟩)
  · rcases live k o1 hk' with rfl | ⟨l1, l2, l3⟩
    · rw [hnew] at hk'
      cases hk'
      exact ⟨.inr ⟨Nat.le_refl _, by rw [hn]; omega⟩, hk⟩
    · obtain ⟨a, c⟩ := hw.live k o1 l3
      exact ⟨.inl a, c.mono agree a (hx _ c.lt (fun e => l2 (hw.inj k b o1 o l3 hb e)))⟩
  · have other : ∀ k o1, k < h.n → k ≠ b → h.at? k = some o1 → M ≠ m k := fun k o1 a1 a2 a3 e => by
      rcases hM with e2 | e2
      · exact a2 (hw.inj k b o1 o a3 hb (by rw [← e, e2]))
      · have := (hw.live k o1 a3).2.lt
        omega
    rcases live k1 o1 e1 with r1 | ⟨l1, l2, l3⟩
    · rcases live k2 o2 e2 with r2 | ⟨p1, p2, p3⟩
      · rw [r1, r2]
      · simp only [r1, if_true, show k2 ≠ h.n by omega, if_false] at e
        exact absurd e (other k2 o2 p1 p2 p3)
    · rcases live k2 o2 e2 with r2 | ⟨p1, p2, p3⟩
      · simp only [r2, if_true, show k1 ≠ h.n by omega, if_false] at e
        exact absurd e.symm (other k1 o1 l1 l2 l3)
      · simp only [show k1 ≠ h.n by omega, show k2 ≠ h.n by omega, if_false] at e
        exact hw.inj k1 k2 o1 o2 l3 p3 e
  · rcases hk with hk | hk
    · have := hw.lt k hk
      rw [hn]; omega
    · exact hk.2
  · rcases hk with hk | hk
    · have := hw.lt k hk
      have := hw.low k hk
      simp only [show k ≠ h.n by omega, if_false]
      omega
    · have := hk.1
      have := hk.2
      rw [hn] at this
      simp only [show k = h.n by omega, if_true]
      have := hw.low b (hw.live b o hb).1
      have := hw.far.size
      omega
end
end Go.Proofs.Ytmglofemnobakaa
