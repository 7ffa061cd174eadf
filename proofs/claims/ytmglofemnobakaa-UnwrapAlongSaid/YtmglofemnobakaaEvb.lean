/- Calls reckoned: what is known of a world; what a step may change. -/
import Derived.Test.YtmglofemnobakaaEva
namespace Go.Proofs.Ytmglofemnobakaa
open Go.RowKit

/-- a slice of row id, from its element off on -/
def FSl [Rho] (id sz : Nat) (off len : Int) (x : Value) : Prop :=
  ∃ (A : Option Addr) (c L O : Nat), x = .slice A L c ∧ off = O ∧ len = L ∧ L ≤ c ∧ (O + L) * sz ≤ Rho.fn id ∧ (0 < L → A = some ⟨(Rho.fo id).1, (Rho.fo id).2 + O * sz, none⟩)
def FPt [Rho] (id n : Nat) (e : Int) (x : Value) : Prop := ∃ N : Nat, e = N ∧ N + n ≤ Rho.fn id ∧ x = .pointer (some ⟨(Rho.fo id).1, (Rho.fo id).2 + N, none⟩)
mutual
/-- the value is as it is known: block b of the call's own is the world's block m b, made with room for g b elements; V: the numbers that may stand in it -/
def Rep [Rho] (V : Nat → Prop) (m g : Nat → Nat) : RV → Value → Prop
  | .unk, _ => True
  | .pl v, x => x = v
  | .ptr b off, x => V b ∧ x = .pointer (some ⟨m b, off, none⟩)
  | .slc b off len (some c), x => V b ∧ x = .slice (some ⟨m b, off, none⟩) len c
  | .slc b off len none, x => V b ∧ len ≤ g b ∧ x = .slice (some ⟨m b, off, none⟩) len (g b)
  | .agg l, x => ∃ a : Array Value, x = .agg a ∧ RepL V m g l a.toList
  | .tup l, x => ∃ a : Array Value, x = .tuple a ∧ RepL V m g l a.toList
  | .fn f fs cs, x => ∃ a b : Array Value, x = .func (.func f) a b ∧ RepL V m g fs a.toList ∧ RepL V m g cs b.toList
  | .yld b, x => V b ∧ x = .func (.yield (m b)) #[] #[]
  | .si k e, x => x = .int k e.ev.i
  | .sb e, x => x = .bool e.ev.b
  | .fsl id sz off len, x => FSl id sz off.ev.i len.ev.i x
  | .fpt id n e, x => FPt id n e.ev.i x
  | .osl b _ len, x => V b ∧ ∃ L : Nat, len.ev.i = L ∧ L ≤ g b ∧ x = .slice (some ⟨m b, 0, none⟩) L (g b)
  | .opt b n lim e, x => V b ∧ ∃ N : Nat, e.ev.i = N ∧ ((N + n : Nat) : Int) ≤ lim.ev.i ∧ x = .pointer (some ⟨m b, N, none⟩)
  | .mp b, x => V b ∧ x = .map (some (m b))
def RepL [Rho] (V : Nat → Prop) (m g : Nat → Nat) : List RV → List Value → Prop
  | [], l => l = []
  | r :: rs, l => ∃ v vs, l = v :: vs ∧ Rep V m g r v ∧ RepL V m g rs vs
end

section
variable [Rho] {V V' : Nat → Prop} {m g m' g' : Nat → Nat}
mutual
theorem rep_mono (h : ∀ k, V k → V' k ∧ m' k = m k ∧ g' k = g k) : ∀ (r : RV) (x : Value), Rep V m g r x → Rep V' m' g' r x
  | .unk, _, _ => by simp [Rep]
  | .pl v, x, hr => by simpa [Rep] using hr
  | .ptr b off, x, hr => by
    simp only [Rep] at hr ⊢
    obtain ⟨h1, h2, _⟩ := h b hr.1
    exact ⟨h1, by rw [hr.2, h2]⟩
  | .slc b off len (some c), x, hr => by
    simp only [Rep] at hr ⊢
    obtain ⟨h1, h2, _⟩ := h b hr.1
    exact ⟨h1, by rw [hr.2, h2]⟩
  | .slc b off len none, x, hr => by
    simp only [Rep] at hr ⊢
    obtain ⟨h1, h2, h3⟩ := h b hr.1
    exact ⟨h1, by rw [h3]; exact hr.2.1, by rw [hr.2.2, h2, h3]⟩
  | .agg l, x, hr => by
    simp only [Rep] at hr ⊢
    obtain ⟨a, h1, h2⟩ := hr
    exact ⟨a, h1, repL_mono h l _ h2⟩
  | .tup l, x, hr => by
    simp only [Rep] at hr ⊢
    obtain ⟨a, h1, h2⟩ := hr
    exact ⟨a, h1, repL_mono h l _ h2⟩
  | .fn f fs cs, x, hr => by
    simp only [Rep] at hr ⊢
    obtain ⟨a, b, h1, h2, h3⟩ := hr
    exact ⟨a, b, h1, repL_mono h fs _ h2, repL_mono h cs _ h3⟩
  | .yld b, x, hr => by
    simp only [Rep] at hr ⊢
    obtain ⟨h1, h2, _⟩ := h b hr.1
    exact ⟨h1, by rw [hr.2, h2]⟩
  | .si k e, x, hr => by simpa only [Rep] using hr
  | .sb e, x, hr => by simpa only [Rep] using hr
  | .fsl _ _ _ _, x, hr => by simpa only [Rep] using hr
  | .fpt _ _ _, x, hr => by simpa only [Rep] using hr
  | .osl b _ len, x, hr => by
    simp only [Rep] at hr ⊢
    obtain ⟨h1, h2, h3⟩ := h b hr.1
    rw [h2, h3]
    exact ⟨h1, hr.2⟩
  | .opt b n lim e, x, hr => by
    simp only [Rep] at hr ⊢
    obtain ⟨h1, h2, _⟩ := h b hr.1
    rw [h2]
    exact ⟨h1, hr.2⟩
  | .mp b, x, hr => by
    simp only [Rep] at hr ⊢
    obtain ⟨h1, h2, _⟩ := h b hr.1
    exact ⟨h1, by rw [hr.2, h2]⟩
theorem repL_mono (h : ∀ k, V k → V' k ∧ m' k = m k ∧ g' k = g k) : ∀ (l : List RV) (xs : List Value), RepL V m g l xs → RepL V' m' g' l xs
  | [], xs, hr => by simpa [RepL] using hr
  | r :: rs, xs, hr => by
    simp only [RepL] at hr ⊢
    obtain ⟨v, vs, h1, h2, h3⟩ := hr
    exact ⟨v, vs, h1, rep_mono h r v h2, repL_mono h rs vs h3⟩
end

theorem repL_nil {xs : List Value} : RepL V m g [] xs ↔ xs = [] := by simp [RepL]
theorem repL_cons {r : RV} {rs : List RV} {xs : List Value} : RepL V m g (r :: rs) xs ↔ ∃ v vs, xs = v :: vs ∧ Rep V m g r v ∧ RepL V m g rs vs := by simp [RepL]
theorem repL_cons' {r : RV} {rs : List RV} {v : Value} {vs : List Value} : RepL V m g (r :: rs) (v :: vs) ↔ Rep V m g r v ∧ RepL V m g rs vs := by
  rw [repL_cons]
  constructor
  · rintro ⟨_, _, h, h1, h2⟩
    obtain ⟨rfl, rfl⟩ := List.cons.inj h
    exact ⟨h1, h2⟩
  · rintro ⟨h1, h2⟩
    exact ⟨v, vs, rfl, h1, h2⟩
theorem repL_len : ∀ {l : List RV} {xs : List Value}, RepL V m g l xs → xs.length = l.length
  | [], xs, h => by rw [repL_nil.1 h]; rfl
  | r :: rs, xs, h => by
    obtain ⟨v, vs, rfl, _, h2⟩ := repL_cons.1 h
    simp [repL_len h2]
theorem repL_get : ∀ {l : List RV} {xs : List Value}, RepL V m g l xs → ∀ {i : Nat} {r : RV}, l[i]? = some r → ∃ v, xs[i]? = some v ∧ Rep V m g r v
  | [], xs, h, i, r, hi => by simp at hi
  | r :: rs, xs, h, i, r', hi => by
    obtain ⟨v, vs, rfl, h1, h2⟩ := repL_cons.1 h
    cases i with
    | zero => simp at hi; subst hi; exact ⟨v, rfl, h1⟩
    | succ i => simp at hi; simpa using repL_get h2 hi
theorem repL_append : ∀ {l l' : List RV} {xs xs' : List Value}, RepL V m g l xs → RepL V m g l' xs' → RepL V m g (l ++ l') (xs ++ xs')
  | [], l', xs, xs', h, h' => by rw [repL_nil.1 h]; simpa using h'
  | r :: rs, l', xs, xs', h, h' => by
    obtain ⟨v, vs, rfl, h1, h2⟩ := repL_cons.1 h
    exact repL_cons'.2 ⟨h1, repL_append h2 h'⟩
theorem repL_take : ∀ {l : List RV} {xs : List Value} (n : Nat), RepL V m g l xs → RepL V m g (l.take n) (xs.take n)
  | _, _, 0, _ => by simp [RepL]
  | [], xs, n + 1, h => by rw [repL_nil.1 h]; simp [RepL]
  | r :: rs, xs, n + 1, h => by
    obtain ⟨v, vs, rfl, h1, h2⟩ := repL_cons.1 h
    exact repL_cons'.2 ⟨h1, repL_take n h2⟩
theorem repL_drop : ∀ {l : List RV} {xs : List Value} (n : Nat), RepL V m g l xs → RepL V m g (l.drop n) (xs.drop n)
  | _, _, 0, h => by simpa using h
  | [], xs, n + 1, h => by rw [repL_nil.1 h]; simp [RepL]
  | r :: rs, xs, n + 1, h => by
    obtain ⟨v, vs, rfl, h1, h2⟩ := repL_cons.1 h
    simpa using repL_drop n h2
theorem repL_pl (xs : List Value) : RepL V m g (xs.map .pl) xs := by
  induction xs with
  | nil => simp [RepL]
  | cons x xs ih => exact repL_cons'.2 ⟨by simp [Rep], ih⟩
theorem repL_one {r : RV} {v : Value} (h : Rep V m g r v) : RepL V m g [r] [v] := repL_cons'.2 ⟨h, repL_nil.2 rfl⟩

mutual
theorem rep_plain : ∀ (r : RV) (v x : Value), r.plain = some v → Rep V m g r x → x = v
  | .pl v, w, x, h, hr => by simp only [RV.plain, Option.some.injEq] at h; subst h; simpa [Rep] using hr
  | .agg l, w, x, h, hr => by
    simp only [RV.plain] at h
    simp only [Rep] at hr
    obtain ⟨a, rfl, h2⟩ := hr
    cases hl : RV.plainL l with
    | none => rw [hl] at h; cases h
    | some vs =>
      rw [hl] at h
      have := repL_plain l vs _ hl h2
      simp only [Option.some.injEq] at h
      rw [← h, ← this]
  | .tup l, w, x, h, hr => by
    simp only [RV.plain] at h
    simp only [Rep] at hr
    obtain ⟨a, rfl, h2⟩ := hr
    cases hl : RV.plainL l with
    | none => rw [hl] at h; cases h
    | some vs =>
      rw [hl] at h
      have := repL_plain l vs _ hl h2
      simp only [Option.some.injEq] at h
      rw [← h, ← this]
  | .unk, w, x, h, hr => by simp [RV.plain] at h
  | .ptr _ _, w, x, h, hr => by simp [RV.plain] at h
  | .slc _ _ _ _, w, x, h, hr => by simp [RV.plain] at h
  | .fn k [] [], w, x, h, hr => by
    simp only [RV.plain, Option.some.injEq] at h
    subst h
    simp only [Rep] at hr
    obtain ⟨a, b, rfl, h1, h2⟩ := hr
    simp only [RepL] at h1 h2
    rw [show a = #[] from Array.toList_inj.1 h1, show b = #[] from Array.toList_inj.1 h2]
  | .fn _ (_ :: _) _, w, x, h, hr => by simp [RV.plain] at h
  | .fn _ [] (_ :: _), w, x, h, hr => by simp [RV.plain] at h
  | .yld _, w, x, h, hr => by simp [RV.plain] at h
  | .si _ _, w, x, h, hr => by simp [RV.plain] at h
  | .sb _, w, x, h, hr => by simp [RV.plain] at h
  | .fsl _ _ _ _, w, x, h, hr => by simp [RV.plain] at h
  | .fpt _ _ _, w, x, h, hr => by simp [RV.plain] at h
  | .osl _ _ _, w, x, h, hr => by simp [RV.plain] at h
  | .opt _ _ _ _, w, x, h, hr => by simp [RV.plain] at h
  | .mp _, w, x, h, hr => by simp [RV.plain] at h
theorem repL_plain : ∀ (l : List RV) (vs xs : List Value), RV.plainL l = some vs → RepL V m g l xs → xs = vs
  | [], vs, xs, h, hr => by
    simp only [RV.plainL, Option.some.injEq] at h
    rw [repL_nil.1 hr, ← h]
  | r :: rs, vs, xs, h, hr => by
    obtain ⟨v, ws, rfl, h1, h2⟩ := repL_cons.1 hr
    simp only [RV.plainL] at h
    cases hp : RV.plain r with
    | none => rw [hp] at h; cases h
    | some v' =>
      rw [hp] at h
      cases hq : RV.plainL rs with
      | none => rw [hq] at h; cases h
      | some vs' =>
        rw [hq] at h
        simp only [Option.some.injEq] at h
        rw [← h, rep_plain r v' v hp h1, repL_plain rs vs' ws hq h2]
end

/-- what has no address in it is the same in all worlds -/
theorem rep_flat {r : RV} {x : Value} (h : r.flat = true) (hr : Rep V m g r x) : Rep V' m' g' r x := by
  cases r <;> simp [RV.flat] at h <;> simpa only [Rep] using hr
theorem repL_flat : ∀ {l : List RV} {xs : List Value}, l.all RV.flat = true → RepL V m g l xs → RepL V' m' g' l xs
  | [], xs, _, hr => by rw [repL_nil.1 hr]; simp [RepL]
  | r :: rs, xs, h, hr => by
    obtain ⟨v, vs, rfl, h1, h2⟩ := repL_cons.1 hr
    simp only [List.all_cons, Bool.and_eq_true] at h
    exact repL_cons'.2 ⟨rep_flat h.1 h1, repL_flat h.2 h2⟩
theorem rep_flat2 {r : RV} {x : Value} (h : r.flat2 = true) (hr : Rep V m g r x) : Rep V' m' g' r x := by
  cases r with
  | pl v => simpa [Rep] using hr
  | agg l =>
    simp only [Rep] at hr ⊢
    obtain ⟨a, h1, h2⟩ := hr
    exact ⟨a, h1, repL_flat h h2⟩
  | tup l =>
    simp only [Rep] at hr ⊢
    obtain ⟨a, h1, h2⟩ := hr
    exact ⟨a, h1, repL_flat h h2⟩
  | unk => simp [RV.flat2] at h
  | ptr _ _ => simp [RV.flat2] at h
  | slc _ _ _ _ => simp [RV.flat2] at h
  | fn _ _ _ => simp [RV.flat2] at h
  | yld _ => simp [RV.flat2] at h
  | si _ _ => simpa only [Rep] using hr
  | sb _ => simpa only [Rep] using hr
  | fsl _ _ _ _ => simpa only [Rep] using hr
  | fpt _ _ _ => simpa only [Rep] using hr
  | osl _ _ _ => simp [RV.flat2] at h
  | opt _ _ _ _ => simp [RV.flat2] at h
  | mp _ => simp [RV.flat2] at h

theorem fsl_slice {id sz : Nat} {off len : Int} {x : Value} (h : FSl id sz off len x) : ∃ A c L, x = .slice A L c := by
  obtain ⟨A, c, L, _, h, _⟩ := h
  exact ⟨A, c, L, h⟩
theorem fpt_pointer {id n : Nat} {e : Int} {x : Value} (h : FPt id n e x) : ∃ a, x = .pointer a := by
  obtain ⟨N, _, _, h⟩ := h
  exact ⟨_, h⟩
theorem rep_cells {r : RV} {x : Value} {cs : List RV} (h : r.cells = some cs) (hr : Rep V m g r x) : RepL V m g cs x.cells.toList := by
  cases r with
  | unk => simp [RV.cells] at h
  | tup l => simp [RV.cells] at h
  | agg l =>
    simp only [RV.cells, Option.some.injEq] at h
    subst h
    simp only [Rep] at hr
    obtain ⟨a, rfl, h2⟩ := hr
    exact h2
  | pl v =>
    simp only [RV.cells, Option.some.injEq] at h
    subst h
    simp only [Rep] at hr
    subst hr
    exact repL_pl _
  | ptr b off =>
    simp only [RV.cells, Option.some.injEq] at h
    subst h
    have : x.cells = #[x] := by simp only [Rep] at hr; rw [hr.2]; rfl
    rw [this]
    exact repL_one hr
  | slc b off len c =>
    simp only [RV.cells, Option.some.injEq] at h
    subst h
    have : x.cells = #[x] := by cases c <;> simp only [Rep] at hr <;> first | (rw [hr.2]; rfl) | (rw [hr.2.2]; rfl)
    rw [this]
    exact repL_one hr
  | fn f a b =>
    simp only [RV.cells, Option.some.injEq] at h
    subst h
    have : x.cells = #[x] := by simp only [Rep] at hr; obtain ⟨_, _, h, _⟩ := hr; rw [h]; rfl
    rw [this]
    exact repL_one hr
  | yld b =>
    simp only [RV.cells, Option.some.injEq] at h
    subst h
    have : x.cells = #[x] := by simp only [Rep] at hr; rw [hr.2]; rfl
    rw [this]
    exact repL_one hr
  | si k e =>
    simp only [RV.cells, Option.some.injEq] at h
    subst h
    have : x.cells = #[x] := by simp only [Rep] at hr; rw [hr]; rfl
    rw [this]
    exact repL_one hr
  | sb e =>
    simp only [RV.cells, Option.some.injEq] at h
    subst h
    have : x.cells = #[x] := by simp only [Rep] at hr; rw [hr]; rfl
    rw [this]
    exact repL_one hr
  | fsl id sz off len =>
    simp only [RV.cells, Option.some.injEq] at h
    subst h
    have : x.cells = #[x] := by simp only [Rep] at hr; obtain ⟨_, _, _, e⟩ := fsl_slice hr; rw [e]; rfl
    rw [this]
    exact repL_one hr
  | fpt id n e =>
    simp only [RV.cells, Option.some.injEq] at h
    subst h
    have : x.cells = #[x] := by simp only [Rep] at hr; obtain ⟨_, e⟩ := fpt_pointer hr; rw [e]; rfl
    rw [this]
    exact repL_one hr
  | osl b sz len =>
    simp only [RV.cells, Option.some.injEq] at h
    subst h
    have : x.cells = #[x] := by simp only [Rep] at hr; obtain ⟨_, _, _, _, e⟩ := hr; rw [e]; rfl
    rw [this]
    exact repL_one hr
  | opt b n lim e =>
    simp only [RV.cells, Option.some.injEq] at h
    subst h
    have : x.cells = #[x] := by simp only [Rep] at hr; obtain ⟨_, _, _, _, e⟩ := hr; rw [e]; rfl
    rw [this]
    exact repL_one hr
  | mp b =>
    simp only [RV.cells, Option.some.injEq] at h
    subst h
    have : x.cells = #[x] := by simp only [Rep] at hr; rw [hr.2]; rfl
    rw [this]
    exact repL_one hr
theorem rep_one {r : RV} {x : Value} (h : r.one = true) (hr : Rep V m g r x) : x.oneCell' = true := by
  cases r with
  | unk => simp [RV.one] at h
  | tup l => simp [RV.one] at h
  | agg l => simp [RV.one] at h
  | pl v => simp only [Rep] at hr; rw [hr]; exact h
  | ptr b off => simp only [Rep] at hr; rw [hr.2]; rfl
  | slc b off len c => cases c <;> simp only [Rep] at hr <;> first | (rw [hr.2]; rfl) | (rw [hr.2.2]; rfl)
  | fn f a b => simp only [Rep] at hr; obtain ⟨_, _, h, _⟩ := hr; rw [h]; rfl
  | yld b => simp only [Rep] at hr; rw [hr.2]; rfl
  | si k e => simp only [Rep] at hr; rw [hr]; rfl
  | sb e => simp only [Rep] at hr; rw [hr]; rfl
  | fsl id sz off len => simp only [Rep] at hr; obtain ⟨_, _, _, e⟩ := fsl_slice hr; rw [e]; rfl
  | fpt id n e => simp only [Rep] at hr; obtain ⟨_, e⟩ := fpt_pointer hr; rw [e]; rfl
  | osl b sz len => simp only [Rep] at hr; obtain ⟨_, _, _, _, e⟩ := hr; rw [e]; rfl
  | opt b n lim e => simp only [Rep] at hr; obtain ⟨_, _, _, _, e⟩ := hr; rw [e]; rfl
  | mp b => simp only [Rep] at hr; rw [hr.2]; rfl
theorem repL_ones : ∀ {l : List RV} {xs : List Value}, l.all RV.one = true → RepL V m g l xs → ∀ x ∈ xs, x.oneCell' = true
  | [], xs, _, hr => by rw [repL_nil.1 hr]; simp
  | r :: rs, xs, h, hr => by
    obtain ⟨v, vs, rfl, h1, h2⟩ := repL_cons.1 hr
    simp only [List.all_cons, Bool.and_eq_true] at h
    intro x hx
    rcases List.mem_cons.1 hx with rfl | hx
    · exact rep_one h.1 h1
    · exact repL_ones h.2 h2 x hx
end

/-! forced values are the same values -/
theorem forceNat_eq {α : Type} (n : Nat) (k : Nat → α) : forceNat n k = k n := by cases n <;> rfl
theorem forceInt_eq {α : Type} (n : Int) (k : Int → α) : forceInt n k = k n := by cases n <;> simp [forceInt, forceNat_eq]
theorem forceV_eq {α : Type} (v : Value) (k : Value → α) : forceV v k = k v := by
  cases v <;> simp only [forceV, forceInt_eq]
  rename_i b
  cases b <;> rfl
theorem forceRV_eq {α : Type} (r : RV) (k : RV → α) : forceRV r k = k r := by cases r <;> simp only [forceRV, forceV_eq, forceNat_eq]
theorem forceH_eq {α : Type} (h : RH) (k : RH → α) : forceH h k = k h := by cases h; simp only [forceH, forceNat_eq]

theorem memN_iff {x : Nat} : ∀ {l : List Nat}, memN x l = true ↔ x ∈ l
  | [] => by simp [memN]
  | y :: ys => by
    unfold memN
    cases hxy : Nat.beq x y with
    | true => have : x = y := Nat.eq_of_beq_eq_true hxy; simp [this]
    | false =>
      have : x ≠ y := fun e => by subst e; simp [Nat.beq_refl] at hxy
      simp only [memN_iff (l := ys), List.mem_cons, this, false_or]

/-! the slots -/
theorem rowGet_nil (i : Nat) : rowGet [] i = ru := rfl
theorem rowGet_zero (r : RV) (l : List RV) : rowGet (r :: l) 0 = r := rfl
theorem rowGet_succ (r : RV) (l : List RV) (i : Nat) : rowGet (r :: l) (i + 1) = rowGet l i := rfl
theorem rowSet_nil (i : Nat) (v : RV) : rowSet [] i v = [] := rfl
theorem rowSet_zero (r : RV) (l : List RV) (v : RV) : rowSet (r :: l) 0 v = v :: l := rfl
theorem rowSet_succ (r : RV) (l : List RV) (i : Nat) (v : RV) : rowSet (r :: l) (i + 1) v = r :: rowSet l i v := rfl
theorem rowSet_len : ∀ (l : List RV) (i : Nat) (v : RV), (rowSet l i v).length = l.length
  | [], _, _ => rfl
  | r :: l, 0, v => rfl
  | r :: l, i + 1, v => by rw [rowSet_succ]; simp [rowSet_len l i v]
theorem row_get_set : ∀ (l : List RV) (i j : Nat) (v : RV), i < l.length → rowGet (rowSet l i v) j = if j = i then v else rowGet l j
  | [], i, j, v, h => by simp at h
  | r :: l, 0, 0, v, _ => rfl
  | r :: l, 0, j + 1, v, _ => by simp [rowSet_zero, rowGet_succ]
  | r :: l, i + 1, 0, v, _ => by simp [rowSet_succ, rowGet_zero]
  | r :: l, i + 1, j + 1, v, h => by
    rw [rowSet_succ, rowGet_succ, rowGet_succ, row_get_set l i j v (by simpa using h)]
    simp
theorem rtGet_zero (l : List RV) (t : RT) (j : Nat) : rtGet (l :: t) 0 j = rowGet l j := rfl
theorem rtGet_succ (l : List RV) (t : RT) (i j : Nat) : rtGet (l :: t) (i + 1) j = rtGet t i j := rfl
theorem rtSet_zero (l : List RV) (t : RT) (j : Nat) (v : RV) : rtSet (l :: t) 0 j v = rowSet l j v :: t := rfl
theorem rtSet_succ (l : List RV) (t : RT) (i j : Nat) (v : RV) : rtSet (l :: t) (i + 1) j v = l :: rtSet t i j v := rfl
theorem rt_get_set : ∀ (t : RT) (i j i' j' : Nat) (v : RV), i < t.length → j < 8 → (∀ l ∈ t, l.length = 8) → rtGet (rtSet t i j v) i' j' = if i' = i ∧ j' = j then v else rtGet t i' j'
  | [], i, j, i', j', v, h, _, _ => by simp at h
  | l :: t, 0, j, 0, j', v, _, hj, hl => by
    rw [rtSet_zero, rtGet_zero, rtGet_zero, row_get_set l j j' v (by rw [hl l (List.mem_cons_self ..)]; exact hj)]
    simp
  | l :: t, 0, j, i' + 1, j', v, _, _, _ => by simp [rtSet_zero, rtGet_succ]
  | l :: t, i + 1, j, 0, j', v, _, _, _ => by simp [rtSet_succ, rtGet_zero]
  | l :: t, i + 1, j, i' + 1, j', v, h, hj, hl => by
    rw [rtSet_succ, rtGet_succ, rtGet_succ, rt_get_set t i j i' j' v (by simpa using h) hj (fun l hh => hl l (List.mem_cons_of_mem _ hh))]
    simp
theorem rtSet_len : ∀ (t : RT) (i j : Nat) (v : RV), (rtSet t i j v).length = t.length
  | [], _, _, _ => rfl
  | l :: t, 0, j, v => rfl
  | l :: t, i + 1, j, v => by rw [rtSet_succ]; simp [rtSet_len t i j v]
theorem rtSet_rows : ∀ (t : RT) (i j : Nat) (v : RV), (∀ l ∈ t, l.length = 8) → ∀ l ∈ rtSet t i j v, l.length = 8
  | [], _, _, _, _, l, hl => by cases hl
  | r :: t, 0, j, v, h, l, hl => by
    rw [rtSet_zero] at hl
    rcases List.mem_cons.1 hl with rfl | hl
    · rw [rowSet_len]; exact h r (List.mem_cons_self ..)
    · exact h l (List.mem_cons_of_mem _ hl)
  | r :: t, i + 1, j, v, h, l, hl => by
    rw [rtSet_succ] at hl
    rcases List.mem_cons.1 hl with rfl | hl
    · exact h _ (List.mem_cons_self ..)
    · exact rtSet_rows t i j v (fun l hh => h l (List.mem_cons_of_mem _ hh)) l hl

def Shape (t : RT) (sz : Nat) : Prop := (∀ l ∈ t, l.length = 8) ∧ sz ≤ t.length * 8
/-- slots are as they are known -/
def RepT [Rho] (V : Nat → Prop) (m g : Nat → Nat) (t : RT) (sz : Nat) (tm : Array Value) : Prop :=
  Shape t sz ∧ tm.size = sz ∧ ∀ i, Rep V m g (rtGet t (i / 8) (i % 8)) (tm.getD i undef)
def RepA [Rho] (V : Nat → Prop) (m g : Nat → Nat) (a : RA) (A : Act) : Prop :=
  RepT V m g a.tmps a.sz A.tmps ∧ A.defers = a.dfs.map (fun d => { target := .collected (m d), args := #[] }) ∧ ∀ d ∈ a.dfs, V d

theorem ra_get (a : RA) (t : Nat) : a.get t = rtGet a.tmps (t / 8) (t % 8) := rfl
theorem ra_set_lt {a : RA} {d : Nat} {r : RV} (h : d < a.sz) : a.set d r = { a with tmps := rtSet a.tmps (d / 8) (d % 8) r } := by
  obtain ⟨tmps, sz, dfs⟩ := a
  have : Nat.blt d sz = true := by simpa [Nat.blt_eq] using h
  simp only [RA.set, this]
  rfl
theorem ra_set_ge {a : RA} {d : Nat} {r : RV} (h : ¬ d < a.sz) : a.set d r = a := by
  obtain ⟨tmps, sz, dfs⟩ := a
  have : Nat.blt d sz = false := by
    cases hb : Nat.blt d sz with
    | false => rfl
    | true => exact absurd (by simpa [Nat.blt_eq] using hb) h
  simp only [RA.set, this]
theorem ra_sz_set (a : RA) (d : Nat) (r : RV) : (a.set d r).sz = a.sz := by
  by_cases hd : d < a.sz
  · rw [ra_set_lt hd]
  · rw [ra_set_ge hd]
theorem ra_dfs_set (a : RA) (d : Nat) (r : RV) : (a.set d r).dfs = a.dfs := by
  by_cases hd : d < a.sz
  · rw [ra_set_lt hd]
  · rw [ra_set_ge hd]
theorem ra_sz_put (a : RA) (d : Option Tmp) (r : RV) : (a.put d r).sz = a.sz := by cases d <;> first | rfl | exact ra_sz_set _ _ _
theorem ra_dfs_put (a : RA) (d : Option Tmp) (r : RV) : (a.put d r).dfs = a.dfs := by cases d <;> first | rfl | exact ra_dfs_set _ _ _

section
variable [Rho] {V V' : Nat → Prop} {m g m' g' : Nat → Nat}
theorem repT_mono (h : ∀ k, V k → V' k ∧ m' k = m k ∧ g' k = g k) {t : RT} {sz : Nat} {tm : Array Value} (hr : RepT V m g t sz tm) : RepT V' m' g' t sz tm :=
  ⟨hr.1, hr.2.1, fun i => rep_mono h _ _ (hr.2.2 i)⟩
theorem repA_mono (h : ∀ k, V k → V' k ∧ m' k = m k ∧ g' k = g k) {a : RA} {A : Act} (hr : RepA V m g a A) : RepA V' m' g' a A := by
  obtain ⟨h1, h2, h3⟩ := hr
  refine ⟨repT_mono h h1, ?_, fun d hd => (h d (h3 d hd)).1⟩
  rw [h2]
  apply List.map_congr_left
  intro d hd
  rw [(h d (h3 d hd)).2.1]
theorem repT_set {t : RT} {sz d : Nat} {tm : Array Value} {r : RV} {v : Value} (h : RepT V m g t sz tm) (hd : d < sz) (hr : Rep V m g r v) :
    RepT V m g (rtSet t (d / 8) (d % 8) r) sz (tm.setIfInBounds d v) := by
  obtain ⟨⟨h1, h2⟩, h3, h4⟩ := h
  have hi : d / 8 < t.length := by omega
  refine ⟨⟨rtSet_rows t _ _ r h1, by rw [rtSet_len]; exact h2⟩, by simpa using h3, fun i => ?_⟩
  rw [rt_get_set t _ _ _ _ r hi (by omega) h1]
  by_cases hid : i = d
  · subst hid
    have : i < tm.size := by omega
    simpa [this] using hr
  · rw [if_neg (by omega)]
    have := h4 i
    simp only [Array.getD_eq_getD_getElem?] at this ⊢
    rw [Array.getElem?_setIfInBounds_ne (fun e => hid e.symm)]
    exact this
theorem repA_set {a : RA} {A : Act} {d : Nat} {r : RV} {v : Value} (h : RepA V m g a A) (hr : Rep V m g r v) : RepA V m g (a.set d r) { A with tmps := A.tmps.setIfInBounds d v } := by
  by_cases hd : d < a.sz
  · rw [ra_set_lt hd]
    exact ⟨repT_set h.1 hd hr, h.2.1, h.2.2⟩
  · rw [ra_set_ge hd]
    refine ⟨?_, h.2.1, h.2.2⟩
    have : A.tmps.setIfInBounds d v = A.tmps := by
      have := h.1.2.1
      simp [Array.setIfInBounds, show ¬ d < A.tmps.size by omega]
    rw [this]
    exact h.1
theorem repA_put {a : RA} {A : Act} {dst : Option Tmp} {r : RV} {v : Value} (h : RepA V m g a A) (hr : Rep V m g r v) : RepA V m g (a.put dst r) (A.put dst v) := by
  cases dst with
  | none => exact h
  | some d => exact repA_set h hr
theorem rep_ru : Rep V m g ru undef := by simp only [ru, Rep]; rfl
theorem repA_eval {a : RA} {A : Act} (h : RepA V m g a A) (x : Operand) : Rep V m g (a.eval x) (A.eval x) := by
  cases x with
  | tmp t => exact h.1.2.2 t
  | const v => simp [RA.eval, Act.eval, Rep]
  | global k => simp [RA.eval, Rep]
  | func f => simp [RA.eval, Act.eval, Rep, RepL]
/-- slots set from the i-th on -/
theorem repA_setFrom : ∀ {rs : List RV} {vs : List Value} {i : Nat} {a : RA} {A : Act}, RepA V m g a A → RepL V m g rs vs →
    RepA V m g (setFrom i rs a) { A with tmps := (vs.zipIdx i).foldl (fun t (v, k) => t.setIfInBounds k v) A.tmps }
  | [], vs, i, a, A, h, hr => by
    rw [repL_nil.1 hr]
    exact h
  | r :: rs, vs, i, a, A, h, hr => by
    obtain ⟨v, ws, rfl, h1, h2⟩ := repL_cons.1 hr
    have := repA_setFrom (i := i + 1) (repA_set (d := i) h h1) h2
    simpa [setFrom, List.zipIdx_cons] using this
end
end Go.Proofs.Ytmglofemnobakaa
