/- What is known, put in another way: a block under another number; cells as a row. Loops with several heads. -/
import Derived.Test.YtmglofemnobakaaSyw
namespace Go.Proofs.Ytmglofemnobakaa
open Go.RowKit
set_option linter.unusedSectionVars false
set_option linter.unusedVariables false

/-! a change of what is known that is right at any value -/
mutual
/-- block c is now block b -/
def mvR (b c : Nat) : RV → RV
  | .ptr x o => match Nat.beq x c with | true => .ptr b o | false => match Nat.beq x b with | true => .unk | false => .ptr x o
  | .slc x o l k => match Nat.beq x c with | true => .slc b o l k | false => match Nat.beq x b with | true => .unk | false => .slc x o l k
  | .osl x s l => match Nat.beq x c with | true => .osl b s l | false => match Nat.beq x b with | true => .unk | false => .osl x s l
  | .opt x n l e => match Nat.beq x c with | true => .opt b n l e | false => match Nat.beq x b with | true => .unk | false => .opt x n l e
  | .yld _ => .unk
  | .mp x => match Nat.beq x c with | true => .mp b | false => match Nat.beq x b with | true => .unk | false => .mp x
  | .agg l => .agg (mvL b c l)
  | .tup l => .tup (mvL b c l)
  | .fn f x y => .fn f (mvL b c x) (mvL b c y)
  | .unk => .unk
  | .pl v => .pl v
  | .si k e => .si k e
  | .sb e => .sb e
  | .fsl i s o l => .fsl i s o l
  | .fpt i n e => .fpt i n e
def mvL (b c : Nat) : List RV → List RV
  | [] => []
  | r :: rs => mvR b c r :: mvL b c rs
end
mutual
/-- the cells of block b are now a row of n elements -/
def rwR (b sz n : Nat) : RV → RV
  | .ptr x o => match Nat.beq x b with | true => .unk | false => .ptr x o
  | .slc x o l k => match Nat.beq x b with | true => (match Nat.beq o 0 && Nat.beq l n && (match k with | none => true | some _ => false) with | true => .osl b sz (.lit (.ofNat n)) | false => .unk) | false => .slc x o l k
  | .osl x s l => match Nat.beq x b with | true => .unk | false => .osl x s l
  | .opt x n l e => match Nat.beq x b with | true => .unk | false => .opt x n l e
  | .yld _ => .unk
  | .mp x => match Nat.beq x b with | true => .unk | false => .mp x
  | .agg l => .agg (rwL b sz n l)
  | .tup l => .tup (rwL b sz n l)
  | .fn f x y => .fn f (rwL b sz n x) (rwL b sz n y)
  | .unk => .unk
  | .pl v => .pl v
  | .si k e => .si k e
  | .sb e => .sb e
  | .fsl i s o l => .fsl i s o l
  | .fpt i n e => .fpt i n e
def rwL (b sz n : Nat) : List RV → List RV
  | [] => []
  | r :: rs => rwR b sz n r :: rwL b sz n rs
end
/-- cells as a row -/
def rowE : List RV → Int → SE → Option SE
  | [], _, a => some a
  | r :: l, j, a => match sI r with | some (.i64, e) => rowE l (j + 1) (.upd a (.lit j) e) | _ => none
/-- blocks mapped -/
def mapO (F : List RV → List RV) : Option RO → Option RO
  | some (.cells l t g) => some (.cells (F l) t g)
  | some (.row ar n t sz) => some (.row ar n t sz)
  | some (.mpo es c) => some (.mpo es c)
  | _ => none
def mapH (F : List RV → List RV) (h : RH) : RH := { h with bl := h.bl.map (mapO F) }
def mapA (F : List RV → List RV) (a : RA) : RA := { a with tmps := a.tmps.map F }
inductive Pr where
  | mov (b c : Nat)
  | row (b sz n : Nat)
def prep1 (P : Program) : Pr → RA → RH → Option (RA × RH)
  | .mov b c, a, h =>
    match a.dfs with
    | [] => match Nat.blt b c && Nat.blt c h.n with
      | true => some (mapA (mvL b c) a, ((mapH (mvL b c) h).put b ((mapH (mvL b c) h).at? c)).put c none)
      | false => none
    | _ => none
  | .row b sz n, a, h =>
    match a.dfs with
    | [] =>
      match h.at? b with
      | some (.cells l t true) =>
        match rowE l 0 .azero with
        | some ar =>
          match sizeD P t with
          | some s => match Nat.beq s sz && Nat.beq l.length (n * sz) && Nat.blt 0 sz with
            | true => some (mapA (rwL b sz n) a, (mapH (rwL b sz n) h).put b (some (.row ar (.lit (.ofNat n)) t sz)))
            | false => none
          | none => none
        | none => none
      | _ => none
    | _ => none
def prep (P : Program) : List Pr → RA → RH → Option (RA × RH)
  | [], a, h => some (a, h)
  | p :: l, a, h => match prep1 P p a h with | some (a', h') => prep P l a' h' | none => none

section
variable [Rho] {P : Program} {V V2 : Nat → Prop} {m g m2 g2 : Nat → Nat}
theorem mvL_len (b c : Nat) : ∀ l, (mvL b c l).length = l.length
  | [] => rfl
  | _ :: l => by simp [mvL, mvL_len b c l]
theorem rwL_len (b sz n : Nat) : ∀ l, (rwL b sz n l).length = l.length
  | [] => rfl
  | _ :: l => by simp [rwL, rwL_len b sz n l]
def movM (b c : Nat) (m : Nat → Nat) (k : Nat) : Nat := if k = b then m c else m k
def movV (b c : Nat) (V : Nat → Prop) (k : Nat) : Prop := if k = b then V c else V k ∧ k ≠ c
mutual
theorem mvR_ok {b c : Nat} : ∀ (r : RV) (x : Value), Rep V m g r x → Rep (movV b c V) (movM b c m) (movM b c g) (mvR b c r) x
  | .ptr y o, x, h => by
    unfold mvR
    split
    · rename_i e; obtain rfl := Nat.eq_of_beq_eq_true e
      simp only [Rep, movV, movM, if_true] at h ⊢; exact h
    · rename_i e; have e := Nat.ne_of_beq_eq_false e
      split
      · simp only [Rep]
      · rename_i e2; have e2 := Nat.ne_of_beq_eq_false e2
        simp only [Rep, movV, movM, if_neg e2] at h ⊢; exact ⟨⟨h.1, e⟩, h.2⟩
  | .slc y o l k, x, h => by
    unfold mvR
    split
    · rename_i e; obtain rfl := Nat.eq_of_beq_eq_true e
      cases k <;> (simp only [Rep, movV, movM, if_true] at h ⊢; exact h)
    · rename_i e; have e := Nat.ne_of_beq_eq_false e
      split
      · simp only [Rep]
      · rename_i e2; have e2 := Nat.ne_of_beq_eq_false e2
        cases k <;> (simp only [Rep, movV, movM, if_neg e2] at h ⊢; exact ⟨⟨h.1, e⟩, h.2⟩)
  | .osl y s l, x, h => by
    unfold mvR
    split
    · rename_i e; obtain rfl := Nat.eq_of_beq_eq_true e
      simp only [Rep, movV, movM, if_true] at h ⊢; exact h
    · rename_i e; have e := Nat.ne_of_beq_eq_false e
      split
      · simp only [Rep]
      · rename_i e2; have e2 := Nat.ne_of_beq_eq_false e2
        simp only [Rep, movV, movM, if_neg e2] at h ⊢; exact ⟨⟨h.1, e⟩, h.2⟩
  | .opt y n l i, x, h => by
    unfold mvR
    split
    · rename_i e; obtain rfl := Nat.eq_of_beq_eq_true e
      simp only [Rep, movV, movM, if_true] at h ⊢; exact h
    · rename_i e; have e := Nat.ne_of_beq_eq_false e
      split
      · simp only [Rep]
      · rename_i e2; have e2 := Nat.ne_of_beq_eq_false e2
        simp only [Rep, movV, movM, if_neg e2] at h ⊢; exact ⟨⟨h.1, e⟩, h.2⟩
  | .yld _, x, h => by unfold mvR; simp only [Rep]
  | .mp y, x, h => by
    unfold mvR
    split
    · rename_i e; obtain rfl := Nat.eq_of_beq_eq_true e
      simp only [Rep, movV, movM, if_true] at h ⊢; exact h
    · rename_i e; have e := Nat.ne_of_beq_eq_false e
      split
      · simp only [Rep]
      · rename_i e2; have e2 := Nat.ne_of_beq_eq_false e2
        simp only [Rep, movV, movM, if_neg e2] at h ⊢; exact ⟨⟨h.1, e⟩, h.2⟩
  | .agg l, x, h => by
    unfold mvR; simp only [Rep] at h ⊢
    obtain ⟨a, e, h⟩ := h
    exact ⟨a, e, mvL_ok l _ h⟩
  | .tup l, x, h => by
    unfold mvR; simp only [Rep] at h ⊢
    obtain ⟨a, e, h⟩ := h
    exact ⟨a, e, mvL_ok l _ h⟩
  | .fn f p q, x, h => by
    unfold mvR; simp only [Rep] at h ⊢
    obtain ⟨a, d, e, h1, h2⟩ := h
    exact ⟨a, d, e, mvL_ok p _ h1, mvL_ok q _ h2⟩
  | .unk, x, h => by unfold mvR; simp only [Rep]
  | .pl v, x, h => by unfold mvR; simp only [Rep] at h ⊢; exact h
  | .si k e, x, h => by unfold mvR; simp only [Rep] at h ⊢; exact h
  | .sb e, x, h => by unfold mvR; simp only [Rep] at h ⊢; exact h
  | .fsl i s o l, x, h => by unfold mvR; simp only [Rep] at h ⊢; exact h
  | .fpt i n e, x, h => by unfold mvR; simp only [Rep] at h ⊢; exact h
theorem mvL_ok {b c : Nat} : ∀ (l : List RV) (xs : List Value), RepL V m g l xs → RepL (movV b c V) (movM b c m) (movM b c g) (mvL b c l) xs
  | [], xs, h => by unfold mvL; simp only [RepL] at h ⊢; exact h
  | r :: rs, xs, h => by
    unfold mvL; simp only [RepL] at h ⊢
    obtain ⟨v, vs, e, h1, h2⟩ := h
    exact ⟨v, vs, e, mvR_ok r v h1, mvL_ok rs vs h2⟩
end
mutual
theorem rwR_ok {b sz n : Nat} (hg : V b → n ≤ g b) : ∀ (r : RV) (x : Value), Rep V m g r x → Rep V m g (rwR b sz n r) x
  | .ptr y o, x, h => by
    unfold rwR
    split
    · simp only [Rep]
    · exact h
  | .slc y o l k, x, h => by
    unfold rwR
    split
    · rename_i e; obtain rfl := Nat.eq_of_beq_eq_true e
      split
      · rename_i hq
        simp only [Bool.and_eq_true] at hq
        obtain ⟨⟨q1, q2⟩, q3⟩ := hq
        obtain rfl := Nat.eq_of_beq_eq_true q1
        obtain rfl := Nat.eq_of_beq_eq_true q2
        cases k with
        | some c => cases q3
        | none =>
          simp only [Rep] at h ⊢
          exact ⟨h.1, l, rfl, h.2.1, h.2.2⟩
      · simp only [Rep]
    · exact h
  | .osl y s l, x, h => by
    unfold rwR
    split
    · simp only [Rep]
    · exact h
  | .opt y n l i, x, h => by
    unfold rwR
    split
    · simp only [Rep]
    · exact h
  | .yld _, x, h => by unfold rwR; simp only [Rep]
  | .mp y, x, h => by
    unfold rwR
    split
    · simp only [Rep]
    · exact h
  | .agg l, x, h => by
    unfold rwR; simp only [Rep] at h ⊢
    obtain ⟨a, e, h⟩ := h
    exact ⟨a, e, rwL_ok hg l _ h⟩
  | .tup l, x, h => by
    unfold rwR; simp only [Rep] at h ⊢
    obtain ⟨a, e, h⟩ := h
    exact ⟨a, e, rwL_ok hg l _ h⟩
  | .fn f p q, x, h => by
    unfold rwR; simp only [Rep] at h ⊢
    obtain ⟨a, d, e, h1, h2⟩ := h
    exact ⟨a, d, e, rwL_ok hg p _ h1, rwL_ok hg q _ h2⟩
  | .unk, x, h => by unfold rwR; exact h
  | .pl v, x, h => by unfold rwR; exact h
  | .si k e, x, h => by unfold rwR; exact h
  | .sb e, x, h => by unfold rwR; exact h
  | .fsl i s o l, x, h => by unfold rwR; exact h
  | .fpt i n e, x, h => by unfold rwR; exact h
theorem rwL_ok {b sz n : Nat} (hg : V b → n ≤ g b) : ∀ (l : List RV) (xs : List Value), RepL V m g l xs → RepL V m g (rwL b sz n l) xs
  | [], xs, h => by unfold rwL; exact h
  | r :: rs, xs, h => by
    unfold rwL; simp only [RepL] at h ⊢
    obtain ⟨v, vs, e, h1, h2⟩ := h
    exact ⟨v, vs, e, rwR_ok hg r v h1, rwL_ok hg rs vs h2⟩
end
theorem rowGet_map {F : List RV → List RV} {f : RV → RV} (hF : ∀ r l, F (r :: l) = f r :: F l) (h0 : F [] = []) (hru : f ru = ru) : ∀ (l : List RV) (j : Nat), rowGet (F l) j = f (rowGet l j)
  | [], j => by rw [h0]; exact hru.symm
  | r :: l, 0 => by rw [hF]; rfl
  | r :: l, j + 1 => by rw [hF]; exact rowGet_map hF h0 hru l j
theorem rtGet_map {F : List RV → List RV} {f : RV → RV} (hF : ∀ r l, F (r :: l) = f r :: F l) (h0 : F [] = []) (hru : f ru = ru) : ∀ (t : RT) (i j : Nat), rtGet (t.map F) i j = f (rtGet t i j)
  | [], i, j => hru.symm
  | l :: t, 0, j => rowGet_map hF h0 hru l j
  | l :: t, i + 1, j => rtGet_map hF h0 hru t i j
theorem mapA_ok {F : List RV → List RV} {f : RV → RV} (hF : ∀ r l, F (r :: l) = f r :: F l) (h0 : F [] = []) (hru : f ru = ru) (hl : ∀ l, (F l).length = l.length) {a : RA} {A : Act} (hd : a.dfs = []) (hf : ∀ r x, Rep V m g r x → Rep V2 m2 g2 (f r) x) (h : RepA V m g a A) : RepA V2 m2 g2 (mapA F a) A := by
  obtain ⟨⟨⟨s1, s2⟩, s3, s4⟩, h2, h3⟩ := h
  refine ⟨⟨⟨fun l hm => ?_, by simpa [mapA] using s2⟩, s3, fun i => ?_⟩, ?_, fun d hd' => ?_⟩
  · simp only [mapA, List.mem_map] at hm
    obtain ⟨l0, hm, rfl⟩ := hm
    rw [hl]
    exact s1 l0 hm
  · simp only [mapA]
    rw [rtGet_map hF h0 hru]
    exact hf _ _ (s4 i)
  · simp only [mapA, hd] at h2 ⊢
    exact h2
  · simp only [mapA, hd] at hd'
    cases hd'
theorem mapH_at {F : List RV → List RV} {h : RH} (k : Nat) : (mapH F h).at? k = mapO F (h.at? k) := by
  by_cases hk : k < h.n
  · rw [at_lt hk, at_lt (h := mapH F h) hk]
    simp only [mapH, List.getElem?_map]
    cases h.bl[h.n - 1 - k]? with
    | none => rfl
    | some o => rfl
  · rw [at_ge hk, at_ge (h := mapH F h) hk]
    rfl
theorem mapH_sound {F : List RV → List RV} {h : RH} (hs : h.Sound) : (mapH F h).Sound := by unfold RH.Sound mapH at *; simpa using hs
theorem mapO_ok {F : List RV → List RV} (hl : ∀ l, (F l).length = l.length) (hf : ∀ l xs, RepL V m g l xs → RepL V2 m2 g2 (F l) xs) {k k2 : Nat} (hm : m2 k2 = m k) (hg : g2 k2 = g k) {o o' : RO} {w : World} (e : mapO F (some o) = some o') (h : ROk P V m g k o w) : ROk P V2 m2 g2 k2 o' w := by
  cases o with
  | cells l t gr =>
    cases e
    obtain ⟨c, y1, y2, y3, y4⟩ := h
    exact ⟨c, by rw [hm]; exact y1, by rw [hl]; exact y2, by rw [hl]; exact hf _ _ y3, by rw [hg]; exact y4⟩
  | row ar n t sz =>
    cases e
    obtain ⟨c, N, y1, y2, y3, y4, y5⟩ := h
    exact ⟨c, N, by rw [hm]; exact y1, y2, y3, y4, by rw [hg]; exact y5⟩
  | mpo es c => cases e; show w.heap[m2 k2]? = _; rw [hm]; exact h
  | loop _ _ _ _ _ _ _ _ => cases e
  | defd _ => cases e
theorem mapO_some {F : List RV → List RV} {x : Option RO} {o : RO} (h : mapO F x = some o) : ∃ o0, x = some o0 := by
  cases x with
  | none => cases h
  | some o0 => exact ⟨o0, rfl⟩
theorem mov_ok {b c : Nat} {a a' : RA} {h h' : RH} {A : Act} {W0 W : World} (he : prep1 P (.mov b c) a h = some (a', h')) (hs : St P W0 a h A W) : St P W0 a' h' A W := by
  simp only [prep1] at he
  split at he
  · rename_i hd
    split at he
    · rename_i hq
      cases he
      simp only [Bool.and_eq_true] at hq
      have hbc : b < c := Nat.le_of_ble_eq_true hq.1
      have hcn : c < h.n := Nat.le_of_ble_eq_true hq.2
      obtain ⟨V, m, g, ha, hw, hb⟩ := hs
      have hsnd := mapH_sound (F := mvL b c) hw.sound
      have hat : ∀ k, (((mapH (mvL b c) h).put b ((mapH (mvL b c) h).at? c)).put c none).at? k = if k = c then none else if k = b then mapO (mvL b c) (h.at? c) else mapO (mvL b c) (h.at? k) := fun k => by
        by_cases e : k = c
        · rw [if_pos e, e, put_at_same (put_sound hsnd _ _) hcn]
        · rw [if_neg e, put_at_other (h := (mapH (mvL b c) h).put b ((mapH (mvL b c) h).at? c)) hcn e]
          by_cases e2 : k = b
          · rw [if_pos e2, e2, put_at_same hsnd (Nat.lt_trans hbc hcn), mapH_at]
          · rw [if_neg e2, put_at_other (h := mapH (mvL b c) h) (Nat.lt_trans hbc hcn) e2, mapH_at]
      have old : ∀ k o, (if k = c then none else if k = b then mapO (mvL b c) (h.at? c) else mapO (mvL b c) (h.at? k)) = some o → ∃ k0 o0, h.at? k0 = some o0 ∧ mapO (mvL b c) (some o0) = some o ∧ k0 = (if k = b then c else k) ∧ k ≠ c := fun k o hk => by
        split at hk
        · cases hk
        · rename_i e
          split at hk
          · rename_i e2
            obtain ⟨o0, h0⟩ := mapO_some hk
            rw [h0] at hk
            exact ⟨c, o0, h0, hk, by rw [if_pos e2], e⟩
          · rename_i e2
            obtain ⟨o0, h0⟩ := mapO_some hk
            rw [h0] at hk
            exact ⟨k, o0, h0, hk, by rw [if_neg e2], e⟩
      refine ⟨movV b c V, movM b c m, movM b c g, mapA_ok (f := mvR b c) (fun r l => by rw [mvL]) (by rw [mvL]) (by unfold ru; rw [mvR]) (mvL_len b c) hd (fun r x hr => mvR_ok r x hr) ha, ⟨put_sound (put_sound hsnd _ _) _ _, fun k o hk => ?_, fun k1 k2 o1 o2 e1 e2 e => ?_, fun k hk => ?_, hw.far, fun k hk => ?_⟩, hb⟩
      · rw [hat] at hk
        obtain ⟨k0, o0, z1, z2, z3, z4⟩ := old k o hk
        obtain ⟨x1, x2⟩ := hw.live k0 o0 z1
        refine ⟨?_, mapO_ok (mvL_len b c) (fun l xs hl => mvL_ok l xs hl) (k := k0) ?_ ?_ z2 x2⟩
        · unfold movV
          split
          · rename_i e; rw [if_pos e] at z3; rw [← z3]; exact x1
          · rename_i e; rw [if_neg e] at z3; rw [← z3]; exact ⟨x1, by rw [z3]; exact z4⟩
        · unfold movM; rw [z3]; split <;> rfl
        · unfold movM; rw [z3]; split <;> rfl
      · rw [hat] at e1 e2
        obtain ⟨j1, p1, z1, _, z3, z4⟩ := old k1 o1 e1
        obtain ⟨j2, p2, y1, _, y3, y4⟩ := old k2 o2 e2
        have hj : j1 = j2 := by
          refine hw.inj j1 j2 _ _ z1 y1 ?_
          rw [z3, y3]
          unfold movM at e
          split at e <;> split at e <;> simp_all
        rw [z3, y3] at hj
        split at hj <;> split at hj <;> simp_all
      · show k < h.n
        unfold movV at hk
        split at hk
        · rename_i e; omega
        · exact hw.lt k hk.1
      · unfold movV at hk
        unfold movM
        split at hk
        · rename_i e; rw [if_pos e]; exact hw.low c hk
        · rename_i e; rw [if_neg e]; exact hw.low k hk.1
    · cases he
  · cases he
theorem rowE_ok : ∀ (l : List RV) (j0 : Nat) (a ar : SE) (xs : List Value), rowE l (j0 : Int) a = some ar → RepL V m g l xs → ∀ j : Nat, (j < j0 → ar.ev.a (j : Int) = a.ev.a (j : Int)) ∧ (j < l.length → xs[j]? = some (.int .i64 (ar.ev.a ((j0 + j : Nat) : Int))))
  | [], j0, a, ar, xs, he, _, j => by
    simp only [rowE, Option.some.injEq] at he
    subst he
    exact ⟨fun _ => rfl, fun hj => by simp at hj⟩
  | r :: l, j0, a, ar, xs, he, hx, j => by
    simp only [rowE] at he
    split at he
    · rename_i e hse
      obtain ⟨v, vs, rfl, hv, hvs⟩ := repL_cons.1 hx
      obtain rfl := sI_rep hse hv
      have he' : rowE l ((j0 + 1 : Nat) : Int) (.upd a (.lit (j0 : Int)) e) = some ar := by rw [← he]; rfl
      have ih := rowE_ok l (j0 + 1) _ ar vs he' hvs
      refine ⟨fun hj => ?_, fun hj => ?_⟩
      · rw [(ih j).1 (by omega)]
        show (if (j : Int) = (j0 : Int) then e.ev.i else a.ev.a (j : Int)) = _
        rw [if_neg (by omega)]
      · match j with
        | 0 =>
          have : ar.ev.a (j0 : Int) = e.ev.i := by
            rw [(ih j0).1 (by omega)]
            show (if (j0 : Int) = (j0 : Int) then e.ev.i else a.ev.a (j0 : Int)) = _
            rw [if_pos rfl]
          simp [this]
        | i + 1 =>
          have := (ih i).2 (by simpa using hj)
          rw [List.getElem?_cons_succ, this, show j0 + 1 + i = j0 + (i + 1) by omega]
    · cases he
theorem row_ok {b sz n : Nat} {a a' : RA} {h h' : RH} {A : Act} {W0 W : World} (he : prep1 P (.row b sz n) a h = some (a', h')) (hs : St P W0 a h A W) : St P W0 a' h' A W := by
  simp only [prep1] at he
  split at he
  · rename_i hd
    split at he
    · rename_i l t hat
      split at he
      · rename_i ar har
        split at he
        · rename_i s hsz
          split at he
          · rename_i hq
            cases he
            simp only [Bool.and_eq_true] at hq
            obtain ⟨⟨q1, q2⟩, q3⟩ := hq
            obtain rfl := Nat.eq_of_beq_eq_true q1
            have hln := Nat.eq_of_beq_eq_true q2
            have q3 : 0 < s := Nat.le_of_ble_eq_true q3
            obtain ⟨V, m, g, ha, hw, hb⟩ := hs
            have hbn := at_some_lt hat
            obtain ⟨hvb, c, c1, c2, c3, c4⟩ := hw.live b _ hat
            obtain ⟨s', hs', c5⟩ := c4 rfl
            rw [hsz] at hs'
            cases hs'
            have hn : n ≤ g b := by
              rw [hln, c5] at c2
              exact Nat.le_of_mul_le_mul_right c2 q3
            have hsnd := mapH_sound (F := rwL b s n) hw.sound
            have hatn : ∀ k, ((mapH (rwL b s n) h).put b (some (.row ar (.lit (.ofNat n)) t s))).at? k = if k = b then some (.row ar (.lit (.ofNat n)) t s) else mapO (rwL b s n) (h.at? k) := fun k => by
              by_cases e2 : k = b
              · rw [if_pos e2, e2, put_at_same hsnd hbn]
              · rw [if_neg e2, put_at_other (h := mapH (rwL b s n) h) hbn e2, mapH_at]
            have live : ∀ k o, ((mapH (rwL b s n) h).put b (some (.row ar (.lit (.ofNat n)) t s))).at? k = some o → ∃ o0, h.at? k = some o0 ∧ ROk P V m g k o W := fun k o hk => by
              rw [hatn] at hk
              split at hk
              · rename_i e
                subst e
                cases hk
                refine ⟨_, hat, c, n, c1, rfl, by rw [← hln]; exact c2, fun j hj => ?_, c5⟩
                have := (rowE_ok (V := V) (m := m) (g := g) l 0 _ ar _ har c3 j).2 (by omega)
                rw [List.getElem?_take, if_pos (by omega), Array.getElem?_toList] at this
                rw [this, Nat.zero_add]
              · obtain ⟨o0, h0⟩ := mapO_some hk
                rw [h0] at hk
                exact ⟨o0, h0, mapO_ok (rwL_len b s n) (fun l xs hl => rwL_ok (fun _ => hn) l xs hl) rfl rfl hk (hw.live k o0 h0).2⟩
            refine ⟨V, m, g, mapA_ok (f := rwR b s n) (fun r l => by rw [rwL]) (by rw [rwL]) (by unfold ru; rw [rwR]) (rwL_len b s n) hd (fun r x hr => rwR_ok (fun _ => hn) r x hr) ha, ⟨put_sound hsnd _ _, fun k o hk => ?_, fun k1 k2 o1 o2 e1 e2 e => ?_, fun k hk => hw.lt k hk, hw.far, hw.low⟩, hb⟩
            · obtain ⟨o0, z1, z2⟩ := live k o hk
              exact ⟨(hw.live k o0 z1).1, z2⟩
            · obtain ⟨_, z1, _⟩ := live k1 o1 e1
              obtain ⟨_, z2, _⟩ := live k2 o2 e2
              exact hw.inj k1 k2 _ _ z1 z2 e
          · cases he
        · cases he
      · cases he
    · cases he
  · cases he
theorem prep_ok : ∀ (l : List Pr) {a a' : RA} {h h' : RH} {A : Act} {W0 W : World}, prep P l a h = some (a', h') → St P W0 a h A W → St P W0 a' h' A W
  | [], _, _, _, _, _, _, _, he, hs => by cases he; exact hs
  | p :: l, a, a', h, h', A, W0, W, he, hs => by
    simp only [prep] at he
    split at he
    · rename_i a1 h1 e1
      refine prep_ok l he ?_
      cases p with
      | mov b c => exact mov_ok e1 hs
      | row b sz n => exact row_ok e1 hs
    · cases he
end

/-! loops with several heads -/
section
variable {P : Program} {W0 : World} {n : Nat} {Q : Exit → Act → World → Prop}
/-- a loop: what holds ahead of each round, in which state -/
theorem loop_okS {c : Code} (Inv : Rho → RA → RH → Prop) (μ : Rho → Nat)
    (round : ∀ ρ a h, Inv ρ a h → ∀ A W, @St ρ P W0 a h A W → c.wpIn (fen none) n P (fun e A' W' => match e with | .normal => ∃ ρ' a' h', Inv ρ' a' h' ∧ μ ρ' < μ ρ ∧ @St ρ' P W0 a' h' A' W' | e => Q e A' W') A W) :
    ∀ ρ a h, Inv ρ a h → ∀ A W, @St ρ P W0 a h A W → (Code.loop c).wpIn (fen none) n P Q A W := by
  have inl : ∀ (k : Nat) ρ a h, μ ρ < k → Inv ρ a h → ∀ A W, @St ρ P W0 a h A W → c.wpIn (fen none) n P (Exit.then (InLoop (fen none) n P c Q) Q) A W := by
    intro k
    induction k with
    | zero => intro ρ a h hk; omega
    | succ k ih =>
      intro ρ a h hk hI A W hs
      refine wpIn_mono (round ρ a h hI A W hs) fun e A' W' hq => ?_
      cases e with
      | normal =>
        obtain ⟨ρ', a', h', h1, h2, h3⟩ := hq
        exact inLoop_wp (ih ρ' a' h' (by omega) h1 A' W' h3)
      | exit id => exact hq
      | goto l => exact hq
      | ret => exact hq
      | panic ch => exact hq
      | outgrown => exact hq
  exact fun ρ a h hI A W hs => loop_wp (inl (μ ρ + 1) ρ a h (by omega) hI A W hs)
end
section
variable {P : Program} {K : Know} {D : SE → Option Bool} {W0 W : World} {n : Nat} {Q : Exit → Act → World → Prop} {a : RA} {h : RH} {A : Act} {res : Res}
/-- the same as enterD, againD, behind a change of what is known -/
def enterP (P : Program) (l : List Pr) (B : Nat) (a' : RA) (h' : RH) : Res → Option (List Du)
  | .loop _ _ a h => match prep P l a h with | some (a1, h1) => cvS B a1 h1 a' h' | none => none
  | _ => none
def againP (P : Program) (l : List Pr) (B : Nat) (a' : RA) (h' : RH) : Rnd → Option (List Du)
  | .again a h => match prep P l a h with | some (a1, h1) => cvS B a1 h1 a' h' | none => none
  | .out _ => none
theorem enter_runP {ρ' : Rho} [ρ : Rho] {l : List Pr} {B : Nat} {a' : RA} {h' : RH} {ds : List Du} {c : Code} {k : List Fr} (hl : enterP P l B a' h' res = some ds) (hc : res.c = c) (hkk : res.k = k) (ha : Agree B ρ ρ') (hd : AllDu ρ ρ' ds)
    (hk : ∀ A W, @St ρ' P W0 a' h' A W → (Code.loop c).wpIn (fen none) n P (Unw P n Q k) A W) : ResO P n Q W0 res := by
  refine ⟨?_⟩
  subst hc hkk
  cases res with
  | loop c k a h =>
    simp only [enterP] at hl
    split at hl
    · rename_i a1 h1 hp
      exact fun A W hs => hk A W (st_cv ha hl hd (prep_ok l hp hs))
    · cases hl
  | fin e a h => cases hl
  | no => cases hl
theorem again_runP {ρ' : Rho} [ρ : Rho] {l : List Pr} {B : Nat} {a' : RA} {h' : RH} {ds : List Du} {fl : List Bool} {c : Code} {k : List Fr} {G : Act → World → Prop} (hm : P.follows .mixedOrders = true) (hK : KOk P K) (hD : DOk D) (hl : againP P l B a' h' (roundR P K D fl c k a h) = some ds) (ha : Agree B ρ ρ') (hd : AllDu ρ ρ' ds)
    (hs : St P W0 a h A W) (hk : ∀ A W, @St ρ' P W0 a' h' A W → G A W) : c.wpIn (fen none) n P (fun e A' W' => match e with | .normal => G A' W' | e => Unw P n Q k e A' W') A W := by
  refine code_run (fl := fl) hm hK hD hs ?_
  unfold roundR at hl
  cases hr : codeR P K D fl c a h with
  | fin e a1 h1 =>
    rw [hr] at hl
    cases e with
    | normal =>
      simp only [againP] at hl
      split at hl
      · rename_i a2 h2 hp
        exact fun A W hs => hk A W (st_cv ha hl hd (prep_ok l hp hs))
      · cases hl
    | exit id => cases hl
    | goto l => cases hl
    | ret => cases hl
    | panic ch => cases hl
    | outgrown => cases hl
  | loop c k a h => rw [hr] at hl; cases hl
  | no => rw [hr] at hl; cases hl
end
end Go.Proofs.Ytmglofemnobakaa
