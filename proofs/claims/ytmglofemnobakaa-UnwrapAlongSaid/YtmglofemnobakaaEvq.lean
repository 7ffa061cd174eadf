/- Calls reckoned: the operations that call nothing, the second half. -/
import Derived.Test.YtmglofemnobakaaEvo
namespace Go.Proofs.Ytmglofemnobakaa
open Go.RowKit

section
variable {P : Program} {V : Nat → Prop} {m g : Nat → Nat} {h h' : RH} {w w' : World} {ρ : Operand → RV} {ρ' : Operand → Value} {o : Oper} {r : RV} {v : Value}

theorem field_ok [Rho] {t : TypeId} {xo : Operand} {f : Nat} (ho : o.op = .field t xo f) (he : evField P o ρ t (ρ xo) f h = some (r, h')) (hw : RepW P V m g h w) (hρ : ∀ x ∈ o.op.operands, Rep V m g (ρ x) (ρ' x)) :
    ∃ v w', Gives P (execOp ρ' o) w v w' ∧ Good P V m g h w r h' v w' := by
  have hx := hρ xo (by rw [ho]; simp [Op.operands])
  unfold evField at he
  split at he
  · rename_i l hl
    rw [hl] at hx
    split at he
    · rename_i fd hfd
      cases hp : partD P fd.type l fd.offset with
      | none => rw [hp] at he; cases he
      | some r1 =>
        rw [hp] at he
        simp only [Option.map_some, Option.some.injEq, Prod.mk.injEq] at he
        obtain ⟨rfl, rfl⟩ := he
        obtain ⟨fs, hu, hf⟩ := fieldD_under hfd
        simp only [Rep] at hx
        obtain ⟨a, e, ha⟩ := hx
        obtain ⟨v, h1, h2⟩ := partD_run hp ha w
        exact ⟨v, w, .inl (by simp only [execOp, ho]; simp [Instr.field, run_underlying hu, hf, e, asAgg, h1]), good_same hw h2⟩
    · cases he
  · exact plain_ok (by rw [ho]; intro _ _ e; cases e) he hw hρ
theorem index_ok [Rho] {t : TypeId} {xo io : Operand} (ho : o.op = .index t xo io) (he : evIndex P o ρ t (ρ xo) (ρ io) h = some (r, h')) (hw : RepW P V m g h w) (hρ : ∀ x ∈ o.op.operands, Rep V m g (ρ x) (ρ' x)) :
    ∃ v w', Gives P (execOp ρ' o) w v w' ∧ Good P V m g h w r h' v w' := by
  have hx := hρ xo (by rw [ho]; simp [Op.operands])
  have hi := hρ io (by rw [ho]; simp [Op.operands])
  unfold evIndex at he
  split at he
  · rename_i l hl
    rw [hl] at hx
    split at he
    · rename_i k hk
      split at he
      · rename_i len elem hel
        split at he
        · rename_i hlt
          have hlt : k < len := by simpa [Nat.blt_eq] using hlt
          cases hz : sizeD P elem with
          | none => rw [hz] at he; cases he
          | some size =>
            rw [hz] at he
            simp only [Option.bind_some] at he
            cases hp : partD P elem l (k * size) with
            | none => rw [hp] at he; cases he
            | some r1 =>
              rw [hp] at he
              simp only [Option.map_some, Option.some.injEq, Prod.mk.injEq] at he
              obtain ⟨rfl, rfl⟩ := he
              simp only [Rep] at hx
              obtain ⟨a, e, ha⟩ := hx
              obtain ⟨kd, ei⟩ := intD_natD hk hi
              obtain ⟨v, h1, h2⟩ := partD_run hp ha w
              have hu := arrayD_under hel
              have h0 : (0 : Int) ≤ (k : Int) ∧ (k : Int) < (len : Int) := by omega
              refine ⟨v, w, .inl ?_, good_same hw h2⟩
              simp only [execOp, ho]
              simp [Instr.index, run_underlying hu, e, ei, asIntOf, h0, sizeD_run hz, h1]
              intro hge
              omega
        · cases he
      · cases he
    · cases he
  · exact plain_ok (by rw [ho]; intro _ _ e; cases e) he hw hρ
theorem extract_ok [Rho] {xo : Operand} {i : Nat} (ho : o.op = .extract xo i) (he : evExtract P o ρ (ρ xo) i h = some (r, h')) (hw : RepW P V m g h w) (hρ : ∀ x ∈ o.op.operands, Rep V m g (ρ x) (ρ' x)) :
    ∃ v w', Gives P (execOp ρ' o) w v w' ∧ Good P V m g h w r h' v w' := by
  have hx := hρ xo (by rw [ho]; simp [Op.operands])
  unfold evExtract at he
  split at he
  · rename_i l hl
    rw [hl] at hx
    cases hp : l[i]? with
    | none => rw [hp] at he; cases he
    | some r1 =>
      rw [hp] at he
      simp only [Option.map_some, Option.some.injEq, Prod.mk.injEq] at he
      obtain ⟨rfl, rfl⟩ := he
      simp only [Rep] at hx
      obtain ⟨a, e, ha⟩ := hx
      obtain ⟨v, h1, h2⟩ := repL_get ha hp
      have : a[i]? = some v := by simpa using h1
      exact ⟨v, w, .inl (by simp only [execOp, ho]; simp [Instr.extract, e, this]), good_same hw h2⟩
  · exact plain_ok (by rw [ho]; intro _ _ e; cases e) he hw hρ
theorem repL_map [Rho] (xs : List Operand) (hρ : ∀ x ∈ xs, Rep V m g (ρ x) (ρ' x)) : RepL V m g (xs.map ρ) (xs.map ρ') := by
  induction xs with
  | nil => simp [RepL]
  | cons y ys ih => exact repL_cons'.2 ⟨hρ y (List.mem_cons_self ..), ih fun x hx => hρ x (List.mem_cons_of_mem _ hx)⟩
theorem makeFunc_ok [Rho] {f : Fn} {first captured : Array Operand} (ho : o.op = .makeFunc f first captured) (he : evMakeFunc ρ f first.toList captured.toList h = some (r, h')) (hw : RepW P V m g h w) (hρ : ∀ x ∈ o.op.operands, Rep V m g (ρ x) (ρ' x)) :
    ∃ v w', Gives P (execOp ρ' o) w v w' ∧ Good P V m g h w r h' v w' := by
  unfold evMakeFunc at he
  split at he
  · rename_i k
    cases he
    refine ⟨_, w, .inl (by simp only [execOp, ho]; simp [Instr.makeFunc]; rfl), good_same hw ?_⟩
    simp only [Rep]
    refine ⟨_, _, rfl, ?_, ?_⟩
    · have := repL_map first.toList (fun x hx => hρ x (by rw [ho]; simp [Op.operands]; exact .inl (by simpa using hx)))
      simpa using this
    · have := repL_map captured.toList (fun x hx => hρ x (by rw [ho]; simp [Op.operands]; exact .inr (by simpa using hx)))
      simpa using this
  · cases he
theorem boundD_run [Rho] {n hi b : Nat} {x : Option RV} {x' : Option Value} {code : BoundsCode} (hb : boundD n hi x = some b) (hx : ∀ r, x = some r → ∃ u, x' = some u ∧ Rep V m g r u) (hn : x = none → x' = none) (w : World) :
    (x' = none ∧ b = n) ∨ (b ≤ hi ∧ ∃ u, x' = some u ∧ ∀ hi', hi ≤ hi' → (Instr.sliceBound u hi' code).run P w = .ok b w) := by
  unfold boundD at hb
  split at hb
  · cases hb
    exact .inl ⟨hn rfl, rfl⟩
  · rename_i r
    split at hb
    · rename_i i hi'
      split at hb
      · rename_i hle
        simp only [Option.some.injEq] at hb
        subst hb
        have hle := Nat.le_of_ble_eq_true hle
        obtain ⟨u, e1, e2⟩ := hx r rfl
        obtain ⟨kd, rfl⟩ := intD_natD hi' e2
        refine .inr ⟨hle, _, e1, fun top ht => ?_⟩
        have h0 : (0 : Int) ≤ (i : Int) ∧ (i : Int) ≤ (top : Int) := by omega
        simp only [Instr.sliceBound, asIntOf, Sem.run_bind, Sem.run_pure, Result.andThen_ok, if_pos h0]
        rfl
      · cases hb
    · cases hb
theorem sliceBounds_run {len cap h1 l1 : Nat} {L H : Option Value} (hh : (H = none ∧ h1 = len) ∨ ∃ u, H = some u ∧ (Instr.sliceBound u cap .sliceAcap).run P w = .ok h1 w) (hl : (L = none ∧ l1 = 0) ∨ ∃ u, L = some u ∧ (Instr.sliceBound u h1 .sliceB).run P w = .ok l1 w) :
    (Instr.sliceBounds true len cap L H none).run P w = .ok (l1, h1, cap) w := by
  rcases hh with ⟨rfl, rfl⟩ | ⟨u, rfl, e⟩
  · rcases hl with ⟨rfl, rfl⟩ | ⟨u', rfl, e'⟩
    · simp [Instr.sliceBounds]
    · simp [Instr.sliceBounds, e']
  · rcases hl with ⟨rfl, rfl⟩ | ⟨u', rfl, e'⟩
    · simp [Instr.sliceBounds, e]
    · simp [Instr.sliceBounds, e, e']
theorem sliceBounds_runA {len h1 l1 : Nat} {L H : Option Value} (hh : (H = none ∧ h1 = len) ∨ ∃ u, H = some u ∧ (Instr.sliceBound u len .sliceAlen).run P w = .ok h1 w) (hl : (L = none ∧ l1 = 0) ∨ ∃ u, L = some u ∧ (Instr.sliceBound u h1 .sliceB).run P w = .ok l1 w) :
    (Instr.sliceBounds false len len L H none).run P w = .ok (l1, h1, len) w := by
  rcases hh with ⟨rfl, rfl⟩ | ⟨u, rfl, e⟩
  · rcases hl with ⟨rfl, rfl⟩ | ⟨u', rfl, e'⟩
    · simp [Instr.sliceBounds]
    · simp [Instr.sliceBounds, e']
  · rcases hl with ⟨rfl, rfl⟩ | ⟨u', rfl, e'⟩
    · simp [Instr.sliceBounds, e]
    · simp [Instr.sliceBounds, e, e']
theorem slice_ok [Rho] {t : TypeId} {xo : Operand} {lo hi mx : Option Operand} (ho : o.op = .slice t xo lo hi mx) (he : evSlice P o ρ t (ρ xo) (lo.map ρ) (hi.map ρ) mx h = some (r, h')) (hw : RepW P V m g h w) (hρ : ∀ x ∈ o.op.operands, Rep V m g (ρ x) (ρ' x)) :
    ∃ v w', Gives P (execOp ρ' o) w v w' ∧ Good P V m g h w r h' v w' := by
  have hx := hρ xo (by rw [ho]; simp [Op.operands])
  have hlo : ∀ r, lo.map ρ = some r → ∃ u, lo.map ρ' = some u ∧ Rep V m g r u := fun r hr => by
    cases lo with
    | none => cases hr
    | some y => simp at hr; subst hr; exact ⟨_, rfl, hρ y (by rw [ho]; simp [Op.operands])⟩
  have hhi : ∀ r, hi.map ρ = some r → ∃ u, hi.map ρ' = some u ∧ Rep V m g r u := fun r hr => by
    cases hi with
    | none => cases hr
    | some y => simp at hr; subst hr; exact ⟨_, rfl, hρ y (by rw [ho]; simp [Op.operands])⟩
  have hln : lo.map ρ = none → lo.map ρ' = none := by cases lo <;> simp
  have hhn : hi.map ρ = none → hi.map ρ' = none := by cases hi <;> simp
  have hadd : ∀ (b off n : Nat), (⟨b, off, none⟩ : Addr).add n = ⟨b, off + n, none⟩ := fun b off n => by unfold Addr.add; split <;> simp_all
  unfold evSlice at he
  split at he
  · rename_i b off len c hl
    rw [hl] at hx
    split at he
    · rename_i hmx
      split at he
      · rename_i elem hel
        have hu := elemD_under hel
        cases hz : sizeD P elem with
        | none => rw [hz] at he; cases he
        | some size =>
          rw [hz] at he
          simp only [Option.bind_some] at he
          cases hb1 : boundD len c (hi.map ρ) with
          | none => rw [hb1] at he; cases he
          | some h1 =>
            rw [hb1] at he
            simp only [Option.bind_some] at he
            cases hb2 : boundD 0 h1 (lo.map ρ) with
            | none => rw [hb2] at he; cases he
            | some l1 =>
              rw [hb2] at he
              simp only [Option.map_some, Option.some.injEq, Prod.mk.injEq] at he
              obtain ⟨rfl, rfl⟩ := he
              simp only [Rep] at hx
              have hbounds : (Instr.sliceBounds true len c (lo.map ρ') (hi.map ρ') none).run P w = .ok (l1, h1, c) w :=
                sliceBounds_run ((boundD_run (P := P) (code := .sliceAcap) hb1 hhi hhn w).imp id fun ⟨_, u, e1, e2⟩ => ⟨u, e1, e2 c (Nat.le_refl _)⟩)
                  ((boundD_run (P := P) (code := .sliceB) hb2 hlo hln w).imp id fun ⟨_, u, e1, e2⟩ => ⟨u, e1, e2 h1 (Nat.le_refl _)⟩)
              by_cases hcl : c = l1
              · refine ⟨.slice (some ⟨m b, off, none⟩) (h1 - l1) (c - l1), w, .inl ?_, good_same hw ?_⟩
                · simp only [execOp, ho, Instr.sliceAt, Instr.slice, hx.2]
                  simp only [Sem.run_bind, run_underlying hu, Result.andThen_ok, Option.map_none, hbounds, sizeD_run hz, Sem.run_pure, if_pos hcl]
                · have : Nat.beq c l1 = true := by rw [hcl]; exact Nat.beq_refl l1
                  simp only [sliceIn, this, Rep]
                  exact ⟨hx.1, trivial⟩
              · refine ⟨.slice (some ⟨m b, off + l1 * size, none⟩) (h1 - l1) (c - l1), w, .inl ?_, good_same hw ?_⟩
                · simp only [execOp, ho, Instr.sliceAt, Instr.slice, hx.2]
                  simp only [Sem.run_bind, run_underlying hu, Result.andThen_ok, Option.map_none, hbounds, sizeD_run hz, Sem.run_pure, if_neg hcl, Option.map_some, hadd]
                · have : Nat.beq c l1 = false := by
                    cases hq : Nat.beq c l1 with
                    | false => rfl
                    | true => exact absurd (Nat.eq_of_beq_eq_true hq) hcl
                  simp only [sliceIn, this, Rep]
                  exact ⟨hx.1, trivial⟩
      · cases he
    · cases he
  · rename_i b off len hl
    rw [hl] at hx
    split at he
    · rename_i hlo0
      split at he
      · rename_i elem hel
        have hu := elemD_under hel
        cases hz : sizeD P elem with
        | none => rw [hz] at he; cases he
        | some size =>
        rw [hz] at he
        simp only [Option.bind_some] at he
        cases hb1 : boundD len len (hi.map ρ) with
        | none => rw [hb1] at he; cases he
        | some h1 =>
          rw [hb1] at he
          simp only [Option.map_some, Option.some.injEq, Prod.mk.injEq] at he
          obtain ⟨rfl, rfl⟩ := he
          simp only [Rep] at hx
          have hle : h1 ≤ len := by
            rcases boundD_run (P := P) (code := .sliceAcap) hb1 hhi hhn w with ⟨_, e2⟩ | ⟨e2, _⟩ <;> omega
          have hbounds : (Instr.sliceBounds true len (g b) none (hi.map ρ') none).run P w = .ok (0, h1, g b) w :=
            sliceBounds_run ((boundD_run (P := P) (code := .sliceAcap) hb1 hhi hhn w).imp id fun ⟨_, u, e1, e2⟩ => ⟨u, e1, e2 (g b) hx.2.1⟩) (.inl ⟨rfl, rfl⟩)
          have hloe : lo = none := by cases lo <;> simp at hlo0 ⊢
          subst hloe
          refine ⟨.slice (some ⟨m b, off, none⟩) h1 (g b), w, .inl ?_, good_same hw ?_⟩
          · simp only [execOp, ho, Instr.sliceAt, Instr.slice, hx.2.2]
            simp only [Sem.run_bind, run_underlying hu, Result.andThen_ok, Option.map_none, hbounds, sizeD_run hz]
            by_cases hg0 : g b = 0
            · simp [hg0]
            · simp [hg0, Addr.add]
          · simp only [Rep]
            exact ⟨hx.1, by omega, trivial⟩
      · cases he
    · cases he
  · rename_i b off hl
    rw [hl] at hx
    split at he
    · rename_i hmx
      split at he
      · rename_i c elem hpa
        unfold ptrArr at hpa
        split at hpa
        · rename_i arr hu
          have hua := arrayD_under hpa
          cases hz : sizeD P elem with
          | none => rw [hz] at he; cases he
          | some size =>
            rw [hz] at he
            simp only [Option.bind_some] at he
            cases hb1 : boundD c c (hi.map ρ) with
            | none => rw [hb1] at he; cases he
            | some h1 =>
              rw [hb1] at he
              simp only [Option.bind_some] at he
              cases hb2 : boundD 0 h1 (lo.map ρ) with
              | none => rw [hb2] at he; cases he
              | some l1 =>
                rw [hb2] at he
                simp only [Option.map_some, Option.some.injEq, Prod.mk.injEq] at he
                obtain ⟨rfl, rfl⟩ := he
                simp only [Rep] at hx
                have hbounds : (Instr.sliceBounds false c c (lo.map ρ') (hi.map ρ') none).run P w = .ok (l1, h1, c) w :=
                  sliceBounds_runA ((boundD_run (P := P) (code := .sliceAlen) hb1 hhi hhn w).imp id fun ⟨_, u, e1, e2⟩ => ⟨u, e1, e2 c (Nat.le_refl _)⟩)
                    ((boundD_run (P := P) (code := .sliceB) hb2 hlo hln w).imp id fun ⟨_, u, e1, e2⟩ => ⟨u, e1, e2 h1 (Nat.le_refl _)⟩)
                by_cases hcl : c = l1
                · refine ⟨.slice (some ⟨m b, off, none⟩) (h1 - l1) (c - l1), w, .inl ?_, good_same hw ?_⟩
                  · simp only [execOp, ho, Instr.sliceAt, Instr.slice, hx.2]
                    simp only [Sem.run_bind, run_underlying hu, run_underlying hua, Result.andThen_ok, asAddr, Option.map_none, hbounds, sizeD_run hz, Sem.run_pure, if_pos hcl]
                  · have : Nat.beq c l1 = true := by rw [hcl]; exact Nat.beq_refl l1
                    simp only [sliceIn, this, Rep]
                    exact ⟨hx.1, trivial⟩
                · refine ⟨.slice (some ⟨m b, off + l1 * size, none⟩) (h1 - l1) (c - l1), w, .inl ?_, good_same hw ?_⟩
                  · simp only [execOp, ho, Instr.sliceAt, Instr.slice, hx.2]
                    simp only [Sem.run_bind, run_underlying hu, run_underlying hua, Result.andThen_ok, asAddr, Option.map_none, hbounds, sizeD_run hz, Sem.run_pure, if_neg hcl, hadd]
                  · have : Nat.beq c l1 = false := by
                      cases hq : Nat.beq c l1 with
                      | false => rfl
                      | true => exact absurd (Nat.eq_of_beq_eq_true hq) hcl
                    simp only [sliceIn, this, Rep]
                    exact ⟨hx.1, trivial⟩
        · rename_i n0 e0 hu
          cases hpa
          cases hz : sizeD P elem with
          | none => rw [hz] at he; cases he
          | some size =>
            rw [hz] at he
            simp only [Option.bind_some] at he
            cases hb1 : boundD c c (hi.map ρ) with
            | none => rw [hb1] at he; cases he
            | some h1 =>
              rw [hb1] at he
              simp only [Option.bind_some] at he
              cases hb2 : boundD 0 h1 (lo.map ρ) with
              | none => rw [hb2] at he; cases he
              | some l1 =>
                rw [hb2] at he
                simp only [Option.map_some, Option.some.injEq, Prod.mk.injEq] at he
                obtain ⟨rfl, rfl⟩ := he
                simp only [Rep] at hx
                have hbounds : (Instr.sliceBounds false c c (lo.map ρ') (hi.map ρ') none).run P w = .ok (l1, h1, c) w :=
                  sliceBounds_runA ((boundD_run (P := P) (code := .sliceAlen) hb1 hhi hhn w).imp id fun ⟨_, u, e1, e2⟩ => ⟨u, e1, e2 c (Nat.le_refl _)⟩)
                    ((boundD_run (P := P) (code := .sliceB) hb2 hlo hln w).imp id fun ⟨_, u, e1, e2⟩ => ⟨u, e1, e2 h1 (Nat.le_refl _)⟩)
                by_cases hcl : c = l1
                · refine ⟨.slice (some ⟨m b, off, none⟩) (h1 - l1) (c - l1), w, .inl ?_, good_same hw ?_⟩
                  · simp only [execOp, ho, Instr.sliceAt, Instr.slice, hx.2]
                    simp only [Sem.run_bind, run_underlying hu, Result.andThen_ok, Instr.sureAddr, Option.map_none, hbounds, sizeD_run hz, Sem.run_pure, if_pos hcl]
                  · have : Nat.beq c l1 = true := by rw [hcl]; exact Nat.beq_refl l1
                    simp only [sliceIn, this, Rep]
                    exact ⟨hx.1, trivial⟩
                · refine ⟨.slice (some ⟨m b, off + l1 * size, none⟩) (h1 - l1) (c - l1), w, .inl ?_, good_same hw ?_⟩
                  · simp only [execOp, ho, Instr.sliceAt, Instr.slice, hx.2]
                    simp only [Sem.run_bind, run_underlying hu, Result.andThen_ok, Instr.sureAddr, Option.map_none, hbounds, sizeD_run hz, Sem.run_pure, if_neg hcl, hadd]
                  · have : Nat.beq c l1 = false := by
                      cases hq : Nat.beq c l1 with
                      | false => rfl
                      | true => exact absurd (Nat.eq_of_beq_eq_true hq) hcl
                    simp only [sliceIn, this, Rep]
                    exact ⟨hx.1, trivial⟩
        · cases hpa
      · cases he
    · cases he
  · exact plain_ok (by rw [ho]; intro _ _ e; cases e) he hw hρ
theorem intOp_run {op : BinOp} {k : IntKind} {a b : Int} {v : Value} (he : intOp op k a b = some v) (t : TypeId) (w : World) : (binOp op t (.int k a) (.int k b)).run P w = .ok v w := by
  cases op <;> simp only [intOp, Option.some.injEq] at he <;> first | cases he; done | (subst he; simp [binOp, Op.intArith, Op.intCmp])
theorem symOp_rep [Rho] {D : SE → Option Bool} (hD : DOk D) {op : BinOp} {k : IntKind} {a b : SE} (he : symOp D op k a b = some r) (t : TypeId) (w : World) : ∃ v, (binOp op t (.int k a.ev.i) (.int k b.ev.i)).run P w = .ok v w ∧ Rep V m g r v := by
  have nots : ∀ (x y : Int), (!decide (x ≤ y)) = decide (y < x) := fun x y => by
    by_cases h : x ≤ y
    · have h2 : ¬ y < x := by omega
      simp [h, h2]
    · have h2 : y < x := by omega
      simp [h, h2]
  have nz : ∀ {x : Bool}, askD D (mkEq b (.lit 0)) = some x → x = false → ¬ b.ev.i = 0 := fun {x} h hx => by
    have := askD_ok hD _ _ h
    rw [mkEq_ev, hx] at this
    exact of_decide_eq_false this
  by_cases hop : op = .quo ∨ op = .rem
  · rcases hop with rfl | rfl
    · simp only [symOp] at he
      split at he
      · rename_i hq
        have hz := nz hq rfl
        have hf := fit_rep (V := V) (m := m) (g := g) hD he
        rw [mkQuo_ev] at hf
        exact ⟨_, by simp only [binOp, Op.intDiv, ne_eq, not_true_eq_false, if_false, if_neg hz, Sem.run_pure], hf⟩
      · cases he
    · simp only [symOp] at he
      split at he
      · rename_i hq
        have hz := nz hq rfl
        cases he
        refine ⟨_, by simp only [binOp, Op.intDiv, ne_eq, not_true_eq_false, if_false, if_neg hz, Sem.run_pure] <;> rfl, ?_⟩
        rw [← mkRem_ev]
        exact mkSI_rep
      · cases he
  · have hop : op ≠ .quo ∧ op ≠ .rem := ⟨fun e => hop (.inl e), fun e => hop (.inr e)⟩
    cases op <;> first | (exact absurd rfl hop.1) | (exact absurd rfl hop.2) | skip
    all_goals simp only [symOp, Option.some.injEq] at he
    all_goals first
      | (cases he; done)
      | (have hf := fit_rep (V := V) (m := m) (g := g) hD he
         first | rw [mkAdd_ev] at hf | rw [mkSub_ev] at hf | rw [mkMul_ev] at hf
         exact ⟨_, by simp only [binOp, Op.intArith, ne_eq, not_true_eq_false, if_false, Sem.run_pure], hf⟩)
      | (subst he
         refine ⟨_, by simp only [binOp, Op.intCmp, ne_eq, not_true_eq_false, if_false, Sem.run_pure] <;> rfl, mkSB_rep ?_⟩
         first | rw [mkEq_ev] | rw [mkNot_ev, mkEq_ev] | rw [mkLe_ev] | rw [mkNot_ev, mkLe_ev]
         all_goals first | rfl | exact nots _ _ | (by_cases h : a.ev.i = b.ev.i <;> simp [h]))
theorem evSym_ok [Rho] {D : SE → Option Bool} (hD : DOk D) {op : BinOp} {t yt : TypeId} {xo yo : Operand} (ho : o.op = .binOp op t xo yo yt) (he : evSym D op (ρ xo) (ρ yo) h = some (r, h')) (hw : RepW P V m g h w) (hx : Rep V m g (ρ xo) (ρ' xo)) (hy : Rep V m g (ρ yo) (ρ' yo)) :
    ∃ v w', Gives P (execOp ρ' o) w v w' ∧ Good P V m g h w r h' v w' := by
  unfold evSym at he
  split at he
  · rename_i k a ha
    split at he
    · rename_i k' b hb
      split at he
      · rename_i hk
        have hk := of_decide_eq_true hk
        subst hk
        cases hs : symOp D op k a b with
        | none => rw [hs] at he; cases he
        | some r1 =>
          rw [hs] at he
          simp only [Option.map_some, Option.some.injEq, Prod.mk.injEq] at he
          obtain ⟨rfl, rfl⟩ := he
          obtain ⟨v, h1, h2⟩ := symOp_rep (P := P) (V := V) (m := m) (g := g) hD hs t w
          refine ⟨v, w, .inl ?_, good_same hw h2⟩
          simp only [execOp, ho]
          rw [sI_rep ha hx, sI_rep hb hy]
          have hg : (eqGuard op t xo yo (.int k a.ev.i) (.int k b.ev.i)).run P w = .ok () w := by
            unfold eqGuard
            cases op <;> rfl
          simp only [Sem.run_bind, hg, Result.andThen_ok, h1]
          rfl
      · cases he
    · cases he
  · cases he
theorem bin_ok [Rho] {D : SE → Option Bool} (hD : DOk D) {op : BinOp} {t yt : TypeId} {xo yo : Operand} (ho : o.op = .binOp op t xo yo yt) (he : evBin P D o ρ op (ρ xo) (ρ yo) h = some (r, h')) (hw : RepW P V m g h w) (hρ : ∀ x ∈ o.op.operands, Rep V m g (ρ x) (ρ' x)) :
    ∃ v w', Gives P (execOp ρ' o) w v w' ∧ Good P V m g h w r h' v w' := by
  have hx := hρ xo (by rw [ho]; simp [Op.operands])
  have hy := hρ yo (by rw [ho]; simp [Op.operands])
  have hp : ∀ {r h'}, plainOp P o ρ h = some (r, h') → ∃ v w', Gives P (execOp ρ' o) w v w' ∧ Good P V m g h w r h' v w' := fun he => plain_ok (by rw [ho]; intro _ _ e; cases e) he hw hρ
  unfold evBin at he
  split at he
  · rename_i k a ha
    split at he
    · rename_i k' b hb
      split at he
      · rename_i hk
        have hk := of_decide_eq_true hk
        subst hk
        split at he
        · rename_i v hv
          cases he
          rw [ha] at hx
          rw [hb] at hy
          simp only [Rep] at hx hy
          refine ⟨v, w, .inl ?_, good_same hw (by simp [Rep])⟩
          simp only [execOp, ho]
          rw [hx, hy]
          have hg : (eqGuard op t xo yo (.int k a) (.int k b)).run P w = .ok () w := by
            unfold eqGuard
            cases op <;> rfl
          simp only [Sem.run_bind, hg, Result.andThen_ok, intOp_run hv t w]
          rfl
        · exact hp he
      · exact hp he
    · rename_i k' b hb
      exact evSym_ok hD ho (by rw [ha, hb]; exact he) hw hx hy
    · exact hp he
  · rename_i k a ha
    exact evSym_ok hD ho (by rw [ha]; exact he) hw hx hy
  · exact hp he
theorem un_ok [Rho] {D : SE → Option Bool} (hD : DOk D) {op : UnOp} {t : TypeId} {xo : Operand} (ho : o.op = .unOp op t xo) (he : evUn P D o ρ op (ρ xo) h = some (r, h')) (hw : RepW P V m g h w) (hρ : ∀ x ∈ o.op.operands, Rep V m g (ρ x) (ρ' x)) :
    ∃ v w', Gives P (execOp ρ' o) w v w' ∧ Good P V m g h w r h' v w' := by
  have hx := hρ xo (by rw [ho]; simp [Op.operands])
  have hp : ∀ {r h'}, plainOp P o ρ h = some (r, h') → ∃ v w', Gives P (execOp ρ' o) w v w' ∧ Good P V m g h w r h' v w' := fun he => plain_ok (by rw [ho]; intro _ _ e; cases e) he hw hρ
  unfold evUn at he
  split at he
  · split at he
    · rename_i e hv
      cases he
      rw [hv] at hx
      simp only [Rep] at hx
      exact ⟨.bool (!e.ev.b), w, .inl (by simp only [execOp, ho]; rw [hx]; simp [Op.unary]), good_same hw (mkSB_rep (mkNot_ev e))⟩
    · exact hp he
  · split at he
    · rename_i k e hv
      cases hf : fit D k (mkSub (.lit 0) e) with
      | none => rw [hf] at he; cases he
      | some r1 =>
        rw [hf] at he
        simp only [Option.map_some, Option.some.injEq, Prod.mk.injEq] at he
        obtain ⟨rfl, rfl⟩ := he
        rw [hv] at hx
        simp only [Rep] at hx
        have h2 := fit_rep (V := V) (m := m) (g := g) hD hf
        rw [mkSub_ev] at h2
        exact ⟨.int k (k.wrap (0 - e.ev.i)), w, .inl (by simp only [execOp, ho]; rw [hx]; simp [Op.unary, Op.intArith]), good_same hw h2⟩
    · exact hp he
  · exact hp he
theorem conv_ok [Rho] {D : SE → Option Bool} (hD : DOk D) {src dst : TypeId} {xo : Operand} (ho : o.op = .convert src dst xo) (he : evConv P D o ρ src dst (ρ xo) h = some (r, h')) (hw : RepW P V m g h w) (hρ : ∀ x ∈ o.op.operands, Rep V m g (ρ x) (ρ' x)) :
    ∃ v w', Gives P (execOp ρ' o) w v w' ∧ Good P V m g h w r h' v w' := by
  have hx := hρ xo (by rw [ho]; simp [Op.operands])
  unfold evConv at he
  split at he
  · rename_i k0 e hv
    split at he
    · rename_i hs
      unfold intTy at hs
      split at hs
      · rename_i k1 hsrc
        split at he
        · rename_i k hdst
          cases hf : fit D k e with
          | none => rw [hf] at he; cases he
          | some r1 =>
            rw [hf] at he
            simp only [Option.map_some, Option.some.injEq, Prod.mk.injEq] at he
            obtain ⟨rfl, rfl⟩ := he
            rw [hv] at hx
            simp only [Rep] at hx
            have h2 := fit_rep (V := V) (m := m) (g := g) hD hf
            exact ⟨_, w, .inl (by simp only [execOp, ho]; rw [hx]; simp [convert, run_underlying hsrc, run_underlying hdst, Conv.intToInt]), good_same hw h2⟩
        · cases he
      · cases hs
    · cases he
  · exact plain_ok (by rw [ho]; intro _ _ e; cases e) he hw hρ
end
end Go.Proofs.Ytmglofemnobakaa
