/- Calls reckoned: building, making, appending, copying. -/
import Derived.Test.YtmglofemnobakaaEvq
namespace Go.Proofs.Ytmglofemnobakaa
open Go.RowKit

theorem list_seg_step' (l : List Value) (k : Nat) (v : Value) (rest : List Value) (hk : k + (rest.length + 1) ≤ l.length) :
    (l.set k v).take (k + 1) ++ rest ++ (l.set k v).drop (k + 1 + rest.length) = l.take k ++ (v :: rest) ++ l.drop (k + (rest.length + 1)) := list_seg_step l k v rest hk
theorem fill_set : ∀ (vs : List Value) (k off : Nat) (cs : Array Value), off + k + vs.length ≤ cs.size →
    ((vs.zipIdx k).foldl (fun (a : Array Value) (x : Value × Nat) => a.setIfInBounds (off + x.2) x.1) cs).toList = cs.toList.take (off + k) ++ vs ++ cs.toList.drop (off + k + vs.length)
  | [], k, off, cs, _ => by simp
  | v :: vs, k, off, cs, hle => by
    simp only [List.zipIdx_cons, List.foldl_cons]
    rw [fill_set vs (k + 1) off (cs.setIfInBounds (off + k) v) (by simp at hle ⊢; omega)]
    have := list_seg_step cs.toList (off + k) v vs (by simp at hle ⊢; omega)
    simpa [Array.toList_setIfInBounds, Nat.add_assoc] using this
theorem fill_size : ∀ (vs : List (Value × Nat)) (off : Nat) (cs : Array Value), (vs.foldl (fun (a : Array Value) (x : Value × Nat) => a.setIfInBounds (off + x.2) x.1) cs).size = cs.size
  | [], _, _ => rfl
  | v :: vs, off, cs => by simp only [List.foldl_cons]; rw [fill_size vs off]; simp

section
variable {P : Program} {V : Nat → Prop} {m g : Nat → Nat} {h h' : RH} {w w' : World} {ρ : Operand → RV} {ρ' : Operand → Value} {o : Oper} {r : RV} {v : Value}

theorem fill_ok [Rho] {place : Nat → Option (Nat × Nat)} : ∀ (xs : List (Nat × Operand)) (l l' : List RV) (cells : Array Value), fillD place l (partsD ρ xs) = some l' → RepL V m g l cells.toList → (∀ p ∈ xs, Rep V m g (ρ p.2) (ρ' p.2)) →
    ∃ cells', Instr.fill place cells (xs.map fun (i, x) => (i, ρ' x)) = some cells' ∧ RepL V m g l' cells'.toList ∧ cells'.size = cells.size
  | [], l, l', cells, he, hl, _ => by
    simp only [partsD, fillD, Option.some.injEq] at he
    subst he
    exact ⟨cells, rfl, hl, rfl⟩
  | (i, x) :: xs, l, l', cells, he, hl, hx => by
    simp only [partsD, fillD] at he
    split at he
    · rename_i off n hpl
      split at he
      · rename_i cs hcs
        split at he
        · rename_i hn
          have hn := Nat.eq_of_beq_eq_true hn
          cases hly : layN off cs l with
          | none => rw [hly] at he; cases he
          | some l1 =>
            rw [hly] at he
            simp only [Option.bind_some] at he
            obtain ⟨hfit, rfl⟩ := layN_some hly
            have hc := rep_cells hcs (hx (i, x) (List.mem_cons_self ..))
            have hlen := repL_len hc
            have hll := repL_len hl
            simp only [Array.length_toList] at hlen hll
            have hsz : (ρ' x).cells.size = n := by rw [← hn]; exact hlen
            have hno : ¬ (off + (ρ' x).cells.size > cells.size) := by omega
            have hset := fill_set (ρ' x).cells.toList 0 off cells (by simp; omega)
            have hss := fill_size (((ρ' x).cells.toList).zipIdx) off cells
            have hrep : RepL V m g (l.take off ++ cs ++ l.drop (off + cs.length)) ((((ρ' x).cells.toList).zipIdx).foldl (fun (a : Array Value) (y : Value × Nat) => a.setIfInBounds (off + y.2) y.1) cells).toList := by
              rw [hset]
              have e : cs.length = (ρ' x).cells.toList.length := by simp [hlen]
              rw [e]
              exact repL_append (repL_append (repL_take _ hl) hc) (repL_drop _ hl)
            obtain ⟨cells', f1, f2, f3⟩ := fill_ok xs _ l' _ he hrep (fun p hp => hx p (List.mem_cons_of_mem _ hp))
            refine ⟨cells', ?_, f2, by rw [f3, hss]⟩
            simp only [List.map_cons, Instr.fill, hpl]
            rw [if_neg (by simp [hsz]; omega)]
            rw [← f1]
            congr 1
            rw [← Array.foldl_toList]
            simp
        · cases he
      · cases he
    · cases he
theorem structPlace_ok {t : TypeId} {fs : Array Field} (hu : P.underlying t = some (.struct fs)) : ∀ (l : List Field), (l.all fun f => (sizeD P f.type).isSome) = true → ∃ places, l.mapM (fun f => (P.info? f.type).map fun i => (f.offset, i.size)) = some places ∧
    ∀ i : Nat, places[i]? = match l[i]? with | some f => (sizeD P f.type).map fun n => (f.offset, n) | none => none
  | [], _ => ⟨[], by simp, fun i => by simp⟩
  | f :: l, ha => by
    simp only [List.all_cons, Bool.and_eq_true] at ha
    obtain ⟨places, p1, p2⟩ := structPlace_ok hu l ha.2
    obtain ⟨n, hn⟩ := Option.isSome_iff_exists.1 ha.1
    obtain ⟨i, hi, hsz⟩ := sizeD_info hn
    refine ⟨(f.offset, n) :: places, by simp [List.mapM_cons, hi, p1, hsz], fun k => ?_⟩
    cases k with
    | zero => simp [hn]
    | succ k => simpa using p2 k
theorem build_ok [Rho] {t : TypeId} {ps : Array (Nat × Operand)} (ho : o.op = .build t ps) (he : evBuild P t (partsD ρ ps.toList) h = some (r, h')) (hw : RepW P V m g h w) (hρ : ∀ x ∈ o.op.operands, Rep V m g (ρ x) (ρ' x)) :
    ∃ v w', Gives P (execOp ρ' o) w v w' ∧ Good P V m g h w r h' v w' := by
  have hx : ∀ p ∈ ps.toList, Rep V m g (ρ p.2) (ρ' p.2) := fun p hp => hρ p.2 (by rw [ho]; simp [Op.operands]; exact ⟨p.1, by simpa using hp⟩)
  have key : ∀ (place : Nat → Option (Nat × Nat)) (z : Value) (l : List RV), fillD place (zeroCells z) (partsD ρ ps.toList) = some l → ∃ cells', Instr.fill place z.cells (ps.map fun (i, x) => (i, ρ' x)).toList = some cells' ∧ RepL V m g l cells'.toList := fun place z l hf => by
    obtain ⟨c, f1, f2, _⟩ := fill_ok (V := V) (m := m) (g := g) (ρ' := ρ') ps.toList _ l z.cells hf (repL_pl _) hx
    exact ⟨c, by simpa using f1, f2⟩
  have fin : ∀ (l : List RV) (cells' : Array Value), P.built t (ps.map fun (i, x) => (i, ρ' x)).toList = some cells' → RepL V m g l cells'.toList → ∃ v w', Gives P (execOp ρ' o) w v w' ∧ Good P V m g h w (.agg l) h v w' := fun l cells' hb hl =>
    ⟨.agg cells', w, .inl (by simp only [execOp, ho]; simp only [Sem.run_bind, run_build w t _ cells' hb, Result.andThen_ok]; rfl), good_same hw (by simp only [Rep]; exact ⟨_, rfl, hl⟩)⟩
  unfold evBuild at he
  split at he
  · rename_i z hz
    obtain ⟨it, hit, hzz⟩ := zeroD_info hz
    split at he
    · split at he
      · rename_i len elem har
        have hu := arrayD_under har
        split at he
        · rename_i size hs
          obtain ⟨ie, hie, hsz⟩ := sizeD_info hs
          cases hf : fillD (rowPlace size) (zeroCells z) (partsD ρ ps.toList) with
          | none => rw [hf] at he; cases he
          | some l =>
            rw [hf] at he
            simp only [Option.map_some, Option.some.injEq, Prod.mk.injEq] at he
            obtain ⟨rfl, rfl⟩ := he
            obtain ⟨c, c1, c2⟩ := key _ _ _ hf
            refine fin l c ?_ c2
            simp only [Program.built, hit, hu, hzz, hie]
            rw [← c1]
            congr 1
            funext i
            simp [rowPlace, hsz]
        · cases he
      · split at he
        · rename_i hok
          unfold fieldsOk at hok
          split at hok
          · rename_i fs hu
            cases hf : fillD (structPlace P t) (zeroCells z) (partsD ρ ps.toList) with
            | none => rw [hf] at he; cases he
            | some l =>
              rw [hf] at he
              simp only [Option.map_some, Option.some.injEq, Prod.mk.injEq] at he
              obtain ⟨rfl, rfl⟩ := he
              obtain ⟨c, c1, c2⟩ := key _ _ _ hf
              obtain ⟨places, p1, p2⟩ := structPlace_ok hu fs.toList hok
              refine fin l c ?_ c2
              simp only [Program.built, hit, hu, hzz, p1]
              rw [← c1]
              congr 1
              funext i
              have := p2 i
              simp only [structPlace, fieldD, hu]
              simp only [List.getElem?_toArray, this, Array.getElem?_toList]
              cases fs[i]? <;> rfl
          · cases hok
        · cases he
    · cases he
  · cases he

theorem zeros_list (z : List Value) : ∀ n, zerosD (z.map .pl) n = (List.flatten (List.replicate n z)).map .pl
  | 0 => rfl
  | n + 1 => by
    show z.map .pl ++ zerosD (z.map .pl) n = _
    rw [zeros_list z n]
    simp [List.replicate_succ]
theorem range_mod (z : Array Value) (k : Nat) (hk : z.size = k) (h0 : 0 < k) : ∀ n, ((List.range (n * k)).map fun i => z[i % z.size]!) = List.flatten (List.replicate n z.toList)
  | 0 => by simp
  | n + 1 => by
    have e : (n + 1) * k = k + n * k := by rw [Nat.add_mul]; omega
    rw [e, List.range_add, List.map_append, List.map_map, List.replicate_succ, List.flatten_cons]
    congr 1
    · apply List.ext_getElem
      · simp [hk]
      · intro i h1 h2
        simp at h1 h2
        have : i % z.size = i := Nat.mod_eq_of_lt (by omega)
        simp only [List.getElem_map, List.getElem_range, this]
        rw [getElem!_pos z i (by omega)]
        simp
    · rw [← range_mod z k hk h0 n]
      apply List.map_congr_left
      intro i _
      have : (k + i) % z.size = i % z.size := by rw [hk]; simp
      simp [this]
theorem made_zeros [Rho] {z : Value} {k : Nat} (hk : z.cells.size = k) (h0 : 0 < k) (n : Nat) : RepL V m g (zerosD (zeroCells z) n) ((Array.range (n * k)).map (fun i => z.cells[i % z.cells.size]!)).toList := by
  have := range_mod z.cells k hk h0 n
  rw [zeroCells, zeros_list]
  have e : ((Array.range (n * k)).map (fun i => z.cells[i % z.cells.size]!)).toList = List.flatten (List.replicate n z.cells.toList) := by
    rw [← this]; simp
  rw [e]
  exact repL_pl _

/-- a new row behind a slice whose room is known -/
theorem newSlice_ok [Rho] {t : TypeId} {cs : List RV} {vs : Array Value} {l c : Nat} (hw : RepW P V m g h w) (hc : RepL V m g cs vs.toList) :
    Good P V m g h w (.slc h.n 0 l (some c)) (h.push (.cells cs t false)) (.slice (some ⟨w.heap.size, 0, none⟩) l c) (w.alloc (.cells vs t)) := by
  obtain ⟨m', g', e1, e2, e3⟩ := new_ok (t := t) hw hc
  refine ⟨m', g', e1, ?_, e3⟩
  simp only [Rep] at e2 ⊢
  obtain ⟨a, b⟩ := e2
  refine ⟨a, ?_⟩
  have : m' h.n = w.heap.size := by
    have := b
    simp only [Value.pointer.injEq, Option.some.injEq, Addr.mk.injEq] at this
    exact this.1.symm
  rw [this]
theorem buildSlice_ok [Rho] {t : TypeId} {len : Nat} {ps : Array (Nat × Operand)} (ho : o.op = .buildSlice t len ps) (he : evBuildSlice P t len (partsD ρ ps.toList) h = some (r, h')) (hw : RepW P V m g h w) (hρ : ∀ x ∈ o.op.operands, Rep V m g (ρ x) (ρ' x)) :
    ∃ v w', Gives P (execOp ρ' o) w v w' ∧ Good P V m g h w r h' v w' := by
  have hx : ∀ p ∈ ps.toList, Rep V m g (ρ p.2) (ρ' p.2) := fun p hp => hρ p.2 (by rw [ho]; simp [Op.operands]; exact ⟨p.1, by simpa using hp⟩)
  unfold evBuildSlice at he
  split at he
  · rename_i elem hel
    have hu := elemD_under hel
    split at he
    · rename_i size z hs hz
      split at he
      · rename_i hc
        simp only [Bool.and_eq_true] at hc
        obtain ⟨⟨c1, c2⟩, c3⟩ := hc
        have c1 := Nat.eq_of_beq_eq_true c1
        have c2 : 0 < size := by simpa [Nat.blt_eq] using c2
        have c3 := Nat.le_of_ble_eq_true c3
        cases hf : fillD (rowPlace size) (zerosD (zeroCells z) len) (partsD ρ ps.toList) with
        | none => rw [hf] at he; cases he
        | some l =>
          rw [hf] at he
          simp only [Option.map_some, Option.some.injEq, Prod.mk.injEq] at he
          obtain ⟨rfl, rfl⟩ := he
          obtain ⟨cells, f1, f2, _⟩ := fill_ok (V := V) (m := m) (g := g) (ρ' := ρ') ps.toList _ l _ hf (made_zeros c1 c2 len) hx
          refine ⟨_, _, .inl ?_, newSlice_ok hw f2⟩
          have big : ¬ (len * size > 2 ^ 24) := by omega
          have f1' : Instr.fill (fun i => some (i * size, size)) ((Array.range (len * size)).map fun i => z.cells[i % z.cells.size]!) (List.map (fun x => (x.fst, ρ' x.snd)) ps.toList) = some cells := f1
          simp only [execOp, ho, Instr.buildSlice, Sem.run_bind, run_underlying hu, Result.andThen_ok, sizeD_run hs, if_neg big]
          by_cases h0 : len * size = 0
          · have hr : (Array.range (len * size)) = #[] := by rw [h0]; rfl
            rw [hr] at f1'
            simp only [Array.map_empty] at f1'
            rw [hr]
            simp [h0, newRow, f1']
          · simp [h0, zeroD_run hz, newRow, f1']
      · cases he
    · cases he
  · cases he
theorem make_ok [Rho] {t : TypeId} {l c : RV} {l' c' : Value} (he : evMake P t l c h = some (r, h')) (hw : RepW P V m g h w) (hl : Rep V m g l l') (hc : Rep V m g c c') :
    ∃ v w', Gives P (do pure (.value (← Instr.makeSlice t l' c'))) w v w' ∧ Good P V m g h w r h' v w' := by
  unfold evMake at he
  split at he
  · rename_i elem hel
    have hu := elemD_under hel
    split at he
    · rename_i l1 c1 z hl1 hc1 hz
      split at he
      · rename_i hok
        unfold makeOk at hok
        split at hok
        · rename_i i hi
          simp only [Bool.and_eq_true] at hok
          obtain ⟨⟨⟨⟨a1, a2⟩, a3⟩, a4⟩, a5⟩ := hok
          have a1 := Nat.le_of_ble_eq_true a1
          have a2 := Nat.le_of_ble_eq_true a2
          have a3 := Nat.le_of_ble_eq_true a3
          have a4 := Nat.eq_of_beq_eq_true a4
          have a5 : 0 < i.size := by simpa [Nat.blt_eq] using a5
          cases he
          obtain ⟨kl, rfl⟩ := intD_natD hl1 hl
          obtain ⟨kc, rfl⟩ := intD_natD hc1 hc
          obtain ⟨i', hi', hzz⟩ := zeroD_info hz
          rw [hi] at hi'
          cases hi'
          have hb : (i.bytes : Int) * (c1 : Int) ≤ 281474976710656 := by
            have : i.bytes * c1 ≤ 100000 * 100000 := Nat.mul_le_mul a3 a2
            omega
          have hrun := run_make w t elem i z hu hi hzz kl kc (l1 : Int) (c1 : Int) (by omega) (by omega) hb (by omega)
          simp only [Int.toNat_natCast] at hrun
          refine ⟨_, _, .inl ?_, newSlice_ok hw (made_zeros a4 a5 c1)⟩
          simp only [Sem.run_bind, hrun, Result.andThen_ok, madeCells]
          rfl
        · cases hok
      · cases he
    · cases he
  · cases he
/-- a new row whose length is known by name -/
theorem row_push [Rho] {ar rn : SE} {elem : TypeId} {sz N C : Nat} {c : Array Value} (hw : RepW P V m g h w) (hx : w'.heap = w.heap.push (.cells c elem)) (ho : w'.os = w.os) (ht : w'.tape = w.tape) (hp : w'.output = w.output) (hn : rn.ev.i = N)
    (hc : ∀ j : Nat, j < N * sz → c[j]? = some (.int .i64 (ar.ev.a (j : Int)))) (hsz : c.size = C * sz) (hNC : N ≤ C) : Good P V m g h w (.osl h.n sz rn) (h.push (.row ar rn elem sz)) (.slice (some ⟨w.heap.size, 0, none⟩) N C) w' := by
  have := push_step (w' := w') hw (.row ar rn elem sz) C hx ho ht hp (by
    refine ⟨c, N, ?_, hn, by rw [hsz]; exact Nat.mul_le_mul_right _ hNC, hc, by simpa using hsz⟩
    simp only [if_true]
    rw [hx]
    simp)
  refine ⟨_, _, this.1, ?_, this.2⟩
  simp only [Rep]
  exact ⟨.inr ⟨Nat.le_refl _, by rw [push_n]; omega⟩, N, hn, by simpa using hNC, by simp⟩
theorem zeroInts_all : ∀ {l : List Value}, zeroInts (l.map .pl) = true → ∀ x ∈ l, x = .int .i64 0
  | [], _, x, hx => by cases hx
  | y :: l, h, x, hx => by
    simp only [List.map_cons] at h
    unfold zeroInts at h
    split at h
    · rename_i e; cases e
    · rename_i l' e
      simp only [List.cons.injEq, RV.pl.injEq] at e
      obtain ⟨rfl, rfl⟩ := e
      rcases List.mem_cons.1 hx with rfl | hx
      · rfl
      · exact zeroInts_all h x hx
    · cases h
theorem makeN_ok [Rho] {D : SE → Option Bool} (hD : DOk D) {t : TypeId} {l c : RV} {l' c' : Value} (he : evMakeN P D t l c h = some (r, h')) (hw : RepW P V m g h w) (hl : Rep V m g l l') (hc : Rep V m g c c') :
    ∃ v w', Gives P (do pure (.value (← Instr.makeSlice t l' c'))) w v w' ∧ Good P V m g h w r h' v w' := by
  unfold evMakeN at he
  split at he
  · rename_i k e
    split at he
    · rename_i k' e'
      split at he
      · rename_i elem hel
        have hu := elemD_under hel
        split at he
        · rename_i z sz hz hs
          split at he
          · rename_i hq
            simp only [Bool.and_eq_true, decide_eq_true_eq] at hq
            obtain ⟨hok, rfl⟩ := hq
            split at he
            · rename_i a0
              split at he
              · rename_i a1
                cases he
                have a0 := askD_ok hD _ _ a0
                have a1 := askD_ok hD _ _ a1
                rw [mkLe_ev] at a0 a1
                have a0 : (0 : Int) ≤ e.ev.i := of_decide_eq_true a0
                have a1 : e.ev.i ≤ 100000 := of_decide_eq_true a1
                unfold makeNOk at hok
                split at hok
                · rename_i i hi
                  simp only [Bool.and_eq_true] at hok
                  obtain ⟨⟨⟨b1, b2⟩, b3⟩, b4⟩ := hok
                  have b1 := Nat.le_of_ble_eq_true b1
                  have b2 := Nat.eq_of_beq_eq_true b2
                  have b3 : 0 < i.size := by simpa [Nat.blt_eq] using b3
                  obtain ⟨i', hi', hzz⟩ := zeroD_info hz
                  rw [hi] at hi'
                  cases hi'
                  obtain ⟨i', hi', hss⟩ := sizeD_info hs
                  rw [hi] at hi'
                  cases hi'
                  simp only [Rep] at hl hc
                  subst hl hc
                  obtain ⟨L, hL⟩ : ∃ L : Nat, e.ev.i = L := ⟨e.ev.i.toNat, by omega⟩
                  rw [hL] at a0 a1 ⊢
                  have hb : (i.bytes : Int) * (L : Int) ≤ 281474976710656 := by
                    have : i.bytes * L ≤ 100000 * 100000 := Nat.mul_le_mul b1 (by omega)
                    omega
                  have hrun := run_make w t elem i z hu hi hzz k k' (L : Int) (L : Int) (by omega) (by omega) hb (by omega)
                  simp only [Int.toNat_natCast] at hrun
                  refine ⟨_, _, .inl ?_, row_push (w' := w.alloc (.cells (madeCells z.cells (L * i.size)) elem)) (c := madeCells z.cells (L * i.size)) hw rfl rfl rfl rfl hL (fun j hj => ?_) (by rw [size_madeCells, hss]) (Nat.le_refl _)⟩
                  · simp only [Sem.run_bind, hrun, Result.andThen_ok]
                    rfl
                  · rw [← hss] at hj
                    have hjm : j % z.cells.size < z.cells.size := Nat.mod_lt _ (by omega)
                    have hall := zeroInts_all b4 (z.cells[j % z.cells.size]) (by simp)
                    have e1 : (madeCells z.cells (L * i.size))[j]? = some (z.cells[j % z.cells.size]!) := by simp [madeCells, hj]
                    have e2 : z.cells[j % z.cells.size]! = .int .i64 0 := by rw [getElem!_pos z.cells (j % z.cells.size) hjm]; exact hall
                    rw [e1, e2]
                    rfl
                · cases hok
              · cases he
            · cases he
          · cases he
        · cases he
      · cases he
    · cases he
  · cases he
end
end Go.Proofs.Ytmglofemnobakaa
