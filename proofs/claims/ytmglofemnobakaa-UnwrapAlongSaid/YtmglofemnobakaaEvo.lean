/- Calls reckoned: the operations that call nothing. -/
import Derived.Test.YtmglofemnobakaaEvw
import Derived.Laws.AppendOwn
import Derived.Laws.MakeOwn
namespace Go.Proofs.Ytmglofemnobakaa
open Go.RowKit

/-- an operation gives a value -/
def Gives (P : Program) (s : Sem Next) (w : World) (v : Value) (w' : World) : Prop := s.run P w = .ok (.value v) w' ∨ (s.run P w = .ok .skip w' ∧ v = undef)
/-- what comes out is as it was reckoned -/
def Good [Rho] (P : Program) (V : Nat → Prop) (m g : Nat → Nat) (h : RH) (w : World) (r : RV) (h' : RH) (v : Value) (w' : World) : Prop :=
  ∃ m' g', Ext m g h w m' g' h' w' ∧ Rep (VX V h h') m' g' r v ∧ RepW P (VX V h h') m' g' h' w'

section
variable {P : Program} {V : Nat → Prop} {m g : Nat → Nat} {h h' : RH} {w w' : World} {ρ : Operand → RV} {ρ' : Operand → Value} {o : Oper} {r : RV} {v : Value}

theorem good_same [Rho] (hw : RepW P V m g h w) (hr : Rep V m g r v) : Good P V m g h w r h v w :=
  ⟨m, g, Ext.refl, by rw [vx_self rfl]; exact hr, by rw [vx_self rfl]; exact hw⟩
theorem pureOf_run {α : Type} (P : Program) (w : World) : ∀ (s : Sem α) (a : α), pureOf P s = some a → s.run P w = .ok a w := by
  intro s
  induction s with
  | pure x => intro a h; simp only [pureOf, Option.some.injEq] at h; subst h; rfl
  | program k ih => intro a h; simp only [pureOf] at h; simp only [Sem.run]; exact ih _ _ h
  | mark x k ih => intro a h; simp only [pureOf] at h; simp only [Sem.run]; exact ih _ h
  | _ => intro a h; simp [pureOf] at h
theorem plainAll_at {xs : List Operand} (ha : plainAll ρ xs = true) : ∀ x ∈ xs, (ρ x).plain = some (plainAt ρ x) := by
  induction xs with
  | nil => intro x hx; cases hx
  | cons y ys ih =>
    simp only [plainAll] at ha
    cases hp : (ρ y).plain with
    | none => rw [hp] at ha; cases ha
    | some u =>
      rw [hp] at ha
      intro x hx
      rcases List.mem_cons.1 hx with rfl | hx
      · simp [plainAt, hp]
      · exact ih ha x hx
theorem plain_ok [Rho] (hs : ∀ cs b, o.op ≠ .select cs b) (he : plainOp P o ρ h = some (r, h')) (hw : RepW P V m g h w) (hρ : ∀ x ∈ o.op.operands, Rep V m g (ρ x) (ρ' x)) :
    ∃ v w', Gives P (execOp ρ' o) w v w' ∧ Good P V m g h w r h' v w' := by
  unfold plainOp at he
  cases hp : plainAll ρ o.op.operands.toList with
  | false => rw [hp] at he; cases he
  | true =>
    rw [hp] at he
    have hq := plainAll_at hp
    have hx : execOp ρ' o = execOp (plainAt ρ) o := execOp_congr o hs fun x hx => rep_plain _ _ _ (hq x (by simpa using hx)) (hρ x hx)
    simp only at he
    split at he
    · rename_i v hv
      cases he
      exact ⟨v, w, .inl (by rw [hx]; exact pureOf_run P w _ _ hv), good_same hw (by simp [Rep])⟩
    · cases he

/-! what is known of types -/
theorem sizeD_run {t : TypeId} {n : Nat} (hz : sizeD P t = some n) (w : World) : (sizeOf t).run P w = .ok n w := by
  unfold sizeD at hz
  cases hi : P.info? t with
  | none => rw [hi] at hz; cases hz
  | some i =>
    rw [hi] at hz
    simp only [Option.some.injEq] at hz
    simp [sizeOf, typeInfo, hi, hz]
theorem sizeD_info {t : TypeId} {n : Nat} (hz : sizeD P t = some n) : ∃ i, P.info? t = some i ∧ i.size = n := by
  unfold sizeD at hz
  cases hi : P.info? t with
  | none => rw [hi] at hz; cases hz
  | some i =>
    rw [hi] at hz
    exact ⟨i, rfl, by simpa using hz⟩
theorem zeroD_run {t : TypeId} {z : Value} (hz : zeroD P t = some z) (w : World) : (zeroValue t).run P w = .ok z w := by
  unfold zeroD at hz
  cases hi : P.info? t with
  | none => rw [hi] at hz; cases hz
  | some i =>
    rw [hi] at hz
    simp [zeroValue, typeInfo, hi, hz]
theorem zeroD_info {t : TypeId} {z : Value} (hz : zeroD P t = some z) : ∃ i, P.info? t = some i ∧ i.zero = some z := by
  unfold zeroD at hz
  cases hi : P.info? t with
  | none => rw [hi] at hz; cases hz
  | some i =>
    rw [hi] at hz
    exact ⟨i, rfl, hz⟩
theorem aggD_run {t : TypeId} {b : Bool} (hz : aggD P t = some b) (w : World) : (isAgg t).run P w = .ok b w := by
  unfold aggD at hz
  cases hi : P.underlying t with
  | none => rw [hi] at hz; cases hz
  | some d =>
    rw [hi] at hz
    cases d <;> simp at hz <;> subst hz <;> simp [isAgg, run_underlying hi]
theorem elemD_under {t e : TypeId} (hz : elemD P t = some e) : P.underlying t = some (.slice e) := by
  unfold elemD at hz
  split at hz
  · rename_i e' he; cases hz; exact he
  · cases hz
theorem fieldD_under {t : TypeId} {f : Nat} {fd : Field} (hz : fieldD P t f = some fd) : ∃ fs, P.underlying t = some (.struct fs) ∧ fs[f]? = some fd := by
  unfold fieldD at hz
  split at hz
  · rename_i fs he; exact ⟨fs, he, hz⟩
  · cases hz
theorem arrayD_under {t e : TypeId} {n : Nat} (hz : arrayD P t = some (n, e)) : P.underlying t = some (.array n e) := by
  unfold arrayD at hz
  split at hz
  · rename_i n' e' he; cases hz; exact he
  · cases hz

/-! cells -/
theorem takeN_some {off n : Nat} {l l' : List RV} (ht : takeN off n l = some l') : off + n ≤ l.length ∧ l' = (l.drop off).take n := by
  unfold takeN at ht
  split at ht
  · rename_i hb
    exact ⟨Nat.le_of_ble_eq_true hb, by cases ht; rfl⟩
  · cases ht
theorem layN_some {off : Nat} {cs l l' : List RV} (ht : layN off cs l = some l') : off + cs.length ≤ l.length ∧ l' = l.take off ++ cs ++ l.drop (off + cs.length) := by
  unfold layN at ht
  split at ht
  · rename_i hb
    exact ⟨Nat.le_of_ble_eq_true hb, by cases ht; rfl⟩
  · cases ht
theorem rcell_some {b : Nat} {l : List RV} (hc : rcell h b = some l) : ∃ t gr, h.at? b = some (.cells l t gr) := by
  unfold rcell at hc
  split at hc
  · rename_i l' t gr he; cases hc; exact ⟨t, gr, he⟩
  · cases hc
/-- cells that are known stand in the world -/
theorem rcells_cells [Rho] {b off n : Nat} {l : List RV} (hc : rcells h b off n = some l) (hw : RepW P V m g h w) :
    ∃ xs : List Value, RepL V m g l xs ∧ xs.length = n ∧ l.length = n ∧ ∀ j u, xs[j]? = some u → w.cell? ((⟨m b, off, none⟩ : Addr).add j) = some u := by
  unfold rcells at hc
  cases hr : rcell h b with
  | none => rw [hr] at hc; cases hc
  | some l0 =>
    rw [hr] at hc
    obtain ⟨h1, rfl⟩ := takeN_some hc
    obtain ⟨t, gr, hat⟩ := rcell_some hr
    obtain ⟨_, c, hh, hl, hrep, _⟩ := hw.live b _ hat
    have hrep2 := repL_take n (repL_drop off hrep)
    refine ⟨_, hrep2, by rw [repL_len hrep2]; simp; omega, by simp; omega, fun j u hu => ?_⟩
    have hadd : (⟨m b, off, none⟩ : Addr).add j = ⟨m b, off + j, none⟩ := by unfold Addr.add; split <;> simp_all
    rw [hadd]
    simp only [List.getElem?_take, List.getElem?_drop] at hu
    split at hu
    · split at hu
      · simp [World.cell?, hh]
        simpa using hu
      · cases hu
    · cases hu
theorem rcells_run [Rho] {b off n : Nat} {l : List RV} (hc : rcells h b off n = some l) (hw : RepW P V m g h w) :
    ∃ xs : List Value, RepL V m g l xs ∧ (loadCells ⟨m b, off, none⟩ n).run P w = .ok xs.toArray w ∧ xs.length = n := by
  obtain ⟨xs, h1, h2, _, h4⟩ := rcells_cells hc hw
  refine ⟨xs, h1, ?_, h2⟩
  have := run_loadCells_list (P := P) w ⟨m b, off, none⟩ xs h4
  rw [h2] at this
  exact this
theorem partD_run [Rho] {t : TypeId} {l : List RV} {cs : Array Value} {off : Nat} {r : RV} (hp : partD P t l off = some r) (hl : RepL V m g l cs.toList) (w : World) :
    ∃ v, (part t cs off).run P w = .ok v w ∧ Rep V m g r v := by
  unfold partD at hp
  split at hp
  · rename_i ha
    cases hz : sizeD P t with
    | none => rw [hz] at hp; cases hp
    | some n =>
      rw [hz] at hp
      simp only [Option.bind_some] at hp
      cases ht : takeN off n l with
      | none => rw [ht] at hp; cases hp
      | some l' =>
        rw [ht] at hp
        simp only [Option.map_some, Option.some.injEq] at hp
        subst hp
        obtain ⟨h1, rfl⟩ := takeN_some ht
        refine ⟨.agg (cs.extract off (off + n)), by simp [part, aggD_run ha, sizeD_run hz], ?_⟩
        simp only [Rep]
        refine ⟨_, rfl, ?_⟩
        have := repL_take n (repL_drop off hl)
        simpa [List.extract_eq_take_drop] using this
  · rename_i ha
    obtain ⟨v, hv, hr⟩ := repL_get hl hp
    refine ⟨v, ?_, hr⟩
    have : cs[off]? = some v := by simpa using hv
    simp [part, aggD_run ha, this]
  · cases hp
theorem loadD_run [Rho] {t : TypeId} {b off : Nat} {r : RV} (hp : loadD P t h b off = some r) (hw : RepW P V m g h w) :
    ∃ v, (loadVar t ⟨m b, off, none⟩).run P w = .ok v w ∧ Rep V m g r v := by
  unfold loadD at hp
  cases hr : rcell h b with
  | none => rw [hr] at hp; cases hp
  | some l =>
    rw [hr] at hp
    simp only [Option.bind_some] at hp
    unfold partD at hp
    split at hp
    · rename_i ha
      cases hz : sizeD P t with
      | none => rw [hz] at hp; cases hp
      | some n =>
        rw [hz] at hp
        simp only [Option.bind_some] at hp
        cases ht : takeN off n l with
        | none => rw [ht] at hp; cases hp
        | some l' =>
          rw [ht] at hp
          simp only [Option.map_some, Option.some.injEq] at hp
          subst hp
          have hc : rcells h b off n = some l' := by unfold rcells; rw [hr]; exact ht
          obtain ⟨xs, h1, h2, _⟩ := rcells_run hc hw
          exact ⟨.agg xs.toArray, by simp [loadVar, aggD_run ha, sizeD_run hz, h2], by simp only [Rep]; exact ⟨_, rfl, h1⟩⟩
    · rename_i ha
      have hc : rcells h b off 1 = some [r] := by
        unfold rcells
        rw [hr]
        simp only [Option.bind_some, takeN]
        have hlt : off < l.length := (List.getElem?_eq_some_iff.1 hp).1
        have : Nat.ble (off + 1) l.length = true := Nat.ble_eq_true_of_le hlt
        rw [this]
        simp only [Option.some.injEq]
        apply List.ext_getElem?
        intro i
        cases i with
        | zero => simpa using hp
        | succ i => simp; omega
      obtain ⟨xs, h1, h2, _, h4⟩ := rcells_cells hc hw
      obtain ⟨v, vs, rfl, hv, _⟩ := repL_cons.1 h1
      refine ⟨v, ?_, hv⟩
      have := h4 0 v rfl
      simp only [Addr.add, if_true] at this
      simp [loadVar, aggD_run ha, this]
    · cases hp

theorem intD_natD [Rho] {i : RV} {k : Nat} {x : Value} (hi : natD i = some k) (hr : Rep V m g i x) : ∃ kd, x = .int kd (k : Int) := by
  unfold natD at hi
  split at hi
  · rename_i kd n
    cases hi
    simp only [Rep] at hr
    exact ⟨kd, hr⟩
  · cases hi

/-! what is known by name -/
theorem sI_rep [Rho] {r : RV} {k : IntKind} {e : SE} {x : Value} (hs : sI r = some (k, e)) (hr : Rep V m g r x) : x = .int k e.ev.i := by
  unfold sI at hs
  split at hs
  · cases hs; simpa only [Rep, SE.ev] using hr
  · cases hs; simpa only [Rep] using hr
  · cases hs
theorem mkSI_rep [Rho] {k : IntKind} {e : SE} : Rep V m g (mkSI k e) (.int k e.ev.i) := by
  unfold mkSI
  split
  · simp only [Rep, SE.ev]
  · simp only [Rep]
theorem mkSB_rep [Rho] {e : SE} {b : Bool} (hb : e.ev.b = b) : Rep V m g (mkSB e) (.bool b) := by
  subst hb
  unfold mkSB
  split
  · simp only [Rep, SE.ev]
  · simp only [Rep]
theorem fit_rep [Rho] {D : SE → Option Bool} (hD : DOk D) {k : IntKind} {e : SE} {r : RV} (hf : fit D k e = some r) : Rep V m g r (.int k (k.wrap e.ev.i)) := by
  unfold fit at hf
  split at hf
  · cases hf; simp only [Rep, SE.ev]
  · split at hf
    · rename_i ha
      cases hf
      simp only [Rep]
      rw [inr_wrap (askD_ok hD _ _ ha)]
    · cases hf
theorem add_plain (b off n : Nat) : (⟨b, off, none⟩ : Addr).add n = ⟨b, off + n, none⟩ := by unfold Addr.add; split <;> simp_all
theorem selL_rep [Rho] {ar e : SE} {N : Nat} (hN : e.ev.i = N) : ∀ (n j : Nat) (xs : List Value), xs.length = n → (∀ k, k < n → xs[k]? = some (.int .i64 (ar.ev.a ((N + (j + k) : Nat) : Int)))) → RepL V m g (selL ar e j n) xs
  | 0, j, xs, hl, _ => by
    have : xs = [] := List.length_eq_zero_iff.1 hl
    simp [selL, RepL, this]
  | n + 1, j, [], hl, _ => by simp at hl
  | n + 1, j, x :: xs, hl, h => by
    refine repL_cons'.2 ⟨?_, selL_rep hN n (j + 1) xs (by simpa using hl) fun k hk => ?_⟩
    · have := h 0 (by omega)
      simp only [List.getElem?_cons_zero, Option.some.injEq, Nat.add_zero] at this
      simp only [selF, Rep, SE.ev, mkAdd_ev, hN]
      rw [this]
      rfl
    · have := h (k + 1) (by omega)
      rw [show j + (k + 1) = j + 1 + k by omega] at this
      simpa using this
theorem loadF_run [Rho] {t : TypeId} {n : Nat} {ar e : SE} {r : RV} (hf : loadF P t ar n e = some r) {B O N : Nat} (h1 : e.ev.i = N) (cell : ∀ j, j < n → w.cell? ⟨B, O + j, none⟩ = some (.int .i64 (ar.ev.a ((N + j : Nat) : Int)))) :
    ∃ v, (Instr.loadAt t (.pointer (some ⟨B, O, none⟩))).run P w = .ok v w ∧ Rep V m g r v := by
  unfold loadF at hf
  split at hf
  · rename_i ha
    cases hs : sizeD P t with
    | none => rw [hs] at hf; cases hf
    | some s =>
      rw [hs] at hf
      simp only [Option.bind_some] at hf
      split at hf
      · rename_i hb
        have hb := Nat.le_of_ble_eq_true hb
        cases hf
        let xs : List Value := (List.range s).map fun j => .int .i64 (ar.ev.a ((N + (0 + j) : Nat) : Int))
        have hxl : xs.length = s := by simp [xs]
        have hxs : ∀ j u, xs[j]? = some u → w.cell? ((⟨B, O, none⟩ : Addr).add j) = some u := fun j u hu => by
          have hj : j < s := by have := (List.getElem?_eq_some_iff.1 hu).1; omega
          rw [add_plain, cell j (by omega)]
          simp only [xs, List.getElem?_map, List.getElem?_range hj, Option.map_some, Nat.zero_add] at hu
          exact hu
        have hrun := run_loadCells_list (P := P) w ⟨B, O, none⟩ xs hxs
        rw [hxl] at hrun
        refine ⟨.agg xs.toArray, by simp [Instr.loadAt, Instr.sureAddr, loadVar, aggD_run ha, sizeD_run hs, hrun], ?_⟩
        simp only [Rep]
        exact ⟨_, rfl, selL_rep h1 s 0 xs hxl fun k hk => by simp only [xs, List.getElem?_map, List.getElem?_range hk, Option.map_some]⟩
      · cases hf
  · rename_i ha
    split at hf
    · rename_i hb
      have hb := Nat.le_of_ble_eq_true hb
      cases hf
      have := cell 0 (by omega)
      simp only [Nat.add_zero] at this
      refine ⟨.int .i64 (ar.ev.a (N : Int)), by simp [Instr.loadAt, Instr.sureAddr, loadVar, aggD_run ha, this], ?_⟩
      simp only [selF, Rep, SE.ev, mkAdd_ev, h1]
      congr 2
    · cases hf
  · cases hf
/-- a number of a row of the call's own -/
theorem row_cell [Rho] {b n : Nat} {ar rn : SE} {t : TypeId} {sz : Nat} (hw : RepW P V m g h w) (hb : h.at? b = some (.row ar rn t sz)) {N : Nat} (hN : ((N + n : Nat) : Int) ≤ (mkMul rn (.lit (.ofNat sz))).ev.i) :
    ∃ (c : Array Value) (K : Nat), w.heap[m b]? = some (.cells c t (0, 0)) ∧ rn.ev.i = K ∧ N + n ≤ K * sz ∧ K * sz ≤ c.size ∧ (∀ j : Nat, j < K * sz → c[j]? = some (.int .i64 (ar.ev.a (j : Int)))) ∧ c.size = g b * sz ∧
      ∀ j, j < n → w.cell? ⟨m b, N + j, none⟩ = some (.int .i64 (ar.ev.a ((N + j : Nat) : Int))) := by
  obtain ⟨_, c, K, h1, h2, h3, h4, h5⟩ := hw.live b _ hb
  rw [mkMul_ev, h2] at hN
  have hN : N + n ≤ K * sz := by
    have e : (SE.lit (Int.ofNat sz)).ev.i = (sz : Int) := rfl
    rw [e] at hN
    exact_mod_cast hN
  refine ⟨c, K, h1, h2, hN, h3, h4, h5, fun j hj => ?_⟩
  rw [cell_of_row w (m b) (N + j) c t (0, 0) h1]
  exact h4 (N + j) (by omega)

/-! the operations -/
theorem pick_ok [Rho] {D : SE → Option Bool} (hD : DOk D) {c a b : RV} {c' a' b' : Value} (he : evPick D c a b h = some (r, h')) (hw : RepW P V m g h w) (hc : Rep V m g c c') (ha : Rep V m g a a') (hb : Rep V m g b b') :
    ∃ v w', Gives P (do pure (.value (if ← asBool c' then a' else b'))) w v w' ∧ Good P V m g h w r h' v w' := by
  unfold evPick at he
  split at he
  · cases he
    simp only [Rep] at hc
    subst hc
    exact ⟨a', w, .inl (by simp [asBool]), good_same hw ha⟩
  · cases he
    simp only [Rep] at hc
    subst hc
    exact ⟨b', w, .inl (by simp [asBool]), good_same hw hb⟩
  · rename_i e
    simp only [Rep] at hc
    split at he
    · rename_i ha'
      cases he
      rw [askD_ok hD _ _ ha'] at hc
      subst hc
      exact ⟨a', w, .inl (by simp [asBool]), good_same hw ha⟩
    · rename_i ha'
      cases he
      rw [askD_ok hD _ _ ha'] at hc
      subst hc
      exact ⟨b', w, .inl (by simp [asBool]), good_same hw hb⟩
    · cases he
  · cases he
theorem new_ok [Rho] {t : TypeId} {cs : List RV} {vs : Array Value} (hw : RepW P V m g h w) (hc : RepL V m g cs vs.toList) :
    Good P V m g h w (.ptr h.n 0) (h.push (.cells cs t false)) (.pointer (some ⟨w.heap.size, 0, none⟩)) (w.alloc (.cells vs t)) := by
  have hl := repL_len hc
  have := push_step (w' := w.alloc (.cells vs t)) hw (.cells cs t false) 0 (x := .cells vs t) rfl rfl rfl rfl (by
    refine ⟨vs, ?_, by simp at hl; omega, ?_, fun e => by cases e⟩
    · simp only [if_true]
      exact heap_alloc_new w _
    · have e : vs.toList.take cs.length = vs.toList := List.take_of_length_le (by omega)
      rw [e]
      exact repL_mono (fun k hk => ⟨.inl hk, by have := hw.lt k hk; simp [show k ≠ h.n by omega]⟩) _ _ hc)
  refine ⟨_, _, this.1, ?_, this.2⟩
  simp only [Rep]
  exact ⟨.inr ⟨Nat.le_refl _, by rw [push_n]; omega⟩, by simp⟩
theorem alloc_ok [Rho] {t : TypeId} (he : evAlloc P t h = some (r, h')) (hw : RepW P V m g h w) :
    ∃ v w', Gives P (do pure (.value (← Instr.alloc t true (.tuple #[])))) w v w' ∧ Good P V m g h w r h' v w' := by
  unfold evAlloc at he
  split at he
  · rename_i z hz
    cases he
    exact ⟨_, _, .inl (by simp [Instr.alloc, zeroD_run hz, newVar, newRow]), new_ok hw (repL_pl _)⟩
  · cases he
theorem box_ok [Rho] {t : TypeId} {x : RV} {x' : Value} (he : evBox t x h = some (r, h')) (hw : RepW P V m g h w) (hx : Rep V m g x x') :
    ∃ v w', Gives P (do pure (.value (← Instr.box t x'))) w v w' ∧ Good P V m g h w r h' v w' := by
  unfold evBox at he
  split at he
  · rename_i cs hc
    cases he
    exact ⟨_, _, .inl (by simp [Instr.box, newVar, newRow]), new_ok hw (rep_cells hc hx)⟩
  · cases he
theorem load_ok [Rho] {t : TypeId} {x : RV} {x' : Value} (he : evLoad P t x h = some (r, h')) (hw : RepW P V m g h w) (hx : Rep V m g x x') :
    ∃ v w', Gives P (do pure (.value (← Instr.loadAt t x'))) w v w' ∧ Good P V m g h w r h' v w' := by
  unfold evLoad at he
  split at he
  · rename_i b off
    cases hl : loadD P t h b off with
    | none => rw [hl] at he; cases he
    | some r1 =>
      rw [hl] at he
      simp only [Option.map_some, Option.some.injEq, Prod.mk.injEq] at he
      obtain ⟨rfl, rfl⟩ := he
      simp only [Rep] at hx
      obtain ⟨v, h1, h2⟩ := loadD_run hl hw
      exact ⟨v, w, .inl (by rw [hx.2]; simp [Instr.loadAt, Instr.sureAddr, h1]), good_same hw h2⟩
  · rename_i id n e
    cases hl : loadF P t (.avar id) n e with
    | none => rw [hl] at he; cases he
    | some r1 =>
      rw [hl] at he
      simp only [Option.map_some, Option.some.injEq, Prod.mk.injEq] at he
      obtain ⟨rfl, rfl⟩ := he
      simp only [Rep] at hx
      obtain ⟨N, q1, q2, rfl⟩ := hx
      obtain ⟨v, h1, h2⟩ := loadF_run (V := V) (m := m) (g := g) (w := w) hl (B := (Rho.fo id).1) (O := (Rho.fo id).2 + N) q1 fun j hj => by rw [Nat.add_assoc]; exact hw.far.cell id (N + j) (by omega)
      exact ⟨v, w, .inl (by simp [h1]), good_same hw h2⟩
  · rename_i b n lim e
    cases hl : loadO P t h b n lim e with
    | none => rw [hl] at he; cases he
    | some r1 =>
      rw [hl] at he
      simp only [Option.map_some, Option.some.injEq, Prod.mk.injEq] at he
      obtain ⟨rfl, rfl⟩ := he
      simp only [Rep] at hx
      obtain ⟨_, N, q1, q2, rfl⟩ := hx
      unfold loadO at hl
      split at hl
      · rename_i ar rn el sz hat
        split at hl
        · rename_i hd
          have hd := of_decide_eq_true hd
          rw [← hd] at q2
          obtain ⟨c, K, _, _, _, _, _, _, hc⟩ := row_cell hw hat q2
          obtain ⟨v, h1, h2⟩ := loadF_run (V := V) (m := m) (g := g) (w := w) hl (B := m b) (O := N) q1 hc
          exact ⟨v, w, .inl (by simp [h1]), good_same hw h2⟩
        · cases hl
      · cases hl
  · cases he
/-- a row of cells that is written to -/
theorem setRow_ok [Rho] {b : Nat} {l : List RV} {t : TypeId} {gr : Bool} {off : Nat} {cs : List RV} {xs : List Value} (hw : RepW P V m g h w) (hb : h.at? b = some (.cells l t gr)) (hfit : off + cs.length ≤ l.length) (hc : RepL V m g cs xs) :
    ∃ cur : Array Value, w.heap[m b]? = some (.cells cur t (0, 0)) ∧ off + xs.length ≤ cur.size ∧
      Ext m g h w m g (h.put b (some (.cells (l.take off ++ cs ++ l.drop (off + cs.length)) t gr))) (w.setRow (m b) (cur.toList.take off ++ xs ++ cur.toList.drop (off + xs.length)).toArray) ∧
      RepW P V m g (h.put b (some (.cells (l.take off ++ cs ++ l.drop (off + cs.length)) t gr))) (w.setRow (m b) (cur.toList.take off ++ xs ++ cur.toList.drop (off + xs.length)).toArray) := by
  obtain ⟨_, cur, h1, h2, h3, h4⟩ := hw.live b _ hb
  have hx := repL_len hc
  refine ⟨cur, h1, by omega, ?_⟩
  refine put_step hw hb _ (fun B hB => setRow_other w (m b) B _ hB) (by simp) rfl rfl rfl ?_
  refine ⟨_, setRow_heap w (m b) cur _ t _ h1, ?_, ?_, ?_⟩
  · simp; omega
  · have e1 : (cur.toList.take off ++ xs ++ cur.toList.drop (off + xs.length)).take (l.take off ++ cs ++ l.drop (off + cs.length)).length =
        (cur.toList.take l.length).take off ++ xs ++ (cur.toList.take l.length).drop (off + xs.length) := by
      have l1 : (l.take off ++ cs ++ l.drop (off + cs.length)).length = l.length := by simp; omega
      rw [l1]
      apply List.ext_getElem?
      intro i
      simp only [List.getElem?_take, List.getElem?_append, List.getElem?_drop, List.length_append, List.length_take, Array.length_toList]
      by_cases i1 : i < off
      · have a1 : i < min off cur.size := by omega
        have a2 : i < min off (min l.length cur.size) := by omega
        have a3 : i < l.length := by omega
        have a4 : i < min off cur.size + xs.length := by omega
        have a5 : i < min off (min l.length cur.size) + xs.length := by omega
        simp [i1, a1, a2, a3, a4, a5]
      · have b1 : ¬ i < min off cur.size := by omega
        have b2 : ¬ i < min off (min l.length cur.size) := by omega
        have m1 : min off cur.size = off := by omega
        have m2 : min off (min l.length cur.size) = off := by omega
        rw [m1, m2]
        by_cases i2 : i < off + xs.length
        · have a3 : i < l.length := by omega
          simp [i1, i2, a3]
        · by_cases i3 : i < l.length
          · have : off + xs.length + (i - (off + xs.length)) = i := by omega
            simp [i2, i3, this]
          · have : ¬ off + xs.length + (i - (off + xs.length)) < l.length := by omega
            simp [i2, i3]
            omega
    rw [List.toList_toArray, e1]
    rw [hx]
    exact repL_append (repL_append (repL_take off h3) hc) (repL_drop _ h3)
  · intro e
    obtain ⟨sz, s1, s2⟩ := h4 e
    exact ⟨sz, s1, by rw [← s2]; simp; omega⟩
theorem store_ok [Rho] {t : TypeId} {p x : RV} {p' x' : Value} (he : evStore P t p x h = some (r, h')) (hw : RepW P V m g h w) (hp : Rep V m g p p') (hx : Rep V m g x x') :
    ∃ v w', Gives P (do Instr.storeAt t p' x'; pure .skip) w v w' ∧ Good P V m g h w r h' v w' := by
  unfold evStore at he
  split at he
  · rename_i b off
    split at he
    · rename_i cs hcs
      split at he
      · rename_i n hn
        split at he
        · rename_i hb
          have hb := Nat.eq_of_beq_eq_true hb
          cases hst : rstore h b off cs with
          | none => rw [hst] at he; cases he
          | some h1 =>
            rw [hst] at he
            simp only [Option.map_some, Option.some.injEq, Prod.mk.injEq] at he
            obtain ⟨rfl, rfl⟩ := he
            unfold rstore at hst
            split at hst
            · rename_i hones
              split at hst
              · rename_i l t0 gr hat
                cases hl : layN off cs l with
                | none => rw [hl] at hst; cases hst
                | some l' =>
                  rw [hl] at hst
                  simp only [Option.map_some, Option.some.injEq] at hst
                  subst hst
                  obtain ⟨hfit, rfl⟩ := layN_some hl
                  have hc := rep_cells hcs hx
                  have hlen := repL_len hc
                  simp only [Rep] at hp
                  obtain ⟨cur, c1, c2, c3, c4⟩ := setRow_ok (w := w) hw hat hfit hc
                  have hsz : x'.cells.size = n := by rw [hb]; simpa using hlen
                  have hrun := run_storeCells_at P (m b) off t0 x'.cells.toList 0 cur w c1 (by simpa using c2) (repL_ones hones hc)
                  refine ⟨undef, _, .inr ⟨?_, rfl⟩, m, g, c3, rep_ru, ?_⟩
                  · rw [hp.2]
                    simp only [Nat.add_zero] at hrun
                    simp [Instr.storeAt, Instr.sureAddr, storeVar, sizeD_run hn, hsz, hrun]
                  · rw [vx_self (put_n ..)]; exact c4
              · cases hst
            · cases hst
        · cases he
      · cases he
    · cases he
  · rename_i b lim e
    split at he
    · rename_i hsz
      cases hst : storeO h b lim e x with
      | none => rw [hst] at he; cases he
      | some h1 =>
        rw [hst] at he
        simp only [Option.map_some, Option.some.injEq, Prod.mk.injEq] at he
        obtain ⟨rfl, rfl⟩ := he
        unfold storeO at hst
        split at hst
        · rename_i ar rn el sz hat
          split at hst
          · rename_i hd
            have hd := of_decide_eq_true hd
            split at hst
            · rename_i y hs
              cases hst
              simp only [Rep] at hp
              obtain ⟨_, N, q1, q2, rfl⟩ := hp
              rw [← hd] at q2
              obtain ⟨c, K, c1, c2, c3, c4, c5, c6, _⟩ := row_cell hw hat q2
              obtain rfl := sI_rep hs hx
              have hN : N < c.size := by omega
              have hset : (c.toList.take N ++ [Value.int .i64 y.ev.i] ++ c.toList.drop (N + 1)).toArray = c.setIfInBounds N (.int .i64 y.ev.i) := by
                apply Array.toList_inj.1
                rw [Array.toList_setIfInBounds, List.set_eq_take_append_cons_drop, if_pos (by simpa using hN)]
                simp
              have hput := put_step (w' := w.setRow (m b) (c.setIfInBounds N (.int .i64 y.ev.i))) hw hat (.row (.upd ar e y) rn el sz) (fun B hB => setRow_other w (m b) B _ hB) (by simp) rfl rfl rfl (by
                refine ⟨c.setIfInBounds N (.int .i64 y.ev.i), K, setRow_heap w (m b) c _ el _ c1, c2, by simpa using c4, fun j hj => ?_, by simpa using c6⟩
                simp only [SE.ev, q1]
                by_cases hjn : j = N
                · subst hjn
                  rw [if_pos rfl]
                  simp [hN]
                · rw [if_neg (by omega), Array.getElem?_setIfInBounds_ne (fun e => hjn e.symm)]
                  exact c5 j hj)
              refine ⟨undef, _, .inr ⟨?_, rfl⟩, m, g, hput.1, rep_ru, by rw [vx_self (put_n ..)]; exact hput.2⟩
              have hrun := run_storeCells_at P (m b) N el [.int .i64 y.ev.i] 0 c w c1 (by simp; omega) (by simp [Value.oneCell'])
              simp only [Nat.add_zero, List.length_singleton, hset] at hrun
              simp [Instr.storeAt, Instr.sureAddr, storeVar, sizeD_run hsz, Value.cells, hrun]
            · cases hst
          · cases hst
        · cases hst
    · cases he
  · cases he
theorem nil_ok [Rho] {x : RV} {o : Oper} {xo : Operand} (ho : o.op = .nilCheck xo) (he : evNil x h = some (r, h')) (hw : RepW P V m g h w) (hx : Rep V m g x (ρ' xo)) :
    ∃ v w', Gives P (execOp ρ' o) w v w' ∧ Good P V m g h w r h' v w' := by
  unfold evNil at he
  split at he
  · cases he
    have hx2 := hx
    simp only [Rep] at hx2
    exact ⟨_, w, .inl (by simp only [execOp, ho]; rw [hx2.2]; rfl), good_same hw (by rw [hx2.2] at hx; exact hx)⟩
  · cases he
    have hx2 := hx
    simp only [Rep] at hx2
    obtain ⟨a, b, e, _⟩ := hx2
    exact ⟨_, w, .inl (by simp only [execOp, ho]; rw [e]; rfl), good_same hw (by rw [e] at hx; exact hx)⟩
  · cases he
    have hx2 := hx
    simp only [Rep] at hx2
    exact ⟨_, w, .inl (by simp only [execOp, ho]; rw [hx2.2]; rfl), good_same hw (by rw [hx2.2] at hx; exact hx)⟩
  · cases he
    have hx2 := hx
    simp only [Rep] at hx2
    obtain ⟨N, _, _, e⟩ := hx2
    exact ⟨_, w, .inl (by simp only [execOp, ho]; rw [e]; rfl), good_same hw (by rw [e] at hx; exact hx)⟩
  · cases he
    have hx2 := hx
    simp only [Rep] at hx2
    obtain ⟨_, N, _, _, e⟩ := hx2
    exact ⟨_, w, .inl (by simp only [execOp, ho]; rw [e]; rfl), good_same hw (by rw [e] at hx; exact hx)⟩
  · cases he
theorem fieldAddr_ok [Rho] {t : TypeId} {x : RV} {x' : Value} {f : Nat} (he : evFieldAddr P t x f h = some (r, h')) (hw : RepW P V m g h w) (hx : Rep V m g x x') :
    ∃ v w', Gives P (do pure (.value (← Instr.fieldAt t x' f))) w v w' ∧ Good P V m g h w r h' v w' := by
  unfold evFieldAddr at he
  split at he
  · rename_i b off
    split at he
    · rename_i fd hfd
      split at he
      · rename_i n hn
        cases he
        obtain ⟨fs, hu, hf⟩ := fieldD_under hfd
        simp only [Rep] at hx
        refine ⟨.pointer (some ⟨m b, off + fd.offset, none⟩), w, .inl ?_, good_same hw (by simp only [Rep]; exact ⟨hx.1, trivial⟩)⟩
        rw [hx.2]
        have hadd : (⟨m b, off, none⟩ : Addr).add fd.offset = ⟨m b, off + fd.offset, none⟩ := by unfold Addr.add; split <;> simp_all
        simp [Instr.fieldAt, run_underlying hu, hf, Instr.sureAddr, fieldPlace, sizeD_run hn, hadd]
      · cases he
    · cases he
  · rename_i id n e
    split at he
    · rename_i fd hfd
      split at he
      · rename_i s hn
        split at he
        · rename_i hb
          have hb := Nat.le_of_ble_eq_true hb
          cases he
          obtain ⟨fs, hu, hf⟩ := fieldD_under hfd
          simp only [Rep] at hx
          obtain ⟨N, e1, e2, rfl⟩ := hx
          refine ⟨.pointer (some ⟨(Rho.fo id).1, (Rho.fo id).2 + (N + fd.offset), none⟩), w, .inl ?_, good_same hw (by simp only [Rep]; exact ⟨N + fd.offset, by simp only [mkAdd_ev, SE.ev, e1]; rfl, by omega, rfl⟩)⟩
          simp [Instr.fieldAt, run_underlying hu, hf, Instr.sureAddr, fieldPlace, sizeD_run hn, add_plain, Nat.add_assoc]
        · cases he
      · cases he
    · cases he
  · rename_i b n lim e
    split at he
    · rename_i fd hfd
      split at he
      · rename_i s hn
        split at he
        · rename_i hb
          have hb := Nat.le_of_ble_eq_true hb
          cases he
          obtain ⟨fs, hu, hf⟩ := fieldD_under hfd
          simp only [Rep] at hx
          obtain ⟨hv, N, e1, e2, rfl⟩ := hx
          refine ⟨.pointer (some ⟨m b, N + fd.offset, none⟩), w, .inl ?_, good_same hw (by simp only [Rep]; exact ⟨hv, N + fd.offset, by simp only [mkAdd_ev, SE.ev, e1]; rfl, by omega, rfl⟩)⟩
          simp [Instr.fieldAt, run_underlying hu, hf, Instr.sureAddr, fieldPlace, sizeD_run hn, add_plain]
        · cases he
      · cases he
    · cases he
  · cases he
theorem indexO_ok [Rho] {D : SE → Option Bool} (hD : DOk D) {t : TypeId} {b sz : Nat} {len : SE} {i : RV} {x' i' : Value} (he : evIndexO P D t b sz len i h = some (r, h')) (hw : RepW P V m g h w) (hx : Rep V m g (.osl b sz len) x') (hi : Rep V m g i i') :
    ∃ v w', Gives P (do pure (.value (← Instr.indexAt t x' i'))) w v w' ∧ Good P V m g h w r h' v w' := by
  unfold evIndexO at he
  split at he
  · rename_i k e hs
    split at he
    · rename_i elem hel
      split at he
      · rename_i size hz
        split at he
        · rename_i hb
          obtain rfl := Nat.eq_of_beq_eq_true hb
          split at he
          · rename_i a0
            split at he
            · rename_i a1
              cases he
              have a0 := askD_ok hD _ _ a0
              have a1 := askD_ok hD _ _ a1
              rw [mkLe_ev] at a0
              rw [mkNot_ev, mkLe_ev] at a1
              have a0 : (0 : Int) ≤ e.ev.i := of_decide_eq_true a0
              simp only [Bool.not_eq_true', decide_eq_false_iff_not] at a1
              obtain rfl := sI_rep hs hi
              simp only [Rep] at hx
              obtain ⟨hv, L, e2, e3, rfl⟩ := hx
              rw [e2] at a1
              obtain ⟨K, hK⟩ : ∃ K : Nat, e.ev.i = K := ⟨e.ev.i.toNat, by omega⟩
              rw [hK] at a0 a1 ⊢
              have hKL : K < L := by omega
              have hu := elemD_under hel
              have h0 : (0 : Int) ≤ (K : Int) ∧ (K : Int) < (L : Int) := by omega
              have hmul : K * size + size ≤ L * size := by
                rw [← Nat.succ_mul]
                exact Nat.mul_le_mul_right _ (by omega)
              refine ⟨.pointer (some ⟨m b, K * size, none⟩), w, .inl ?_, good_same hw ?_⟩
              · simp only [Instr.indexAt, Sem.run_bind, run_underlying hu, Result.andThen_ok, asIntOf, Sem.run_pure]
                simp [h0, sizeD_run hz, add_plain]
              · simp only [Rep]
                refine ⟨hv, K * size, ?_, ?_, rfl⟩
                · rw [mkMul_ev, hK]
                  simp only [SE.ev]
                  push_cast
                  rfl
                · rw [mkMul_ev, e2]
                  have e : (SE.lit (Int.ofNat size)).ev.i = (size : Int) := rfl
                  rw [e]
                  exact_mod_cast hmul
            · cases he
          · cases he
        · cases he
      · cases he
    · cases he
  · cases he
theorem indexF_ok [Rho] {D : SE → Option Bool} (hD : DOk D) {t : TypeId} {id sz : Nat} {off len : SE} {i : RV} {x' i' : Value} (he : evIndexF P D t id sz off len i h = some (r, h')) (hw : RepW P V m g h w) (hx : FSl id sz off.ev.i len.ev.i x') (hi : Rep V m g i i') :
    ∃ v w', Gives P (do pure (.value (← Instr.indexAt t x' i'))) w v w' ∧ Good P V m g h w r h' v w' := by
  unfold evIndexF at he
  split at he
  · rename_i k e hs
    split at he
    · rename_i elem hel
      split at he
      · rename_i size hz
        split at he
        · rename_i hb
          obtain rfl := Nat.eq_of_beq_eq_true hb
          split at he
          · rename_i a0
            split at he
            · rename_i a1
              cases he
              have a0 := askD_ok hD _ _ a0
              have a1 := askD_ok hD _ _ a1
              rw [mkLe_ev] at a0
              rw [mkNot_ev, mkLe_ev] at a1
              have a0 : (0 : Int) ≤ e.ev.i := of_decide_eq_true a0
              simp only [Bool.not_eq_true', decide_eq_false_iff_not] at a1
              obtain rfl := sI_rep hs hi
              obtain ⟨A, c, L, O, rfl, e1, e2, e3, e4, e5⟩ := hx
              rw [e2] at a1
              obtain ⟨K, hK⟩ : ∃ K : Nat, e.ev.i = K := ⟨e.ev.i.toNat, by omega⟩
              rw [hK] at a0 a1 ⊢
              have hKL : K < L := by omega
              have hA := e5 (by omega)
              subst hA
              have hu := elemD_under hel
              have h0 : (0 : Int) ≤ (K : Int) ∧ (K : Int) < (L : Int) := by omega
              have hmul : (O + K) * size + size ≤ (O + L) * size := by
                rw [← Nat.succ_mul]
                exact Nat.mul_le_mul_right _ (by omega)
              refine ⟨.pointer (some ⟨(Rho.fo id).1, (Rho.fo id).2 + (O + K) * size, none⟩), w, .inl ?_, good_same hw ?_⟩
              · simp only [Instr.indexAt, Sem.run_bind, run_underlying hu, Result.andThen_ok, asIntOf, Sem.run_pure]
                simp [h0, sizeD_run hz, add_plain, Nat.add_mul, Nat.add_assoc]
              · simp only [Rep]
                refine ⟨(O + K) * size, ?_, by omega, rfl⟩
                rw [mkMul_ev, mkAdd_ev, e1, hK]
                simp only [SE.ev]
                push_cast
                rfl
            · cases he
          · cases he
        · cases he
      · cases he
    · cases he
  · cases he
theorem indexAddr_ok [Rho] {t : TypeId} {x i : RV} {x' i' : Value} (he : evIndexAddr P t x i h = some (r, h')) (hw : RepW P V m g h w) (hx : Rep V m g x x') (hi : Rep V m g i i') :
    ∃ v w', Gives P (do pure (.value (← Instr.indexAt t x' i'))) w v w' ∧ Good P V m g h w r h' v w' := by
  unfold evIndexAddr at he
  split at he
  · rename_i k hk
    obtain ⟨kd, rfl⟩ := intD_natD hk hi
    have hadd : ∀ (b off n : Nat), (⟨b, off, none⟩ : Addr).add n = ⟨b, off + n, none⟩ := fun b off n => by unfold Addr.add; split <;> simp_all
    split at he
    · rename_i b off len c
      split at he
      · rename_i elem hel
        split at he
        · rename_i hlt
          have hlt : k < len := by simpa [Nat.blt_eq] using hlt
          cases hz : sizeD P elem with
          | none => rw [hz] at he; cases he
          | some size =>
            rw [hz] at he
            simp only [Option.map_some, Option.some.injEq, Prod.mk.injEq] at he
            obtain ⟨rfl, rfl⟩ := he
            have hx2 : V b ∧ ∃ c, x' = .slice (some ⟨m b, off, none⟩) len c := by
              cases c <;> simp only [Rep] at hx
              · exact ⟨hx.1, _, hx.2.2⟩
              · exact ⟨hx.1, _, hx.2⟩
            obtain ⟨hv, c', rfl⟩ := hx2
            refine ⟨.pointer (some ⟨m b, off + k * size, none⟩), w, .inl ?_, good_same hw (by simp only [Rep]; exact ⟨hv, trivial⟩)⟩
            have hu := elemD_under hel
            have h0 : (0 : Int) ≤ (k : Int) ∧ (k : Int) < (len : Int) := by omega
            simp [Instr.indexAt, run_underlying hu, asIntOf, h0, sizeD_run hz, hadd]
            intro hge
            omega
        · cases he
      · cases he
    · rename_i b off
      split at he
      · rename_i len elem hel
        split at he
        · rename_i hlt
          have hlt : k < len := by simpa [Nat.blt_eq] using hlt
          cases hz : sizeD P elem with
          | none => rw [hz] at he; cases he
          | some size =>
            rw [hz] at he
            simp only [Option.map_some, Option.some.injEq, Prod.mk.injEq] at he
            obtain ⟨rfl, rfl⟩ := he
            simp only [Rep] at hx
            refine ⟨.pointer (some ⟨m b, off + k * size, none⟩), w, .inl ?_, good_same hw (by simp only [Rep]; exact ⟨hx.1, trivial⟩)⟩
            have hu := arrayD_under hel
            have h0 : (0 : Int) ≤ (k : Int) ∧ (k : Int) < (len : Int) := by omega
            rw [hx.2]
            simp [Instr.indexAt, run_underlying hu, asIntOf, Instr.sureAddr, h0, sizeD_run hz, hadd]
            intro hge
            omega
        · cases he
      · cases he
    · cases he
  · cases he
end
end Go.Proofs.Ytmglofemnobakaa
