/- Calls reckoned: append, len, copy. -/
import Derived.Test.YtmglofemnobakaaEvx
namespace Go.Proofs.Ytmglofemnobakaa
open Go.RowKit

section
variable {P : Program} {V : Nat → Prop} {m g : Nat → Nat} {h h' : RH} {w w' : World} {ρ : Operand → RV} {ρ' : Operand → Value} {o : Oper} {r : RV} {v : Value}

theorem growOk_some {elem : TypeId} {n : Nat} (hg : growOk P elem n = true) : ∃ i z, P.info? elem = some i ∧ i.zero = some z ∧ z.cells.size = i.size ∧ 0 < i.size ∧ n ≤ 100000 ∧ n * i.bytes ≤ 10000000000 := by
  unfold growOk at hg
  split at hg
  · rename_i i hi
    split at hg
    · rename_i z hz
      simp only [Bool.and_eq_true] at hg
      obtain ⟨⟨⟨a1, a2⟩, a3⟩, a4⟩ := hg
      have a3 := Nat.le_of_ble_eq_true a3
      have a4 := Nat.le_of_ble_eq_true a4
      refine ⟨i, z, hi, hz, Nat.eq_of_beq_eq_true a1, by simpa [Nat.blt_eq] using a2, a3, ?_⟩
      have := Nat.mul_le_mul a3 a4
      omega
    · cases hg
  · cases hg
/-- the row that append makes -/
theorem grown_ok [Rho] {elem : TypeId} {i : TypeInfo} (hi : P.info? elem = some i) (hw : RepW P V m g h w) {L : Nat} {cs : List RV} {xs : List Value} (hc : RepL V m g cs xs) (hl : xs.length = L * i.size) {C : Nat} (hC : L ≤ C) {rest : Array Value} (hr : rest.size = (C - L) * i.size) {w' : World}
    (hx : w'.heap = w.heap.push (.cells (xs.toArray ++ rest) elem)) (ho : w'.os = w.os) (ht : w'.tape = w.tape) (hp : w'.output = w.output) :
    Good P V m g h w (.slc h.n 0 L none) (h.push (.cells cs elem true)) (.slice (some ⟨w.heap.size, 0, none⟩) L C) w' := by
  have hlen := repL_len hc
  have := push_step (w' := w') hw (.cells cs elem true) C hx ho ht hp (by
    refine ⟨xs.toArray ++ rest, ?_, by simp; omega, ?_, fun _ => ⟨i.size, ?_, ?_⟩⟩
    · simp only [if_true]
      rw [hx]
      simp
    · have e : (xs.toArray ++ rest).toList.take cs.length = xs := by simp [← hlen]
      rw [e]
      exact repL_mono (fun k hk => ⟨.inl hk, by have := hw.lt k hk; simp [show k ≠ h.n by omega]⟩) _ _ hc
    · simp [sizeD, hi]
    · simp only [if_true, Array.size_append, List.size_toArray, hl, hr, ← Nat.add_mul]
      congr 1
      omega)
  refine ⟨_, _, this.1, ?_, this.2⟩
  simp only [Rep]
  exact ⟨.inr ⟨Nat.le_refl _, by rw [push_n]; omega⟩, by simpa using hC, by simp⟩

theorem appendNew_info {elem : TypeId} {L : Nat} {cs : List RV} (he : appendNew P h elem L cs = some (r, h')) : growOk P elem L = true ∧ r = .slc h.n 0 L none ∧ h' = h.push (.cells cs elem true) := by
  unfold appendNew at he
  split at he
  · rename_i hg; cases he; exact ⟨hg, rfl, rfl⟩
  · cases he

theorem appendD_ok [Rho] {t elem : TypeId} {ty : TypeId} {size : Nat} {s : RV} {s' : Value} {cs : List RV} {n : Nat} {xs : List Value} {a : Addr} {c : Nat} (hu : P.underlying t = some (.slice elem)) (hs : sizeD P elem = some size)
    (he : appendD P h elem size s cs n = some (r, h')) (hw : RepW P V m g h w) (hr : Rep V m g s s') (hc : RepL V m g cs xs) (hxl : xs.length = n * size) (hxs : ∀ j u, xs[j]? = some u → w.cell? (a.add j) = some u) :
    ∃ v w', (Builtin.append_ #[t, t] ty #[s', .slice (some a) n c]).run P w = .ok v w' ∧ Good P V m g h w r h' v w' := by
  obtain ⟨i0, hi0, hsz0⟩ := sizeD_info hs
  unfold appendD at he
  split at he
  · -- onto nil
    simp only [Rep] at hr
    subst hr
    cases n with
    | zero =>
      simp only [Option.some.injEq, Prod.mk.injEq] at he
      obtain ⟨rfl, rfl⟩ := he
      refine ⟨.slice none 0 0, w, ?_, good_same hw (by simp [Rep])⟩
      simp [Builtin.append_, run_underlying hu, sizeOf, typeInfo, hi0, Builtin.lenOf, Builtin.firstCells, loadCells, loadCellsFrom]
    | succ n =>
      simp only at he
      obtain ⟨hg, rfl, rfl⟩ := appendNew_info he
      obtain ⟨i, z, hi, hz, hzs, hsz, hn, hb⟩ := growOk_some hg
      rw [hi] at hi0
      cases hi0
      have hrun := run_append_nil (P := P) w t ty elem i0 z hu hi hz a (n + 1) c xs (by rw [hxl, hsz0]) hxs (by omega) (by omega) (by omega)
      refine ⟨_, _, hrun, grown_ok hi hw hc (by rw [hxl, hsz0]) (grownCap_ge w (n + 1) 0 elem) (rest := Builtin.zeroCells z.cells (grownCap w (n + 1) 0 elem - (n + 1))) (by rw [size_zeroCells, hzs]) rfl rfl rfl rfl⟩
  · -- a slice whose room is known
    rename_i b off len k
    simp only [Rep] at hr
    obtain ⟨hvb, rfl⟩ := hr
    unfold appendIn at he
    split at he
    · rename_i hle
      have hle := Nat.le_of_ble_eq_true hle
      split at he
      · unfold appendRoom at he
        split at he
        · rename_i hones
          split at he
          · rename_i l t0 gr hat
            split at he
            · rename_i hte
              have hte := Nat.eq_of_beq_eq_true hte
              subst hte
              cases hl : layN (len * size) cs l with
              | none => rw [hl] at he; cases he
              | some l' =>
                rw [hl] at he
                simp only [Option.map_some, Option.some.injEq, Prod.mk.injEq] at he
                obtain ⟨rfl, rfl⟩ := he
                obtain ⟨hfit, rfl⟩ := layN_some hl
                obtain ⟨cur, c1, c2, c3, c4⟩ := setRow_ok (w := w) hw hat hfit hc
                have hrun := run_append_room (P := P) w t ty t0 i0 hu hi0 (m b) len k cur c1 a n c xs (by rw [hxl, hsz0]) hxs (repL_ones hones hc) hle (by rw [hsz0]; exact c2)
                rw [hsz0] at hrun
                exact ⟨_, _, hrun, m, g, c3, by simp only [Rep]; exact ⟨.inl hvb, trivial⟩, by rw [vx_self (put_n ..)]; exact c4⟩
            · cases he
          · cases he
        · cases he
      · cases he
    · rename_i hgt
      have hgt : k < len + n := by
        rcases Nat.lt_or_ge k (len + n) with hq | hq
        · exact hq
        · rw [Nat.ble_eq_true_of_le hq] at hgt; cases hgt
      cases hold : rcells h b off (len * size) with
      | none => rw [hold] at he; cases he
      | some old =>
        rw [hold] at he
        simp only [Option.bind_some] at he
        obtain ⟨hg, rfl, rfl⟩ := appendNew_info he
        obtain ⟨i, z, hi, hz, hzs, hsz, hn, hb⟩ := growOk_some hg
        rw [hi] at hi0
        cases hi0
        obtain ⟨ys, y1, y2, _, y4⟩ := rcells_cells hold hw
        have hrun := run_append_grow (P := P) w t ty elem i0 z hu hi hz ⟨m b, off, none⟩ len k ys (by rw [y2, hsz0]) y4 a n c xs (by rw [hxl, hsz0]) hxs hgt (by omega) (growslice_fits hgt (by omega))
        refine ⟨_, _, hrun, ?_⟩
        have := grown_ok (w' := w.drew.alloc (.cells (ys.toArray ++ xs.toArray ++ Builtin.zeroCells z.cells (grownCap w (len + n) k elem - (len + n))) elem)) hi hw (repL_append y1 hc) (L := len + n) (by rw [List.length_append, y2, hxl, hsz0, Nat.add_mul]) (grownCap_ge w (len + n) k elem) (rest := Builtin.zeroCells z.cells (grownCap w (len + n) k elem - (len + n))) (by rw [size_zeroCells, hzs]) (by show w.heap.push _ = w.heap.push _; simp) rfl rfl rfl
        exact this
  · -- a slice that append made
    rename_i b len
    simp only [Rep] at hr
    obtain ⟨hvb, hlg, rfl⟩ := hr
    unfold appendOn at he
    split at he
    · rename_i hones
      split at he
      · rename_i l t0 hat
        split at he
        · rename_i hte
          have hte := Nat.eq_of_beq_eq_true hte
          subst hte
          cases htk : takeN 0 (len * size) l with
          | none => rw [htk] at he; cases he
          | some old =>
            rw [htk] at he
            simp only [Option.bind_some] at he
            obtain ⟨hg, rfl, rfl⟩ := appendNew_info he
            obtain ⟨i, z, hi, hz, hzs, hsz, hn, hb⟩ := growOk_some hg
            rw [hi] at hi0
            cases hi0
            obtain ⟨hlen, rfl⟩ := takeN_some htk
            obtain ⟨_, cur, c1, c2, c3, c4⟩ := hw.live b _ hat
            obtain ⟨sz, s1, s2⟩ := c4 rfl
            rw [hs] at s1
            cases s1
            simp only [List.drop_zero, Nat.zero_add] at hlen ⊢
            have y1 : RepL V m g (l.take (len * size)) (cur.toList.take (len * size)) := by
              have := repL_take (len * size) c3
              rw [List.take_take, Nat.min_eq_left hlen] at this
              exact this
            have y2 : (cur.toList.take (len * size)).length = len * size := by simp; omega
            have hcat := repL_append y1 hc
            have hcl : (cur.toList.take (len * size) ++ xs).length = (len + n) * size := by rw [List.length_append, y2, hxl, Nat.add_mul]
            by_cases hroom : len + n ≤ g b
            · have hfit : len * i0.size + xs.length ≤ cur.size := by rw [hsz0, hxl, s2, ← Nat.add_mul]; exact Nat.mul_le_mul_right _ hroom
              have hrun := run_append_room (P := P) w t ty t0 i0 hu hi (m b) len (g b) cur c1 a n c xs (by rw [hxl, hsz0]) hxs (repL_ones hones hc) hroom hfit
              rw [hsz0] at hrun hfit
              refine ⟨_, _, hrun, ?_⟩
              have := move_step (w' := w.setRow (m b) (cur.toList.take (len * size) ++ xs ++ cur.toList.drop (len * size + xs.length)).toArray) hw hat (.cells (l.take (len * size) ++ cs) t0 true) (m b) (g b)
                (fun B _ hB => setRow_other w (m b) B _ hB) (.inl rfl) (by simp) rfl rfl rfl (by
                  refine ⟨_, by simp only [if_true]; exact setRow_heap w (m b) cur _ t0 _ c1, ?_, ?_, fun _ => ⟨size, hs, ?_⟩⟩
                  · have := repL_len hcat
                    simp only [List.size_toArray, List.length_append] at this ⊢
                    omega
                  · have e : (cur.toList.take (len * size) ++ xs ++ cur.toList.drop (len * size + xs.length)).take (l.take (len * size) ++ cs).length = cur.toList.take (len * size) ++ xs := by
                      rw [← repL_len hcat]
                      exact List.take_left
                    rw [List.toList_toArray, e]
                    exact repL_mono (fun k hk => ⟨.inl hk, by have := hw.lt k hk; simp [show k ≠ h.n by omega]⟩) _ _ hcat
                  · simp only [if_true, List.size_toArray, List.length_append, y2, List.length_drop, Array.length_toList]
                    omega)
              refine ⟨_, _, this.1, ?_, this.2⟩
              simp only [Rep]
              refine ⟨.inr ⟨Nat.le_refl _, ?_⟩, by rw [put_n]; simpa using hroom, by rw [put_n]; simp⟩
              show h.n < h.n + 1
              omega
            · have hgt : g b < len + n := by omega
              have y4 : ∀ j u, (cur.toList.take (len * size))[j]? = some u → w.cell? ((⟨m b, 0, none⟩ : Addr).add j) = some u := fun j u hj => by
                have hadd : (⟨m b, 0, none⟩ : Addr).add j = ⟨m b, j, none⟩ := by unfold Addr.add; split <;> simp_all
                rw [hadd]
                rw [List.getElem?_take] at hj
                split at hj
                · simpa [World.cell?, c1] using hj
                · cases hj
              have hrun := run_append_grow (P := P) w t ty t0 i0 z hu hi hz ⟨m b, 0, none⟩ len (g b) _ (by rw [y2, hsz0]) y4 a n c xs (by rw [hxl, hsz0]) hxs hgt (by omega) (growslice_fits hgt (by omega))
              refine ⟨_, _, hrun, ?_⟩
              have hge := grownCap_ge w (len + n) (g b) t0
              have := move_step (w' := w.drew.alloc (.cells ((cur.toList.take (len * size)).toArray ++ xs.toArray ++ Builtin.zeroCells z.cells (grownCap w (len + n) (g b) t0 - (len + n))) t0)) hw hat (.cells (l.take (len * size) ++ cs) t0 true) w.heap.size (grownCap w (len + n) (g b) t0)
                (fun B hB _ => Below.heap_alloc w.drew _ B hB) (.inr (Nat.le_refl _)) (by simp) rfl rfl rfl (by
                  refine ⟨_, by simp only [if_true]; exact heap_alloc_new w.drew _, ?_, ?_, fun _ => ⟨size, hs, ?_⟩⟩
                  · have := repL_len hcat
                    simp only [List.length_append] at this
                    simp only [Array.size_append, List.size_toArray, List.length_append]
                    omega
                  · have e : ((cur.toList.take (len * size)).toArray ++ xs.toArray ++ Builtin.zeroCells z.cells (grownCap w (len + n) (g b) t0 - (len + n))).toList.take (l.take (len * size) ++ cs).length = cur.toList.take (len * size) ++ xs := by
                      rw [← repL_len hcat]
                      simp only [Array.toList_append]
                      exact List.take_left
                    rw [e]
                    exact repL_mono (fun k hk => ⟨.inl hk, by have := hw.lt k hk; simp [show k ≠ h.n by omega]⟩) _ _ hcat
                  · simp only [if_true, Array.size_append, List.size_toArray, y2, hxl, size_zeroCells, hzs, hsz0, ← Nat.add_mul]
                    congr 1
                    omega)
              refine ⟨_, _, this.1, ?_, this.2⟩
              simp only [Rep]
              refine ⟨.inr ⟨Nat.le_refl _, ?_⟩, by rw [put_n]; simpa using hge, by rw [put_n]; simp⟩
              show h.n < h.n + 1
              omega
        · cases he
      · cases he
    · cases he
  · cases he
theorem appendNil_ok [Rho] {t elem : TypeId} {ty : TypeId} {size : Nat} {s : RV} {s' : Value} (hu : P.underlying t = some (.slice elem)) (hs : sizeD P elem = some size) (he : appendNil s h = some (r, h')) (hw : RepW P V m g h w) (hr : Rep V m g s s') :
    ∃ v w', (Builtin.append_ #[t, t] ty #[s', .slice none 0 0]).run P w = .ok v w' ∧ Good P V m g h w r h' v w' := by
  obtain ⟨i0, hi0, hsz0⟩ := sizeD_info hs
  have hr0 := hr
  have key : ∀ (b : Addr) (len k : Nat), len ≤ k → (Builtin.append_ #[t, t] ty #[.slice (some b) len k, .slice none 0 0]).run P w = .ok (.slice (some b) len k) w := fun b len k hle => by
    simp [Builtin.append_, run_underlying hu, sizeOf, typeInfo, hi0, Builtin.lenOf, Builtin.firstCells, hle, storeCells]
  unfold appendNil at he
  split at he
  · cases he
    simp only [Rep] at hr
    subst hr
    refine ⟨.slice none 0 0, w, ?_, good_same hw hr0⟩
    simp [Builtin.append_, run_underlying hu, sizeOf, typeInfo, hi0, Builtin.lenOf, Builtin.firstCells]
  · rename_i b off len k
    split at he
    · rename_i hle
      cases he
      simp only [Rep] at hr
      rw [hr.2]
      rw [hr.2] at hr0
      exact ⟨_, w, key _ _ _ (Nat.le_of_ble_eq_true hle), good_same hw hr0⟩
    · cases he
  · cases he
    simp only [Rep] at hr
    rw [hr.2.2]
    rw [hr.2.2] at hr0
    exact ⟨_, w, key _ _ _ hr.2.1, good_same hw hr0⟩
  · cases he
theorem appendMake_ok [Rho] {t elem u : TypeId} {ty : TypeId} {s x : RV} {s' x' : Value} (hu : P.underlying t = some (.slice elem)) (he : appendMake P elem u s x h = some (r, h')) (hw : RepW P V m g h w) (hr : Rep V m g s s') (hx : Rep V m g x x') :
    ∃ v w', (Builtin.append_ #[t, u] ty #[s', x']).run P w = .ok v w' ∧ Good P V m g h w r h' v w' := by
  unfold appendMake at he
  split at he
  · rename_i hty
    have hin : ∃ k, P.underlying u = some (.int k) := by
      unfold intTy at hty
      split at hty
      · rename_i k hk; exact ⟨k, hk⟩
      · cases hty
    obtain ⟨ku, hku⟩ := hin
    split at he
    · simp only [Rep] at hr
      subst hr
      split at he
      · rename_i n hn
        split at he
        · rename_i z hz
          obtain ⟨hg, rfl, rfl⟩ := appendNew_info he
          obtain ⟨i, z', hi, hz', hzs, hsz, hn', hb⟩ := growOk_some hg
          obtain ⟨i2, hi2, hz2⟩ := zeroD_info hz
          rw [hi] at hi2
          cases hi2
          rw [hz'] at hz2
          cases hz2
          obtain ⟨kx, rfl⟩ := intD_natD hn hx
          clear he
          have hN : 0 < n + 1 := by omega
          simp only [Nat.succ_eq_add_one] at *
          generalize n + 1 = N at *
          have hwr : IntKind.i64.wrap (N : Int) = (N : Int) := by rw [IntKind.wrap_i64]; omega
          have hlen : (Builtin.zeroCells z.cells N).toList.length = N * i.size := by simp [size_zeroCells, hzs]
          have hrep : RepL V m g (zerosD (zeroCells z) N) (Builtin.zeroCells z.cells N).toList := made_zeros (V := V) (m := m) (g := g) (z := z) (k := z.cells.size) rfl (by omega) N
          refine ⟨.slice (some ⟨w.heap.size, 0, none⟩) N (grownCap w N 0 elem), w.drew.alloc (.cells (#[] ++ Builtin.zeroCells z.cells N ++ Builtin.zeroCells z.cells (grownCap w N 0 elem - N)) elem), ?_, ?_⟩
          · have e1 : ¬ ((N : Int) < 0) := by omega
            have e2 : ¬ (281474976710656 < (N : Int) * (i.bytes : Int)) := by
              have : ((N * i.bytes : Nat) : Int) ≤ ((10000000000 : Nat) : Int) := Int.ofNat_le.2 hb
              rw [Int.natCast_mul] at this
              omega
            have e3 : ¬ (N = 0) := by omega
            have e4 : ¬ (281474976710656 < Builtin.nextslicecap N 0 * i.bytes) := by rw [nextslicecap_zero hN]; omega
            have e5 : N * i.size ≠ 0 := Nat.mul_ne_zero (by omega) (by omega)
            have e6 : ¬ (9223372036854775807 < (N : Int)) := by omega
            simp [Builtin.append_, run_underlying hu, run_underlying hku, sizeOf, typeInfo, hi, hz', zeroValue, asInt, asIntOf, hwr, e1, e2, e3, e4, e6, Question.forced, run_firstCells_none, newRow, grownCap]
            intro e0
            exact absurd e0 e5
          · exact grown_ok (w' := w.drew.alloc (.cells (#[] ++ Builtin.zeroCells z.cells N ++ Builtin.zeroCells z.cells (grownCap w N 0 elem - N)) elem)) hi hw hrep (L := N) hlen (grownCap_ge w N 0 elem) (rest := Builtin.zeroCells z.cells (grownCap w N 0 elem - N)) (by rw [size_zeroCells, hzs]) (by show w.heap.push _ = w.heap.push _; simp) rfl rfl rfl
        · cases he
      · cases he
    · cases he
  · cases he

theorem growOk_one {elem : TypeId} (hg : growOk P elem 1 = true) : ∃ i z, P.info? elem = some i ∧ i.zero = some z ∧ z.cells.size = i.size ∧ 0 < i.size ∧ ∀ n : Nat, n ≤ 100000 → n * i.bytes ≤ 10000000000 := by
  unfold growOk at hg
  split at hg
  · rename_i i hi
    split at hg
    · rename_i z hz
      simp only [Bool.and_eq_true] at hg
      obtain ⟨⟨⟨a1, a2⟩, a3⟩, a4⟩ := hg
      have a4 := Nat.le_of_ble_eq_true a4
      refine ⟨i, z, hi, hz, Nat.eq_of_beq_eq_true a1, by simpa [Nat.blt_eq] using a2, fun n hn => ?_⟩
      have := Nat.mul_le_mul hn a4
      omega
    · cases hg
  · cases hg
/-- a row that was there before, copied -/
theorem appendF_ok [Rho] {D : SE → Option Bool} (hD : DOk D) {t elem : TypeId} {ty : TypeId} {size id sz : Nat} {off len : SE} {s : RV} {s' x' : Value} (hu : P.underlying t = some (.slice elem)) (hs : sizeD P elem = some size) (he : appendF P D elem size id sz off len s h = some (r, h')) (hw : RepW P V m g h w) (hr : Rep V m g s s') (hx : FSl id sz off.ev.i len.ev.i x') :
    ∃ v w', (Builtin.append_ #[t, t] ty #[s', x']).run P w = .ok v w' ∧ Good P V m g h w r h' v w' := by
  obtain ⟨i0, hi0, hsz0⟩ := sizeD_info hs
  have hr0 := hr
  unfold appendF at he
  split at he
  · rename_i b
    split at he
    · rename_i hq
      simp only [Bool.and_eq_true, decide_eq_true_eq] at hq
      obtain ⟨⟨q1, q2⟩, rfl⟩ := hq
      obtain rfl := Nat.eq_of_beq_eq_true q1
      obtain ⟨i, z, hi, hz, hzs, hsz, hb⟩ := growOk_one q2
      rw [hi] at hi0
      cases hi0
      simp only [Rep] at hr
      obtain ⟨hvb, rfl⟩ := hr
      obtain ⟨A, c, L, O, rfl, e1, e2, e3, e4, e5⟩ := hx
      have hO : O = 0 := by
        have : (SE.lit 0).ev.i = (0 : Int) := rfl
        omega
      subst hO
      split at he
      · rename_i a0
        cases he
        have a0 := askD_ok hD _ _ a0
        rw [mkLe_ev, e2] at a0
        have a0 : (L : Int) ≤ 0 := of_decide_eq_true a0
        obtain rfl : L = 0 := by omega
        refine ⟨_, w, ?_, good_same hw hr0⟩
        cases A with
        | none => simp [Builtin.append_, run_underlying hu, sizeOf, typeInfo, hi, Builtin.lenOf, Builtin.firstCells, storeCells]
        | some a => simp [Builtin.append_, run_underlying hu, sizeOf, typeInfo, hi, Builtin.lenOf, Builtin.firstCells, storeCells, loadCells, loadCellsFrom]
      · rename_i a0
        have a0 := askD_ok hD _ _ a0
        rw [mkLe_ev, e2] at a0
        have a0 : ¬ (L : Int) ≤ 0 := of_decide_eq_false a0
        split at he
        · rename_i a1
          cases he
          have a1 := askD_ok hD _ _ a1
          rw [mkLe_ev, e2] at a1
          have a1 : (L : Int) ≤ 100000 := of_decide_eq_true a1
          have hL0 : 0 < L := by omega
          have hA := e5 hL0
          subst hA
          rw [Nat.zero_add] at e4
          let xs : List Value := (List.range (L * size)).map fun j => .int .i64 (Rho.a id ((j : Nat) : Int))
          have hxl : xs.length = L * i0.size := by simp [xs, hsz0]
          have hxs : ∀ j u, xs[j]? = some u → w.cell? ((⟨(Rho.fo id).1, (Rho.fo id).2 + 0 * size, none⟩ : Addr).add j) = some u := fun j u hu => by
            have hj : j < L * size := by have := (List.getElem?_eq_some_iff.1 hu).1; rw [hxl, hsz0] at this; exact this
            rw [add_plain, Nat.zero_mul, Nat.add_zero, hw.far.cell id j (by omega)]
            simp only [xs, List.getElem?_map, List.getElem?_range hj, Option.map_some] at hu
            exact hu
          have hrun := run_append_grow (P := P) w t ty elem i0 z hu hi hz ⟨m b, 0, none⟩ 0 0 [] (by simp) (by simp) ⟨(Rho.fo id).1, (Rho.fo id).2 + 0 * size, none⟩ L c xs hxl hxs (by omega) (by omega) (growslice_fits (by omega) (by have := hb (0 + L) (by omega); omega))
          refine ⟨_, _, hrun, ?_⟩
          have hge := grownCap_ge w (0 + L) 0 elem
          have := row_push (w' := w.drew.alloc (.cells (([] : List Value).toArray ++ xs.toArray ++ Builtin.zeroCells z.cells (grownCap w (0 + L) 0 elem - (0 + L))) elem)) (ar := .avar id) (rn := len) (sz := size) (N := 0 + L) (C := grownCap w (0 + L) 0 elem) (elem := elem)
            (c := ([] : List Value).toArray ++ xs.toArray ++ Builtin.zeroCells z.cells (grownCap w (0 + L) 0 elem - (0 + L))) hw (by show w.heap.push _ = w.heap.push _; simp) rfl rfl rfl (by rw [e2]; simp) (fun j hj => ?_) ?_ hge
          · exact this
          · rw [Nat.zero_add] at hj
            have hjx : xs[j]? = some (.int .i64 (Rho.a id (j : Int))) := by simp only [xs, List.getElem?_map, List.getElem?_range hj, Option.map_some]
            have hjl : j < xs.length := by rw [hxl, hsz0]; exact hj
            rw [Array.getElem?_append_left (by simpa using hjl)]
            simpa [SE.ev] using hjx
          · simp only [Array.size_append, List.size_toArray, hxl, hsz0, size_zeroCells, hzs]
            simp only [List.length_nil, Nat.zero_add, ← Nat.add_mul] at hge ⊢
            congr 1
            omega
        · cases he
      · cases he
    · cases he
  · cases he
/-- one number more -/
theorem appendO_ok [Rho] {D : SE → Option Bool} (hD : DOk D) {t elem : TypeId} {ty : TypeId} {size b sz : Nat} {len : SE} {s' : Value} {cs : List RV} {n : Nat} {xs : List Value} {a : Addr} {c : Nat} (hu : P.underlying t = some (.slice elem)) (hs : sizeD P elem = some size)
    (he : appendO P D elem size b sz len cs n h = some (r, h')) (hw : RepW P V m g h w) (hr : Rep V m g (.osl b sz len) s') (hc : RepL V m g cs xs) (hxl : xs.length = n * size) (hxs : ∀ j u, xs[j]? = some u → w.cell? (a.add j) = some u) :
    ∃ v w', (Builtin.append_ #[t, t] ty #[s', .slice (some a) n c]).run P w = .ok v w' ∧ Good P V m g h w r h' v w' := by
  obtain ⟨i0, hi0, hsz0⟩ := sizeD_info hs
  unfold appendO at he
  split at he
  · rename_i r0
    split at he
    · rename_i x hsx
      split at he
      · rename_i ar rn el sz' hat
        split at he
        · rename_i hq
          simp only [Bool.and_eq_true, decide_eq_true_eq] at hq
          obtain ⟨⟨⟨⟨⟨⟨q1, q2⟩, q3⟩, q4⟩, q5⟩, q6⟩, rfl⟩ := hq
          obtain rfl := Nat.eq_of_beq_eq_true q1
          obtain rfl := Nat.eq_of_beq_eq_true q2
          obtain rfl := Nat.eq_of_beq_eq_true q3
          obtain rfl := Nat.eq_of_beq_eq_true q4
          obtain rfl := Nat.eq_of_beq_eq_true q5
          obtain ⟨i, z, hi, hz, hzs, hsz, hb⟩ := growOk_one q6
          rw [hi] at hi0
          cases hi0
          split at he
          · rename_i a1
            cases he
            have a1 := askD_ok hD _ _ a1
            rw [mkLe_ev] at a1
            have a1 : rn.ev.i ≤ 99999 := of_decide_eq_true a1
            obtain ⟨v, vs, rfl, hv, hvs⟩ := repL_cons.1 hc
            rw [repL_nil.1 hvs] at hxl hxs
            obtain rfl := sI_rep hsx hv
            simp only [Rep] at hr
            obtain ⟨hvb, L, e1, e2, rfl⟩ := hr
            rw [e1] at a1
            obtain ⟨_, cur, K, c1, c2, c3, c4, c5⟩ := hw.live b _ hat
            obtain rfl : K = L := by omega
            simp only [Nat.mul_one] at c3 c4 c5
            have hrn : (mkAdd rn (.lit 1)).ev.i = ((K + 1 : Nat) : Int) := by
              rw [mkAdd_ev, e1]
              rfl
            have hcont : ∀ (c' : Array Value), (∀ j, j < K → c'[j]? = cur[j]?) → c'[K]? = some (.int .i64 x.ev.i) → ∀ j : Nat, j < (K + 1) * 1 → c'[j]? = some (.int .i64 ((SE.upd ar rn x).ev.a (j : Int))) := fun c' h1 h2 j hj => by
              simp only [SE.ev, e1]
              by_cases e : j = K
              · subst e; rw [if_pos rfl]; exact h2
              · rw [if_neg (by omega), h1 j (by omega)]
                exact c4 j (by omega)
            by_cases hroom : K + 1 ≤ g b
            · have hrun := run_append_room (P := P) w t ty el i0 hu hi (m b) K (g b) cur c1 a 1 c [.int .i64 x.ev.i] (by simp [hsz0]) hxs (by simp [Value.oneCell']) hroom (by simp [hsz0]; omega)
              refine ⟨_, _, hrun, ?_⟩
              have := move_step (w' := w.setRow (m b) (cur.toList.take (K * i0.size) ++ [Value.int .i64 x.ev.i] ++ cur.toList.drop (K * i0.size + [Value.int .i64 x.ev.i].length)).toArray) hw hat (.row (.upd ar rn x) (mkAdd rn (.lit 1)) el 1) (m b) (g b)
                (fun B _ hB => setRow_other w (m b) B _ hB) (.inl rfl) (by simp) rfl rfl rfl (by
                  have hKc : K < cur.size := by omega
                  refine ⟨_, K + 1, by simp only [if_true]; exact setRow_heap w (m b) cur _ el _ c1, hrn, ?_, hcont _ (fun j hj => ?_) ?_, ?_⟩
                  · simp [hsz0]; omega
                  · simp only [hsz0, Nat.mul_one, List.getElem?_toArray]
                    rw [List.append_assoc, List.getElem?_append_left (by simp; omega), List.getElem?_take_of_lt hj]
                    simp
                  · simp only [hsz0, Nat.mul_one, List.getElem?_toArray]
                    rw [List.append_assoc, List.getElem?_append_right (by rw [List.length_take]; exact Nat.min_le_left _ _), List.length_take]
                    have : min K cur.toList.length = K := by simp; omega
                    rw [this]
                    simp
                  · simp [hsz0]; omega)
              refine ⟨_, _, this.1, ?_, this.2⟩
              simp only [Rep]
              exact ⟨.inr ⟨Nat.le_refl _, by show h.n < h.n + 1; omega⟩, K + 1, hrn, by simpa using hroom, by simp⟩
            · have hrun := run_append_grow (P := P) w t ty el i0 z hu hi hz ⟨m b, 0, none⟩ K (g b) (cur.toList.take K) (by simp [hsz0]; omega) (fun j u hj => by
                rw [add_plain, Nat.zero_add, cell_of_row w (m b) j cur el (0, 0) c1]
                rw [List.getElem?_take] at hj
                split at hj
                · simpa using hj
                · cases hj) a 1 c [.int .i64 x.ev.i] (by simp [hsz0]) hxs (by omega) (by omega) (growslice_fits (by omega) (by have := hb (K + 1) (by omega); omega))
              refine ⟨_, _, hrun, ?_⟩
              have hge := grownCap_ge w (K + 1) (g b) el
              have := move_step (w' := w.drew.alloc (.cells ((cur.toList.take K).toArray ++ [Value.int .i64 x.ev.i].toArray ++ Builtin.zeroCells z.cells (grownCap w (K + 1) (g b) el - (K + 1))) el)) hw hat (.row (.upd ar rn x) (mkAdd rn (.lit 1)) el 1) w.heap.size (grownCap w (K + 1) (g b) el)
                (fun B hB _ => Below.heap_alloc w.drew _ B hB) (.inr (Nat.le_refl _)) (by simp) rfl rfl rfl (by
                  have hKc : K ≤ cur.size := by omega
                  have hml : min K cur.size = K := by omega
                  refine ⟨_, K + 1, by simp only [if_true]; exact heap_alloc_new w.drew _, hrn, ?_, hcont _ (fun j hj => ?_) ?_, ?_⟩
                  · simp [size_zeroCells, hzs, hsz0]; omega
                  · rw [Array.append_assoc, Array.getElem?_append_left (by simp; omega)]
                    simp [List.getElem?_take_of_lt hj]
                  · rw [Array.getElem?_append_left (by simp; omega), Array.getElem?_append_right (by simp; omega)]
                    simp [hml]
                  · simp [size_zeroCells, hzs, hsz0]; omega)
              refine ⟨_, _, this.1, ?_, this.2⟩
              simp only [Rep]
              exact ⟨.inr ⟨Nat.le_refl _, by show h.n < h.n + 1; omega⟩, K + 1, hrn, by simpa using hge, by simp⟩
          · cases he
        · cases he
      · cases he
    · cases he
  · cases he
theorem append_ok [Rho] {D : SE → Option Bool} (hD : DOk D) {t u : TypeId} {ty : TypeId} {s x : RV} {s' x' : Value} (he : builtinAppend P D t u s x h = some (r, h')) (hw : RepW P V m g h w) (hr : Rep V m g s s') (hx : Rep V m g x x') :
    ∃ v w', (Builtin.append_ #[t, u] ty #[s', x']).run P w = .ok v w' ∧ Good P V m g h w r h' v w' := by
  unfold builtinAppend at he
  split at he
  · rename_i elem hel
    have hu := elemD_under hel
    split at he
    · rename_i htu
      have htu := Nat.eq_of_beq_eq_true htu
      subst htu
      split at he
      · rename_i size hs
        unfold appendSame at he
        split at he
        · simp only [Rep] at hx
          subst hx
          exact appendNil_ok hu hs he hw hr
        · rename_i b off n c
          have hx2 : ∃ k, x' = .slice (some ⟨m b, off, none⟩) n k := by
            cases c <;> simp only [Rep] at hx
            · exact ⟨_, hx.2.2⟩
            · exact ⟨_, hx.2⟩
          obtain ⟨k, rfl⟩ := hx2
          cases hrc : rcells h b off (n * size) with
          | none =>
            split at he
            · rw [hrc] at he; cases he
            · rw [hrc] at he; cases he
          | some cs =>
            obtain ⟨xs, y1, y2, _, y4⟩ := rcells_cells hrc hw
            split at he
            · rw [hrc] at he
              exact appendO_ok hD hu hs he hw hr y1 y2 y4
            · rw [hrc] at he
              exact appendD_ok hu hs he hw hr y1 y2 y4
        · rename_i id sz off len
          simp only [Rep] at hx
          exact appendF_ok hD hu hs he hw hr hx
        · cases he
      · cases he
    · exact appendMake_ok hu he hw hr hx
  · cases he
theorem copy_ok [Rho] {t : TypeId} {ts : List TypeId} {ty : TypeId} {b off len : Nat} {c : Option Nat} {x : RV} {d' x' : Value} (he : builtinCopy P t b off len x h = some (r, h')) (hw : RepW P V m g h w) (hd : Rep V m g (.slc b off len c) d') (hx : Rep V m g x x') :
    ∃ v w', (Builtin.copy_ (t :: ts).toArray ty #[d', x']).run P w = .ok v w' ∧ Good P V m g h w r h' v w' := by
  have hd2 : V b ∧ ∃ k, d' = .slice (some ⟨m b, off, none⟩) len k := by
    cases c <;> simp only [Rep] at hd
    · exact ⟨hd.1, _, hd.2.2⟩
    · exact ⟨hd.1, _, hd.2⟩
  obtain ⟨hvb, k, rfl⟩ := hd2
  unfold builtinCopy at he
  split at he
  · rename_i elem hel
    have hu := elemD_under hel
    split at he
    · rename_i size hs
      obtain ⟨i0, hi0, hsz0⟩ := sizeD_info hs
      split at he
      · rename_i b2 off2 len2 c2
        cases hrc : rcells h b2 off2 (Nat.min len2 len * size) with
        | none => rw [hrc] at he; cases he
        | some cs =>
          rw [hrc] at he
          simp only [Option.bind_some] at he
          cases hst : rstore h b off cs with
          | none => rw [hst] at he; cases he
          | some h1 =>
            rw [hst] at he
            simp only [Option.map_some, Option.some.injEq, Prod.mk.injEq] at he
            obtain ⟨rfl, rfl⟩ := he
            obtain ⟨xs, y1, y2, _, y4⟩ := rcells_cells hrc hw
            have hx2 : ∃ k, x' = .slice (some ⟨m b2, off2, none⟩) len2 k := by
              cases c2 <;> simp only [Rep] at hx
              · exact ⟨_, hx.2.2⟩
              · exact ⟨_, hx.2⟩
            obtain ⟨k2, rfl⟩ := hx2
            unfold rstore at hst
            split at hst
            · rename_i hones
              split at hst
              · rename_i l t0 gr hat
                cases hl : layN off cs l with
                | none => rw [hl] at hst; cases hst
                | some l' =>
                  rw [hl] at hst
                  simp only [Option.map_some, Option.some.injEq] at hst
                  subst hst
                  obtain ⟨hfit, rfl⟩ := layN_some hl
                  obtain ⟨cur, c1, c2', c3, c4⟩ := setRow_ok (w := w) hw hat hfit y1
                  have hl2 := run_loadCells_list (P := P) w ⟨m b2, off2, none⟩ xs y4
                  rw [y2] at hl2
                  have hst2 := run_storeCells_at P (m b) off t0 xs 0 cur w c1 (by simpa using c2') (repL_ones hones y1)
                  simp only [Nat.add_zero] at hst2
                  refine ⟨_, _, ?_, m, g, c3, by simp [Rep]; rfl, by rw [vx_self (put_n ..)]; exact c4⟩
                  simp [Builtin.copy_, run_underlying hu, Builtin.lenOf, sizeOf, typeInfo, hi0, hsz0, Builtin.firstCells, hl2, hst2, goInt]
              · cases hst
            · cases hst
      · cases he
        simp only [Rep] at hx
        subst hx
        refine ⟨.int .i64 0, w, ?_, good_same hw (by simp [Rep])⟩
        simp [Builtin.copy_, run_underlying hu, Builtin.lenOf, sizeOf, typeInfo, hi0, Builtin.firstCells, storeCells, goInt]
      · cases he
    · cases he
  · cases he
end
end Go.Proofs.Ytmglofemnobakaa
