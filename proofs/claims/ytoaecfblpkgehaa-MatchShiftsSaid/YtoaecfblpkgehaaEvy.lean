/- Calls reckoned: append, len, copy. -/
import Derived.Test.YtoaecfblpkgehaaEvx
namespace Go.Proofs.Ytoaecfblpkgehaa
open Go.RowKit

section
variable {P : Program} {V : Nat → Prop} {m g : Nat → Nat} {h h' : RH} {w w' : World} {ρ : Operand → RV} {ρ' : Operand → Value} {o : Oper} {r : RV} {v : Value}

theorem growOk_some {elem : TypeId} {n : Nat} (hg : growOk P elem n = true) : ∃ i z, P.info? elem = some i ∧ i.zero = some z ∧ z.cells.size = i.size ∧ 0 < i.size ∧ n ≤ 100000 ∧ n * i.bytes ≤ 10000000000 := by
  unfold growOk at hg
  split at hg
  · rename_i i hi
    split at hg
    · rename_i z hz
      simp only [Bool.and_eq_true] at hg
      obtain ⟨⟨⟨a1, a2⟩, a3⟩, a4⟩ := hg
      have a3 := Nat.le_of_ble_eq_true a3
      have a4 := Nat.le_of_ble_eq_true a4
      refine ⟨i, z, hi, hz, Nat.eq_of_beq_eq_true a1, by simpa [Nat.blt_eq] using a2, a3, ?_⟩
      have := Nat.mul_le_mul a3 a4
      omega
    · cases hg
  · cases hg
/-- the row that append makes -/
theorem grown_ok {elem : TypeId} {i : TypeInfo} (hi : P.info? elem = some i) (hw : RepW P V m g h w) {L : Nat} {cs : List RV} {xs : List Value} (hc : RepL V m g cs xs) (hl : xs.length = L * i.size) {C : Nat} (hC : L ≤ C) {rest : Array Value} (hr : rest.size = (C - L) * i.size) {w' : World}
    (hx : w'.heap = w.heap.push (.cells (xs.toArray ++ rest) elem)) (ho : w'.os = w.os) (ht : w'.tape = w.tape) (hp : w'.output = w.output) :
    Good P V m g h w (.slc h.n 0 L none) (h.push (.cells cs elem true)) (.slice (some ⟨w.heap.size, 0, none⟩) L C) w' := by
  have hlen := repL_len hc
  have := push_step (w' := w') hw (.cells cs elem true) C hx ho ht hp (by
    refine ⟨xs.toArray ++ rest, ?_, by simp; omega, ?_, fun _ => ⟨i.size, ?_, ?_⟩⟩
    · simp only [if_true]
      rw [hx]
      simp
    · have e : (xs.toArray ++ rest).toList.take cs.length = xs := by simp [← hlen]
      rw [e]
      exact repL_mono (fun k hk => ⟨.inl hk, by have := hw.lt k hk; simp [show k ≠ h.n by omega]⟩) _ _ hc
    · simp [sizeD, hi]
    · simp only [if_true, Array.size_append, List.size_toArray, hl, hr, ← Nat.add_mul]
      congr 1
      omega)
  refine ⟨_, _, this.1, ?_, this.2⟩
  simp only [Rep]
  exact ⟨.inr ⟨Nat.le_refl _, by rw [push_n]; omega⟩, by simpa using hC, by simp⟩

theorem appendNew_info {elem : TypeId} {L : Nat} {cs : List RV} (he : appendNew P h elem L cs = some (r, h')) : growOk P elem L = true ∧ r = .slc h.n 0 L none ∧ h' = h.push (.cells cs elem true) := by
  unfold appendNew at he
  split at he
  · rename_i hg; cases he; exact ⟨hg, rfl, rfl⟩
  · cases he

theorem appendD_ok {t elem : TypeId} {ty : TypeId} {size : Nat} {s : RV} {s' : Value} {cs : List RV} {n : Nat} {xs : List Value} {a : Addr} {c : Nat} (hu : P.underlying t = some (.slice elem)) (hs : sizeD P elem = some size)
    (he : appendD P h elem size s cs n = some (r, h')) (hw : RepW P V m g h w) (hr : Rep V m g s s') (hc : RepL V m g cs xs) (hxl : xs.length = n * size) (hxs : ∀ j u, xs[j]? = some u → w.cell? (a.add j) = some u) :
    ∃ v w', (Builtin.append_ #[t, t] ty #[s', .slice (some a) n c]).run P w = .ok v w' ∧ Good P V m g h w r h' v w' := by
  obtain ⟨i0, hi0, hsz0⟩ := sizeD_info hs
  unfold appendD at he
  split at he
  · -- onto nil
    simp only [Rep] at hr
    subst hr
    cases n with
    | zero =>
      simp only [Option.some.injEq, Prod.mk.injEq] at he
      obtain ⟨rfl, rfl⟩ := he
      refine ⟨.slice none 0 0, w, ?_, good_same hw (by simp [Rep])⟩
      simp [Builtin.append_, run_underlying hu, sizeOf, typeInfo, hi0, Builtin.lenOf, Builtin.firstCells, loadCells, loadCellsFrom]
    | succ n =>
      simp only at he
      obtain ⟨hg, rfl, rfl⟩ := appendNew_info he
      obtain ⟨i, z, hi, hz, hzs, hsz, hn, hb⟩ := growOk_some hg
      rw [hi] at hi0
      cases hi0
      have hrun := run_append_nil (P := P) w t ty elem i0 z hu hi hz a (n + 1) c xs (by rw [hxl, hsz0]) hxs (by omega) (by omega) (by omega)
      refine ⟨_, _, hrun, grown_ok hi hw hc (by rw [hxl, hsz0]) (grownCap_ge w (n + 1) 0 elem) (rest := Builtin.zeroCells z.cells (grownCap w (n + 1) 0 elem - (n + 1))) (by rw [size_zeroCells, hzs]) rfl rfl rfl rfl⟩
  · -- a slice whose room is known
    rename_i b off len k
    simp only [Rep] at hr
    obtain ⟨hvb, rfl⟩ := hr
    unfold appendIn at he
    split at he
    · rename_i hle
      have hle := Nat.le_of_ble_eq_true hle
      split at he
      · unfold appendRoom at he
        split at he
        · rename_i hones
          split at he
          · rename_i l t0 gr hat
            split at he
            · rename_i hte
              have hte := Nat.eq_of_beq_eq_true hte
              subst hte
              cases hl : layN (len * size) cs l with
              | none => rw [hl] at he; cases he
              | some l' =>
                rw [hl] at he
                simp only [Option.map_some, Option.some.injEq, Prod.mk.injEq] at he
                obtain ⟨rfl, rfl⟩ := he
                obtain ⟨hfit, rfl⟩ := layN_some hl
                obtain ⟨cur, c1, c2, c3, c4⟩ := setRow_ok (w := w) hw hat hfit hc
                have hrun := run_append_room (P := P) w t ty t0 i0 hu hi0 (m b) len k cur c1 a n c xs (by rw [hxl, hsz0]) hxs (repL_ones hones hc) hle (by rw [hsz0]; exact c2)
                rw [hsz0] at hrun
                exact ⟨_, _, hrun, m, g, c3, by simp only [Rep]; exact ⟨.inl hvb, trivial⟩, by rw [vx_self (put_n ..)]; exact c4⟩
            · cases he
          · cases he
        · cases he
      · cases he
    · rename_i hgt
      have hgt : k < len + n := by
        rcases Nat.lt_or_ge k (len + n) with hq | hq
        · exact hq
        · rw [Nat.ble_eq_true_of_le hq] at hgt; cases hgt
      cases hold : rcells h b off (len * size) with
      | none => rw [hold] at he; cases he
      | some old =>
        rw [hold] at he
        simp only [Option.bind_some] at he
        obtain ⟨hg, rfl, rfl⟩ := appendNew_info he
        obtain ⟨i, z, hi, hz, hzs, hsz, hn, hb⟩ := growOk_some hg
        rw [hi] at hi0
        cases hi0
        obtain ⟨ys, y1, y2, _, y4⟩ := rcells_cells hold hw
        have hrun := run_append_grow (P := P) w t ty elem i0 z hu hi hz ⟨m b, off, none⟩ len k ys (by rw [y2, hsz0]) y4 a n c xs (by rw [hxl, hsz0]) hxs hgt (by omega) (growslice_fits hgt (by omega))
        refine ⟨_, _, hrun, ?_⟩
        have := grown_ok (w' := w.drew.alloc (.cells (ys.toArray ++ xs.toArray ++ Builtin.zeroCells z.cells (grownCap w (len + n) k elem - (len + n))) elem)) hi hw (repL_append y1 hc) (L := len + n) (by rw [List.length_append, y2, hxl, hsz0, Nat.add_mul]) (grownCap_ge w (len + n) k elem) (rest := Builtin.zeroCells z.cells (grownCap w (len + n) k elem - (len + n))) (by rw [size_zeroCells, hzs]) (by show w.heap.push _ = w.heap.push _; simp) rfl rfl rfl
        exact this
  · -- a slice that append made
    rename_i b len
    simp only [Rep] at hr
    obtain ⟨hvb, hlg, rfl⟩ := hr
    unfold appendOn at he
    split at he
    · rename_i hones
      split at he
      · rename_i l t0 hat
        split at he
        · rename_i hte
          have hte := Nat.eq_of_beq_eq_true hte
          subst hte
          cases htk : takeN 0 (len * size) l with
          | none => rw [htk] at he; cases he
          | some old =>
            rw [htk] at he
            simp only [Option.bind_some] at he
            obtain ⟨hg, rfl, rfl⟩ := appendNew_info he
            obtain ⟨i, z, hi, hz, hzs, hsz, hn, hb⟩ := growOk_some hg
            rw [hi] at hi0
            cases hi0
            obtain ⟨hlen, rfl⟩ := takeN_some htk
            obtain ⟨_, cur, c1, c2, c3, c4⟩ := hw.live b _ hat
            obtain ⟨sz, s1, s2⟩ := c4 rfl
            rw [hs] at s1
            cases s1
            simp only [List.drop_zero, Nat.zero_add] at hlen ⊢
            have y1 : RepL V m g (l.take (len * size)) (cur.toList.take (len * size)) := by
              have := repL_take (len * size) c3
              rw [List.take_take, Nat.min_eq_left hlen] at this
              exact this
            have y2 : (cur.toList.take (len * size)).length = len * size := by simp; omega
            have hcat := repL_append y1 hc
            have hcl : (cur.toList.take (len * size) ++ xs).length = (len + n) * size := by rw [List.length_append, y2, hxl, Nat.add_mul]
            by_cases hroom : len + n ≤ g b
            · have hfit : len * i0.size + xs.length ≤ cur.size := by rw [hsz0, hxl, s2, ← Nat.add_mul]; exact Nat.mul_le_mul_right _ hroom
              have hrun := run_append_room (P := P) w t ty t0 i0 hu hi (m b) len (g b) cur c1 a n c xs (by rw [hxl, hsz0]) hxs (repL_ones hones hc) hroom hfit
              rw [hsz0] at hrun hfit
              refine ⟨_, _, hrun, ?_⟩
              have := move_step (w' := w.setRow (m b) (cur.toList.take (len * size) ++ xs ++ cur.toList.drop (len * size + xs.length)).toArray) hw hat (.cells (l.take (len * size) ++ cs) t0 true) (m b) (g b)
                (fun B _ hB => setRow_other w (m b) B _ hB) (.inl rfl) (by simp) rfl rfl rfl (by
                  refine ⟨_, by simp only [if_true]; exact setRow_heap w (m b) cur _ t0 _ c1, ?_, ?_, fun _ => ⟨size, hs, ?_⟩⟩
                  · have := repL_len hcat
                    simp only [List.size_toArray, List.length_append] at this ⊢
                    omega
                  · have e : (cur.toList.take (len * size) ++ xs ++ cur.toList.drop (len * size + xs.length)).take (l.take (len * size) ++ cs).length = cur.toList.take (len * size) ++ xs := by
                      rw [← repL_len hcat]
                      exact List.take_left
                    rw [List.toList_toArray, e]
                    exact repL_mono (fun k hk => ⟨.inl hk, by have := hw.lt k hk; simp [show k ≠ h.n by omega]⟩) _ _ hcat
                  · simp only [if_true, List.size_toArray, List.length_append, y2, List.length_drop, Array.length_toList]
                    omega)
              refine ⟨_, _, this.1, ?_, this.2⟩
              simp only [Rep]
              refine ⟨.inr ⟨Nat.le_refl _, ?_⟩, by rw [put_n]; simpa using hroom, by rw [put_n]; simp⟩
              show h.n < h.n + 1
              omega
            · have hgt : g b < len + n := by omega
              have y4 : ∀ j u, (cur.toList.take (len * size))[j]? = some u → w.cell? ((⟨m b, 0, none⟩ : Addr).add j) = some u := fun j u hj => by
                have hadd : (⟨m b, 0, none⟩ : Addr).add j = ⟨m b, j, none⟩ := by unfold Addr.add; split <;> simp_all
                rw [hadd]
                rw [List.getElem?_take] at hj
                split at hj
                · simpa [World.cell?, c1] using hj
                · cases hj
              have hrun := run_append_grow (P := P) w t ty t0 i0 z hu hi hz ⟨m b, 0, none⟩ len (g b) _ (by rw [y2, hsz0]) y4 a n c xs (by rw [hxl, hsz0]) hxs hgt (by omega) (growslice_fits hgt (by omega))
              refine ⟨_, _, hrun, ?_⟩
              have hge := grownCap_ge w (len + n) (g b) t0
              have := move_step (w' := w.drew.alloc (.cells ((cur.toList.take (len * size)).toArray ++ xs.toArray ++ Builtin.zeroCells z.cells (grownCap w (len + n) (g b) t0 - (len + n))) t0)) hw hat (.cells (l.take (len * size) ++ cs) t0 true) w.heap.size (grownCap w (len + n) (g b) t0)
                (fun B hB _ => heap_alloc_old w.drew _ B hB) (.inr (Nat.le_refl _)) (by simp) rfl rfl rfl (by
                  refine ⟨_, by simp only [if_true]; exact heap_alloc_new w.drew _, ?_, ?_, fun _ => ⟨size, hs, ?_⟩⟩
                  · have := repL_len hcat
                    simp only [List.length_append] at this
                    simp only [Array.size_append, List.size_toArray, List.length_append]
                    omega
                  · have e : ((cur.toList.take (len * size)).toArray ++ xs.toArray ++ Builtin.zeroCells z.cells (grownCap w (len + n) (g b) t0 - (len + n))).toList.take (l.take (len * size) ++ cs).length = cur.toList.take (len * size) ++ xs := by
                      rw [← repL_len hcat]
                      simp only [Array.toList_append]
                      exact List.take_left
                    rw [e]
                    exact repL_mono (fun k hk => ⟨.inl hk, by have := hw.lt k hk; simp [show k ≠ h.n by omega]⟩) _ _ hcat
                  · simp only [if_true, Array.size_append, List.size_toArray, y2, hxl, size_zeroCells, hzs, hsz0, ← Nat.add_mul]
                    congr 1
                    omega)
              refine ⟨_, _, this.1, ?_, this.2⟩
              simp only [Rep]
              refine ⟨.inr ⟨Nat.le_refl _, ?_⟩, by rw [put_n]; simpa using hge, by rw [put_n]; simp⟩
              show h.n < h.n + 1
              omega
        · cases he
      · cases he
    · cases he
  · cases he
theorem appendNil_ok {t elem : TypeId} {ty : TypeId} {size : Nat} {s : RV} {s' : Value} (hu : P.underlying t = some (.slice elem)) (hs : sizeD P elem = some size) (he : appendNil s h = some (r, h')) (hw : RepW P V m g h w) (hr : Rep V m g s s') :
    ∃ v w', (Builtin.append_ #[t, t] ty #[s', .slice none 0 0]).run P w = .ok v w' ∧ Good P V m g h w r h' v w' := by
  obtain ⟨i0, hi0, hsz0⟩ := sizeD_info hs
  have hr0 := hr
  have key : ∀ (b : Addr) (len k : Nat), len ≤ k → (Builtin.append_ #[t, t] ty #[.slice (some b) len k, .slice none 0 0]).run P w = .ok (.slice (some b) len k) w := fun b len k hle => by
    simp [Builtin.append_, run_underlying hu, sizeOf, typeInfo, hi0, Builtin.lenOf, Builtin.firstCells, hle, storeCells]
  unfold appendNil at he
  split at he
  · cases he
    simp only [Rep] at hr
    subst hr
    refine ⟨.slice none 0 0, w, ?_, good_same hw hr0⟩
    simp [Builtin.append_, run_underlying hu, sizeOf, typeInfo, hi0, Builtin.lenOf, Builtin.firstCells]
  · rename_i b off len k
    split at he
    · rename_i hle
      cases he
      simp only [Rep] at hr
      rw [hr.2]
      rw [hr.2] at hr0
      exact ⟨_, w, key _ _ _ (Nat.le_of_ble_eq_true hle), good_same hw hr0⟩
    · cases he
  · cases he
    simp only [Rep] at hr
    rw [hr.2.2]
    rw [hr.2.2] at hr0
    exact ⟨_, w, key _ _ _ hr.2.1, good_same hw hr0⟩
  · cases he
theorem appendMake_ok {t elem u : TypeId} {ty : TypeId} {s x : RV} {s' x' : Value} (hu : P.underlying t = some (.slice elem)) (he : appendMake P elem u s x h = some (r, h')) (hw : RepW P V m g h w) (hr : Rep V m g s s') (hx : Rep V m g x x') :
    ∃ v w', (Builtin.append_ #[t, u] ty #[s', x']).run P w = .ok v w' ∧ Good P V m g h w r h' v w' := by
  unfold appendMake at he
  split at he
  · rename_i hty
    have hin : ∃ k, P.underlying u = some (.int k) := by
      unfold intTy at hty
      split at hty
      · rename_i k hk; exact ⟨k, hk⟩
      · cases hty
    obtain ⟨ku, hku⟩ := hin
    split at he
    · simp only [Rep] at hr
      subst hr
      split at he
      · rename_i n hn
        split at he
        · rename_i z hz
          obtain ⟨hg, rfl, rfl⟩ := appendNew_info he
          obtain ⟨i, z', hi, hz', hzs, hsz, hn', hb⟩ := growOk_some hg
          obtain ⟨i2, hi2, hz2⟩ := zeroD_info hz
          rw [hi] at hi2
          cases hi2
          rw [hz'] at hz2
          cases hz2
          obtain ⟨kx, rfl⟩ := intD_natD hn hx
          clear he
          have hN : 0 < n + 1 := by omega
          simp only [Nat.succ_eq_add_one] at *
          generalize n + 1 = N at *
          have hwr : IntKind.i64.wrap (N : Int) = (N : Int) := by rw [IntKind.wrap_i64]; omega
          have hlen : (Builtin.zeroCells z.cells N).toList.length = N * i.size := by simp [size_zeroCells, hzs]
          have hrep : RepL V m g (zerosD (zeroCells z) N) (Builtin.zeroCells z.cells N).toList := made_zeros (V := V) (m := m) (g := g) (z := z) (k := z.cells.size) rfl (by omega) N
          refine ⟨.slice (some ⟨w.heap.size, 0, none⟩) N (grownCap w N 0 elem), w.drew.alloc (.cells (#[] ++ Builtin.zeroCells z.cells N ++ Builtin.zeroCells z.cells (grownCap w N 0 elem - N)) elem), ?_, ?_⟩
          · have e1 : ¬ ((N : Int) < 0) := by omega
            have e2 : ¬ (281474976710656 < (N : Int) * (i.bytes : Int)) := by
              have : ((N * i.bytes : Nat) : Int) ≤ ((10000000000 : Nat) : Int) := Int.ofNat_le.2 hb
              rw [Int.natCast_mul] at this
              omega
            have e3 : ¬ (N = 0) := by omega
            have e4 : ¬ (281474976710656 < Builtin.nextslicecap N 0 * i.bytes) := by rw [nextslicecap_zero hN]; omega
            have e5 : N * i.size ≠ 0 := Nat.mul_ne_zero (by omega) (by omega)
            have e6 : ¬ (9223372036854775807 < (N : Int)) := by omega
            simp [Builtin.append_, run_underlying hu, run_underlying hku, sizeOf, typeInfo, hi, hz', zeroValue, asInt, asIntOf, hwr, e1, e2, e3, e4, e6, Question.forced, run_firstCells_none, newRow, grownCap]
            intro e0
            exact absurd e0 e5
          · exact grown_ok (w' := w.drew.alloc (.cells (#[] ++ Builtin.zeroCells z.cells N ++ Builtin.zeroCells z.cells (grownCap w N 0 elem - N)) elem)) hi hw hrep (L := N) hlen (grownCap_ge w N 0 elem) (rest := Builtin.zeroCells z.cells (grownCap w N 0 elem - N)) (by rw [size_zeroCells, hzs]) (by show w.heap.push _ = w.heap.push _; simp) rfl rfl rfl
        · cases he
      · cases he
    · cases he
  · cases he

theorem append_ok {t u : TypeId} {ty : TypeId} {s x : RV} {s' x' : Value} (he : builtinAppend P t u s x h = some (r, h')) (hw : RepW P V m g h w) (hr : Rep V m g s s') (hx : Rep V m g x x') :
    ∃ v w', (Builtin.append_ #[t, u] ty #[s', x']).run P w = .ok v w' ∧ Good P V m g h w r h' v w' := by
  unfold builtinAppend at he
  split at he
  · rename_i elem hel
    have hu := elemD_under hel
    split at he
    · rename_i htu
      have htu := Nat.eq_of_beq_eq_true htu
      subst htu
      split at he
      · rename_i size hs
        unfold appendSame at he
        split at he
        · simp only [Rep] at hx
          subst hx
          exact appendNil_ok hu hs he hw hr
        · rename_i b off n c
          cases hrc : rcells h b off (n * size) with
          | none => rw [hrc] at he; cases he
          | some cs =>
            rw [hrc] at he
            simp only [Option.bind_some] at he
            obtain ⟨xs, y1, y2, _, y4⟩ := rcells_cells hrc hw
            have hx2 : ∃ k, x' = .slice (some ⟨m b, off, none⟩) n k := by
              cases c <;> simp only [Rep] at hx
              · exact ⟨_, hx.2.2⟩
              · exact ⟨_, hx.2⟩
            obtain ⟨k, rfl⟩ := hx2
            exact appendD_ok hu hs he hw hr y1 y2 y4
        · cases he
      · cases he
    · exact appendMake_ok hu he hw hr hx
  · cases he
theorem copy_ok {t : TypeId} {ts : List TypeId} {ty : TypeId} {b off len : Nat} {c : Option Nat} {x : RV} {d' x' : Value} (he : builtinCopy P t b off len x h = some (r, h')) (hw : RepW P V m g h w) (hd : Rep V m g (.slc b off len c) d') (hx : Rep V m g x x') :
    ∃ v w', (Builtin.copy_ (t :: ts).toArray ty #[d', x']).run P w = .ok v w' ∧ Good P V m g h w r h' v w' := by
  have hd2 : V b ∧ ∃ k, d' = .slice (some ⟨m b, off, none⟩) len k := by
    cases c <;> simp only [Rep] at hd
    · exact ⟨hd.1, _, hd.2.2⟩
    · exact ⟨hd.1, _, hd.2⟩
  obtain ⟨hvb, k, rfl⟩ := hd2
  unfold builtinCopy at he
  split at he
  · rename_i elem hel
    have hu := elemD_under hel
    split at he
    · rename_i size hs
      obtain ⟨i0, hi0, hsz0⟩ := sizeD_info hs
      split at he
      · rename_i b2 off2 len2 c2
        cases hrc : rcells h b2 off2 (Nat.min len2 len * size) with
        | none => rw [hrc] at he; cases he
        | some cs =>
          rw [hrc] at he
          simp only [Option.bind_some] at he
          cases hst : rstore h b off cs with
          | none => rw [hst] at he; cases he
          | some h1 =>
            rw [hst] at he
            simp only [Option.map_some, Option.some.injEq, Prod.mk.injEq] at he
            obtain ⟨rfl, rfl⟩ := he
            obtain ⟨xs, y1, y2, _, y4⟩ := rcells_cells hrc hw
            have hx2 : ∃ k, x' = .slice (some ⟨m b2, off2, none⟩) len2 k := by
              cases c2 <;> simp only [Rep] at hx
              · exact ⟨_, hx.2.2⟩
              · exact ⟨_, hx.2⟩
            obtain ⟨k2, rfl⟩ := hx2
            unfold rstore at hst
            split at hst
            · rename_i hones
              split at hst
              · rename_i l t0 gr hat
                cases hl : layN off cs l with
                | none => rw [hl] at hst; cases hst
                | some l' =>
                  rw [hl] at hst
                  simp only [Option.map_some, Option.some.injEq] at hst
                  subst hst
                  obtain ⟨hfit, rfl⟩ := layN_some hl
                  obtain ⟨cur, c1, c2', c3, c4⟩ := setRow_ok (w := w) hw hat hfit y1
                  have hl2 := run_loadCells_list (P := P) w ⟨m b2, off2, none⟩ xs y4
                  rw [y2] at hl2
                  have hst2 := run_storeCells_at P (m b) off t0 xs 0 cur w c1 (by simpa using c2') (repL_ones hones y1)
                  simp only [Nat.add_zero] at hst2
                  refine ⟨_, _, ?_, m, g, c3, by simp [Rep]; rfl, by rw [vx_self (put_n ..)]; exact c4⟩
                  simp [Builtin.copy_, run_underlying hu, Builtin.lenOf, sizeOf, typeInfo, hi0, hsz0, Builtin.firstCells, hl2, hst2, goInt]
              · cases hst
            · cases hst
      · cases he
        simp only [Rep] at hx
        subst hx
        refine ⟨.int .i64 0, w, ?_, good_same hw (by simp [Rep])⟩
        simp [Builtin.copy_, run_underlying hu, Builtin.lenOf, sizeOf, typeInfo, hi0, Builtin.firstCells, storeCells, goInt]
      · cases he
    · cases he
  · cases he
end
end Go.Proofs.Ytoaecfblpkgehaa
