/- Contract: an orbit is copied into memory of its own. -/
import Derived.Test.YtnaanninmkplfaaOps
import Derived.Laws.AppendOwnNone
namespace Go.Proofs.Ytnaanninmkplfaa
open Go.RowKit
set_option maxHeartbeats 400000
set_option maxRecDepth 100000

theorem infoS : (Try.prog.info? 56).map (fun i => (i.zero, i.size, i.bytes)) = some (some (.agg #[.int .i64 0, .int .i64 0, .int .i64 0, .int .i64 0, .int .i64 0]), 5, 40) := by kernel_rfl

/-- the cells of states -/
def stL (S : Nat → Nat → Int) (n : Nat) : List Value := (List.range (n * 5)).map fun j => .int .i64 (S (j / 5) (j % 5))
theorem stL_len (S : Nat → Nat → Int) (n : Nat) : (stL S n).length = n * 5 := by simp [stL]
theorem stL_get {S : Nat → Nat → Int} {n j : Nat} {u : Value} (h : (stL S n)[j]? = some u) : j < n * 5 ∧ u = .int .i64 (S (j / 5) (j % 5)) := by
  have hlt : j < n * 5 := by
    have := (List.getElem?_eq_some_iff.1 h).1
    rwa [stL_len] at this
  refine ⟨hlt, ?_⟩
  unfold stL at h
  rw [List.getElem?_map, List.getElem?_range hlt] at h
  simpa using h.symm
theorem stL_at {S : Nat → Nat → Int} {n i j : Nat} (hi : i < n) (hj : j < 5) : (stL S n)[i * 5 + j]? = some (.int .i64 (S i j)) := by
  unfold stL
  rw [List.getElem?_map, List.getElem?_range (by omega), Option.map_some, show (i * 5 + j) / 5 = i by omega, show (i * 5 + j) % 5 = j by omega]
theorem stL_one (S : Nat → Nat → Int) (n : Nat) : ∀ u ∈ stL S n, u.oneCell' = true := by
  intro u hu
  unfold stL at hu
  obtain ⟨j, _, rfl⟩ := List.mem_map.1 hu
  rfl

/-- an orbit in memory of its own -/
def CO (s : ByteArray) (b : Int) (n : Nat) (S : Nat → Nat → Int) (w : World) (e : Ending) (w' : World) : Prop :=
  ∃ A c, e = .returned (.agg #[.string s, .int .i64 b, .slice A n c]) ∧ St w' A n S ∧ n ≤ c ∧ c ≤ maxLen ∧ (A = none → c = 0) ∧ w'.ownsRow w.heap.size 56 5 (.slice A n c) n (stL S n) ∧ Below w.heap.size w w'

theorem st_own {w : World} {base n : Nat} {v : Value} {S : Nat → Nat → Int} (h : w.ownsRow base 56 5 v n (stL S n)) : ∃ A c, v = .slice A n c ∧ St w A n S ∧ n ≤ c ∧ c ≤ maxLen ∧ (A = none → c = 0) := by
  rcases h.2 with ⟨rfl, h0⟩ | ⟨g, cap, cur, rfl, hb, hg, hnc, hcm, hr⟩
  · exact ⟨none, 0, by rw [h0], fun h1 => by omega, by omega, by unfold maxLen; omega, fun _ => rfl⟩
  · refine ⟨_, _, rfl, fun _ => ⟨g, 0, rfl, (Array.getElem?_eq_some_iff.1 hg).1, fun i hi j hj => ?_⟩, hnc, hcm, fun e => by cases e⟩
    rw [Nat.zero_add]
    exact (World.ownsRow.cellAt h (i * 5 + j) (by omega)).trans (stL_at hi hj)

theorem st_of_own {w : World} {base n c : Nat} {A : Option Addr} {S : Nat → Nat → Int} (h : w.ownsRow base 56 5 (.slice A n c) n (stL S n)) : St w A n S := by
  obtain ⟨A', c', e, hs, _⟩ := st_own h
  cases e
  exact hs

theorem own_base5 {w : World} {B B' : Nat} {e : TypeId} {size : Nat} {v : Value} {n : Nat} {xs : List Value} (h : w.ownsRow B' e size v n xs) (hB : B ≤ B') : w.ownsRow B e size v n xs := by
  obtain ⟨h1, h2⟩ := h
  refine ⟨h1, ?_⟩
  rcases h2 with h2 | ⟨g, cap, cur, hv, hg, r⟩
  · exact Or.inl h2
  · exact Or.inr ⟨g, cap, cur, hv, by omega, r⟩

theorem copy_any (s : ByteArray) (b : Int) (A : Option Addr) (n c : Nat) (S : Nat → Nat → Int) (w : World) (hS : St w A n S) (hn : n ≤ 1000) (hA : A = none → c = 0) :
    Calls Try.prog 19 #[.agg #[.string s, .int .i64 b, .slice A n c]] w (CO s b n S w) := by
  obtain ⟨i0, hi, hz0, hz1, hz2⟩ := info_parts infoS
  have HI := Lib.hid hi
  have HZ0 := Lib.hid hz0
  have HZ1 := Lib.hid hz1
  have HZ2 := Lib.hid hz2
  have HS := Lib.hid hS
  have HN := Lib.hid hn
  clear hi hz0 hz1 hz2 hS hn
  cases A with
  | none =>
    obtain rfl := hA rfl
    have h0 : n = 0 := by
      rcases Nat.eq_zero_or_pos n with h | h
      · exact h
      · obtain ⟨_, _, e, _⟩ := HS.out h
        cases e
    subst h0
    clear hA
    go_enter Try.func19, Try.ntmps19
    go_wp2_with (at_builtin; refine wpList_append_own_none _ rfl (.tmp 3) (.tmp 5) 22 rfl w.heap.size 56 i0 5 Try.underlying22 HI.out (.slice (some ⟨w.heap.size + 1 + 1, 0, none⟩) 0 0) 0 [] rfl ⟨by simp, .inr ⟨w.heap.size + 1 + 1, 0, #[], rfl, by omega, at_new (by simp), by omega, by unfold maxLen; omega, rfl, rfl⟩⟩ rfl ?_)
    refine bodyPost_ret (v := .agg #[.string s, .int .i64 b, .slice (some ⟨w.heap.size + 1 + 1, 0, none⟩) 0 0]) ?h1 rfl ⟨_, _, rfl, fun h => absurd h (by omega), by omega, by unfold maxLen; omega, (fun e => by cases e), ?h2, ?_⟩
    case h2 => exact ⟨by simp [stL], .inr ⟨w.heap.size + 1 + 1, 0, #[], rfl, by omega, by first | exact at_new (by simp) | exact ((((at_new (by simp)).far (by simp; omega) _).far (by simp; omega) _).far (by simp; omega) _).far (by simp; omega) _, by omega, by unfold maxLen; omega, rfl, rfl⟩⟩
    case h1 => simp [results, Try.results19, go_sem, *]
    repeat (first | (with_reducible exact Below.refl _ _) | (with_reducible refine below_set ?_ (by first | omega | (simp; omega))) | (with_reducible refine below_new ?_ (by first | omega | (simp; done) | (simp; omega))))
  | some a =>
    obtain ⟨bk, off, spot⟩ := a
    clear hA
    have hb3 : Below w.heap.size w (((w.alloc (.cells #[.string s, .int .i64 b, .slice (some ⟨bk, off, spot⟩) n c] 24)).alloc (.cells #[.string { data := #[] }, .int .i64 0, .slice none 0 0] 24)).alloc (.cells #[] 56)) := by
      repeat (first | (with_reducible exact Below.refl _ _) | (with_reducible refine below_new ?_ (by first | omega | (simp; done) | (simp; omega))))
    have hnews : ∀ (j : Nat) (u : Value), (stL S n)[j]? = some u → (((w.alloc (.cells #[.string s, .int .i64 b, .slice (some ⟨bk, off, spot⟩) n c] 24)).alloc (.cells #[.string { data := #[] }, .int .i64 0, .slice none 0 0] 24)).alloc (.cells #[] 56)).cell? ((⟨bk, off, spot⟩ : Addr).add j) = some u := fun j u hu => by
      obtain ⟨h1, rfl⟩ := stL_get hu
      obtain ⟨b2, o2, e, hl, hc⟩ := HS.out (by omega)
      cases e
      have h2 := hc (j / 5) (by omega) (j % 5) (by omega)
      rw [show j / 5 * 5 + j % 5 = j by omega] at h2
      have h3 := (hb3.cell (p := ⟨bk, off + j, none⟩) hl).trans h2
      have ha : (⟨bk, off, none⟩ : Addr).add j = ⟨bk, off + j, none⟩ := by unfold Addr.add; split <;> simp_all
      rw [ha]
      exact h3
    have hq1 : At (((w.alloc (.cells #[.string s, .int .i64 b, .slice (some ⟨bk, off, spot⟩) n c] 24)).alloc (.cells #[.string { data := #[] }, .int .i64 0, .slice none 0 0] 24)).alloc (.cells #[] 56)) w.heap.size 24 #[.string s, .int .i64 b, .slice (some ⟨bk, off, spot⟩) n c] := ((At.new w _ _).alloc _).alloc _
    have hq2 : At (((w.alloc (.cells #[.string s, .int .i64 b, .slice (some ⟨bk, off, spot⟩) n c] 24)).alloc (.cells #[.string { data := #[] }, .int .i64 0, .slice none 0 0] 24)).alloc (.cells #[] 56)) (w.heap.size + 1) 24 #[.string { data := #[] }, .int .i64 0, .slice none 0 0] := (at_new (by simp)).alloc _
    have hq3 : (((w.alloc (.cells #[.string s, .int .i64 b, .slice (some ⟨bk, off, spot⟩) n c] 24)).alloc (.cells #[.string { data := #[] }, .int .i64 0, .slice none 0 0] 24)).alloc (.cells #[] 56)).ownsRow (w.heap.size + 1 + 1) 56 5 (.slice (some ⟨w.heap.size + 1 + 1, 0, none⟩) 0 0) 0 [] := ⟨by simp, .inr ⟨w.heap.size + 1 + 1, 0, #[], rfl, by omega, at_new (by simp), by omega, by unfold maxLen; omega, rfl, rfl⟩⟩
    have HB3 := Lib.hid hb3
    have HNE := Lib.hid hnews
    have HQ1 := Lib.hid hq1
    have HQ2 := Lib.hid hq2
    have HQ3 := Lib.hid hq3
    clear hb3 hnews hq1 hq2 hq3
    go_enter Try.func19, Try.ntmps19
    go_wp2_with (at_builtin; refine wpList_append_own _ rfl (.tmp 3) (.tmp 5) 22 rfl (w.heap.size + 1 + 1) 56 i0 (.agg #[.int .i64 0, .int .i64 0, .int .i64 0, .int .i64 0, .int .i64 0]) 5 40 Try.underlying22 HI.out HZ0.out HZ1.out HZ2.out rfl (by decide) (.slice (some ⟨w.heap.size + 1 + 1, 0, none⟩) 0 0) 0 [] rfl HQ3.out ⟨bk, off, spot⟩ n c (stL S n) rfl (stL_len S n) HNE.out (stL_one S n) (by have := HN.out; unfold maxLen; omega) (by have := HN.out; omega) (by simp) ?_; intro v' w1 hown' hgw _; obtain ⟨A1, c1, rfl, hst1, hn1, hc1, ha1⟩ := st_own (S := S) (n := n) (by simpa using hown'); have r1 := at_grown HQ1.out hgw (by simp [Value.ownBlock]; omega); have r2 := at_grown HQ2.out hgw (by simp [Value.ownBlock]); have t0 := r1.cell 0; have t1 := r1.cell 1; have t2 := r1.cell 2; have u0 := r2.cell 0; have u1 := r2.cell 1; have u2 := r2.cell 2; have v0 := r1.free 2; have v1 := r2.free 0; have v2 := r2.free 1; have v3 := r2.free 2; simp at t0 t1 t2 u0 u1 u2)
    have hb4 : Below w.heap.size w w1 := HB3.out.grown hgw (by simp; omega) (fun k h => by simp [Value.ownBlock] at h; omega)
    refine bodyPost_ret (v := .agg #[.string s, .int .i64 b, .slice A1 n c1]) ?h1 rfl ⟨_, _, rfl, ?_, hn1, hc1, ha1, ?_, ?_⟩
    case h1 => simp [results, Try.results19, go_sem, *]
    · refine st_of_own (base := w.heap.size + 1 + 1) (c := c1) ?_
      have ho : w1.ownsRow (w.heap.size + 1 + 1) 56 5 (.slice A1 n c1) n (stL S n) := by simpa using hown'
      exact ownsRow_setCell_below (ownsRow_setCell_below (ownsRow_setCell_below (ownsRow_setCell_below ho (by simp; omega) _) (by simp) _) (by simp) _) (by simp) _
    · have ho : w1.ownsRow (w.heap.size + 1 + 1) 56 5 (.slice A1 n c1) n (stL S n) := by simpa using hown'
      exact own_base5 (ownsRow_setCell_below (ownsRow_setCell_below (ownsRow_setCell_below (ownsRow_setCell_below ho (by simp; omega) _) (by simp) _) (by simp) _) (by simp) _) (by omega)
    · repeat (first | (with_reducible exact hb4) | (with_reducible refine below_set ?_ (by first | omega | (simp; omega))))
end Go.Proofs.Ytnaanninmkplfaa
