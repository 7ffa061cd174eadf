/- A flight, opened: its orbit, and its parts in memory. -/
import Derived.Test.YtjfgfkahgjjcoaaOen
import Derived.Test.YtjfgfkahgjjcoaaOoq
import Derived.Test.YtjfgfkahgjjcoaaLsu
import Derived.Laws.IdiomArrays
namespace Go.Proofs.Ytjfgfkahgjjcoaa
open Go.ChangeShapes Go.WideShapes Go.ChangeAt Go.RowKit Go.Joins Go.Deep
set_option maxRecDepth 100000
variable {H : Type} {enc : TypeId × Value → H} {w : World} {base : Nat} {spare : Nat → Bool} {held : Bool}

theorem three_ints {fuel : Nat} {cs : List Value} {x : DataW H × List MemPlace} (h : DataW.trod enc Try.prog w base spare held fuel 84 cs = some x) :
    ∃ f : Nat → Int, ∀ j, j < 3 → cs[j]? = some (.int .i64 (f j)) := by
  obtain ⟨_, _, _, _, hl, _, _⟩ := DataW.trod_array Try.underlying84 h
  have c3 : Try.prog.cellsOf 84 = 3 := by kernel_rfl
  rw [c3] at hl
  match cs, hl with
  | [a, b, c], _ =>
    obtain ⟨y0, y1, y2, m, _, h0, h1, h2⟩ := trod_array3 Try.underlying84 (by kernel_rfl) h
    obtain ⟨n0, e0, _, _⟩ := DataW.trod_int Try.underlying3 h0
    obtain ⟨n1, e1, _, _⟩ := DataW.trod_int Try.underlying3 h1
    obtain ⟨n2, e2, _, _⟩ := DataW.trod_int Try.underlying3 h2
    simp only [List.cons.injEq, and_true] at e0 e1 e2
    subst e0 e1 e2
    refine ⟨fun j => [n0, n1, n2].getD j 0, fun j hj => ?_⟩
    match j, hj with
    | 0, _ => rfl
    | 1, _ => rfl
    | 2, _ => rfl

theorem parts_open {fuel : Nat} {v : Value} {x : DataW H × List MemPlace} (h2 : DataW.trod enc Try.prog w base spare held fuel 81 [v] = some x) :
    ∃ (A : Option Addr) (m cm : Nat) (Q : Nat → Nat → Int), v = .slice A m cm ∧ Pt w A m Q ∧ m ≤ cm ∧ cm ≤ maxLen := by
  rcases open_slice Try.underlying81 h2 with ⟨e2, _⟩ | ⟨a, len, cap, k, n', D, Pl, e2, _, hl, hm, hk, _, hi⟩
  · simp only [List.cons.injEq, and_true] at e2
    subst e2
    exact ⟨none, 0, 0, fun _ _ => 0, rfl, fun hn => absurd hn (by omega), Nat.le_refl _, Nat.zero_le _⟩
  · simp only [List.cons.injEq, and_true] at e2
    subst e2
    have c3 : Try.prog.cellsOf 84 = 3 := by kernel_rfl
    have hlk : len ≤ k := by rw [hk]; split <;> omega
    have each : ∀ i, i < len → ∃ f : Nat → Int, ∀ j, j < 3 → w.cell? (a.add (i * 3 + j)) = some (.int .i64 (f j)) := fun i hil => by
      obtain ⟨cs', hc, ht⟩ := hi i (by omega)
      rw [c3] at hc
      obtain ⟨f, hf⟩ := three_ints ht
      obtain ⟨_, _, hat⟩ := World.cells?_some hc
      refine ⟨f, fun j hj => ?_⟩
      rw [← Go.Deep.add_add, hat j hj]
      exact hf j hj
    refine ⟨some a, len, cap, fun i => if h : i < len then Classical.choose (each i h) else fun _ => 0, rfl, fun hn => ?_, hl, hm⟩
    obtain ⟨bk, off, spot⟩ := a
    have h00 := Classical.choose_spec (each 0 hn) 0 (by omega)
    have hspot : spot = none := by simpa [Addr.add] using World.cell?_spot h00
    subst hspot
    refine ⟨bk, off, rfl, ?_, fun i hil j hj => ?_⟩
    · rcases Nat.lt_or_ge bk w.heap.size with g | g
      · exact g
      · have : w.heap[bk]? = none := Array.getElem?_eq_none g
        simp [World.cell?, Addr.add, this] at h00
    · have := Classical.choose_spec (each i hil) j hj
      rw [Go.WideShapes.add_plain] at this
      simp only [dif_pos hil]
      exact this

theorem orbit_cells {fuel : Nat} {v0 v1 v2 : Value} {x : DataW H × List MemPlace} (h : DataW.trod enc Try.prog w base spare held fuel 24 [v0, v1, v2] = some x) :
    ∃ (s : ByteArray) (b : Int) (A : Option Addr) (n c : Nat) (S : Nat → Nat → Int), (v0 = .string s ∧ v1 = .int .i64 b ∧ v2 = .slice A n c) ∧ OrbIn w s b A n c S := by
  obtain ⟨xs, m, _, _, _, hxs, hg⟩ := DataW.trod_struct Try.underlying24 h
  have c1 : Try.prog.cellsOf 3 = 1 := by kernel_rfl
  have cs1 : Try.prog.cellsOf 9 = 1 := by kernel_rfl
  have cl1 : Try.prog.cellsOf 22 = 1 := by kernel_rfl
  have n3 : xs.length = 3 := hxs
  match xs, n3 with
  | [y0, y1, y2], _ =>
    have h0 : DataW.trod enc Try.prog w base spare held m 9 (([v0, v1, v2].drop 0).take (Try.prog.cellsOf 9)) = some y0 := hg 0 _ rfl
    have h1 : DataW.trod enc Try.prog w base spare held m 3 (([v0, v1, v2].drop 1).take (Try.prog.cellsOf 3)) = some y1 := hg 1 _ rfl
    have h2 : DataW.trod enc Try.prog w base spare held m 22 (([v0, v1, v2].drop 2).take (Try.prog.cellsOf 22)) = some y2 := hg 2 _ rfl
    rw [cs1] at h0
    rw [c1] at h1
    rw [cl1] at h2
    simp only [List.drop, List.take] at h0 h1 h2
    obtain ⟨s, e0, _, hs⟩ := DataW.trod_string Try.underlying9 h0
    obtain ⟨b, e1, _, w1⟩ := DataW.trod_int Try.underlying3 h1
    simp only [List.cons.injEq, and_true] at e0 e1
    subst e0 e1
    rcases open_slice Try.underlying22 h2 with ⟨e2, _⟩ | ⟨a, len, cap, k, n', D, Pl, e2, _, hl, hm, hk, _, hi⟩
    · simp only [List.cons.injEq, and_true] at e2
      subst e2
      exact ⟨s, b, none, 0, 0, fun _ _ => 0, ⟨rfl, rfl, rfl⟩, hs, Nat.zero_le _, Nat.zero_le _, i64_of w1, fun hn => absurd hn (by omega), fun i hn => absurd hn (by omega), fun _ => rfl⟩
    · simp only [List.cons.injEq, and_true] at e2
      subst e2
      have c5 : Try.prog.cellsOf 56 = 5 := by kernel_rfl
      have hlk : len ≤ k := by rw [hk]; split <;> omega
      have each : ∀ i, i < len → ∃ f : Nat → Int, ∀ j, j < 5 → w.cell? (a.add (i * 5 + j)) = some (.int .i64 (f j)) ∧ I64 (f j) := fun i hil => by
        obtain ⟨cs', hc, ht⟩ := hi i (by omega)
        rw [c5] at hc
        obtain ⟨_, f, hf⟩ := state_ints ht
        obtain ⟨_, _, hat⟩ := World.cells?_some hc
        refine ⟨f, fun j hj => ⟨?_, (hf j hj).2⟩⟩
        rw [← Go.Deep.add_add, hat j hj]
        exact (hf j hj).1
      refine ⟨s, b, some a, len, cap, fun i => if h : i < len then Classical.choose (each i h) else fun _ => 0, ⟨rfl, rfl, rfl⟩, hs, hl, hm, i64_of w1, fun hn => ?_, fun i hil j hj => ?_, fun e => by cases e⟩
      · obtain ⟨bk, off, spot⟩ := a
        have h00 := (Classical.choose_spec (each 0 hn) 0 (by omega)).1
        have hspot : spot = none := by simpa [Addr.add] using World.cell?_spot h00
        subst hspot
        refine ⟨bk, off, rfl, ?_, fun i hil j hj => ?_⟩
        · rcases Nat.lt_or_ge bk w.heap.size with g | g
          · exact g
          · have : w.heap[bk]? = none := Array.getElem?_eq_none g
            simp [World.cell?, Addr.add, this] at h00
        · have := (Classical.choose_spec (each i hil) j hj).1
          rw [Go.WideShapes.add_plain] at this
          simp only [dif_pos hil]
          exact this
      · simp only [dif_pos hil]
        exact (Classical.choose_spec (each i hil) j hj).2

theorem flight_open {r : Reach} {b0 : Nat} {v : Value} {d : DataW H} {p : List MemPlace} (hv : Value.okWide Try.prog w r b0 83 v) (h : DataW.Trod enc Try.prog w base spare held 83 v d p) :
    ∃ (s : ByteArray) (b : Int) (A : Option Addr) (n c : Nat) (S : Nat → Nat → Int) (AP : Option Addr) (m cm : Nat) (Q : Nat → Nat → Int), v = .agg #[.string s, .int .i64 b, .slice A n c, .slice AP m cm] ∧ OrbIn w s b A n c S ∧ Pt w AP m Q ∧ m ≤ cm ∧ cm ≤ maxLen := by
  obtain ⟨cs, rfl, hsz⟩ := okWide_struct Try.underlying83 hv
  obtain ⟨q0, q1, q2, q3, rfl⟩ := array4 (hsz.trans (show Try.prog.cellsOf 83 = 4 by kernel_rfl))
  obtain ⟨fuel, hf⟩ := h
  have hf : DataW.trod enc Try.prog w base spare held fuel 83 [q0, q1, q2, q3] = some (d, p) := by simpa [Value.cells] using hf
  obtain ⟨xs, m, _, _, _, hxs, hg⟩ := DataW.trod_struct Try.underlying83 hf
  have c3 : Try.prog.cellsOf 24 = 3 := by kernel_rfl
  have c1 : Try.prog.cellsOf 81 = 1 := by kernel_rfl
  have n2 : xs.length = 2 := hxs
  match xs, n2 with
  | [y0, y1], _ =>
    have g0 : DataW.trod enc Try.prog w base spare held m 24 (([q0, q1, q2, q3].drop 0).take (Try.prog.cellsOf 24)) = some y0 := hg 0 _ rfl
    have g1 : DataW.trod enc Try.prog w base spare held m 81 (([q0, q1, q2, q3].drop 3).take (Try.prog.cellsOf 81)) = some y1 := hg 1 _ rfl
    rw [c3] at g0
    rw [c1] at g1
    simp only [List.drop, List.take] at g0 g1
    obtain ⟨s, b, A, n, c, S, ⟨rfl, rfl, rfl⟩, ho⟩ := orbit_cells g0
    obtain ⟨AP, k, ck, Q, rfl, hp, h1, h2⟩ := parts_open g1
    exact ⟨s, b, A, n, c, S, AP, k, ck, Q, rfl, ho, hp, h1, h2⟩
end Go.Proofs.Ytjfgfkahgjjcoaa
