/- What the law on nearest ticks needs: what Nearest, MayBeNearest, CheckNearest return, taken apart. -/
import Derived.Test.YtegmjanpeaibcaaOmb
import Derived.Test.YtegmjanpeaibcaaOrm
namespace Go.Proofs.Ytegmjanpeaibcaa
open Go.RowKit
set_option maxRecDepth 100000

theorem sqN_between {S : Nat → Nat → Int} {n : Nat} {b t : Int} {P : Nat → Int} (hR : Right S n b) (hT : Has S n t) : sqL S n b t P ≤ sqN S n t P ∧ sqN S n t P ≤ sqH S n b t P := by
  obtain ⟨_, _, b1, b2⟩ := box_facts hR hT (c := 1) (by omega)
  obtain ⟨_, _, b3, b4⟩ := box_facts hR hT (c := 2) (by omega)
  obtain ⟨_, _, b5, b6⟩ := box_facts hR hT (c := 3) (by omega)
  have l1 := near_le (p := P 1) b1 b2
  have l2 := near_le (p := P 2) b3 b4
  have l3 := near_le (p := P 3) b5 b6
  have f1 := le_far (p := P 1) b1 b2
  have f2 := le_far (p := P 2) b3 b4
  have f3 := le_far (p := P 3) b5 b6
  unfold sqL sqN sqH
  exact ⟨by omega, by omega⟩
theorem least_unique {S : Nat → Nat → Int} {n : Nat} {f : Int → Int} {t u : Int} (h : Least S n f t) (g : Least S n f u) : t = u := by
  rcases Int.lt_trichotomy t u with q | q | q
  · have a := g.2.2 t h.1 q
    have b := h.2.1 u g.1
    omega
  · exact q
  · have a := h.2.2 u g.1 q
    have b := g.2.1 t h.1
    omega
theorem mb_unique {S : Nat → Nat → Int} {n : Nat} {fL fH : Int → Int} {w l h w' l' h' : Int} (x : MB S n fL fH w l h) (y : MB S n fL fH w' l' h') : w = w' ∧ l = l' ∧ h = h' := by
  obtain ⟨x1, ⟨x2, x3⟩, ⟨x4, x5⟩, x6, x7, x8⟩ := x
  obtain ⟨y1, ⟨y2, y3⟩, ⟨y4, y5⟩, y6, y7, y8⟩ := y
  obtain rfl := least_unique x1 y1
  refine ⟨rfl, ?_, ?_⟩
  · have a : l ≤ l' := by
      rcases y6 with rfl | y6
      · exact x2
      · exact (x8 _ y4 y6).1
    have b : l' ≤ l := by
      rcases x6 with rfl | x6
      · exact y2
      · exact (y8 _ x4 x6).1
    omega
  · have a : h' ≤ h := by
      rcases y7 with rfl | y7
      · exact x3
      · exact (x8 _ y5 y7).2
    have b : h ≤ h' := by
      rcases x7 with rfl | x7
      · exact y3
      · exact (y8 _ x5 x7).2
    omega
theorem eP_orb {nm : Bool} {b : Int} {n : Nat} {S : Nat → Nat → Int} {p1 p2 p3 : Int} (h : (oce nm b n S).2 ≠ 0) : eP nm b n S p1 p2 p3 = (oce nm b n S).2 := by
  unfold eP
  rw [fe_two, if_neg h]
theorem eP_plc {nm : Bool} {b : Int} {n : Nat} {S : Nat → Nat → Int} {p1 p2 p3 : Int} (h : (oce nm b n S).2 = 0) : eP nm b n S p1 p2 p3 = pe p1 p2 p3 := by
  unfold eP
  rw [fe_two, if_pos h]

def NRx (nm : Bool) (b : Int) (n : Nat) (S : Nat → Nat → Int) (p1 p2 p3 x y z : Int) : Prop := NR nm b n S p1 p2 p3 (.returned (.tuple #[.int .i64 x, .int .i64 y, .int .i64 z]))
theorem NR_form {nm : Bool} {b : Int} {n : Nat} {S : Nat → Nat → Int} {p1 p2 p3 : Int} {e : Ending} (h : NR nm b n S p1 p2 p3 e) : ∃ x y z : Int, e = .returned (.tuple #[.int .i64 x, .int .i64 y, .int .i64 z]) ∧ NRx nm b n S p1 p2 p3 x y z := by
  have h' := h
  rcases h with ⟨_, h⟩ | ⟨_, t, _, h⟩ <;> subst h <;> exact ⟨_, _, _, rfl, h'⟩
theorem NR_good {nm : Bool} {b : Int} {n : Nat} {S : Nat → Nat → Int} {p1 p2 p3 x y z : Int} (h : NRx nm b n S p1 p2 p3 x y z) (h0 : eP nm b n S p1 p2 p3 = 0) : Least S n (fun t => sqN S n t (P3 p1 p2 p3)) x ∧ y = sqN S n x (P3 p1 p2 p3) ∧ z = 0 := by
  rcases h with ⟨g, _⟩ | ⟨_, t, ht, h⟩
  · exact absurd h0 g
  · simp at h
    obtain ⟨rfl, rfl, rfl⟩ := h
    exact ⟨ht, rfl, rfl⟩
theorem NR_bad {nm : Bool} {b : Int} {n : Nat} {S : Nat → Nat → Int} {p1 p2 p3 x y z : Int} (h : NRx nm b n S p1 p2 p3 x y z) (h0 : eP nm b n S p1 p2 p3 ≠ 0) : x = 0 ∧ y = 0 ∧ z = eP nm b n S p1 p2 p3 := by
  rcases h with ⟨_, h⟩ | ⟨g, _, _, _⟩
  · simpa using h
  · exact absurd g h0

def MRx (nm : Bool) (b : Int) (n : Nat) (S : Nat → Nat → Int) (p1 p2 p3 l h x z : Int) : Prop := MR nm b n S p1 p2 p3 (.returned (.tuple #[.agg #[.int .i64 l, .int .i64 h], .int .i64 x, .int .i64 z]))
theorem MR_form {nm : Bool} {b : Int} {n : Nat} {S : Nat → Nat → Int} {p1 p2 p3 : Int} {e : Ending} (h : MR nm b n S p1 p2 p3 e) : ∃ l h x z : Int, e = .returned (.tuple #[.agg #[.int .i64 l, .int .i64 h], .int .i64 x, .int .i64 z]) ∧ MRx nm b n S p1 p2 p3 l h x z := by
  have h' := h
  rcases h with ⟨_, h⟩ | ⟨_, _, _, _, _, h⟩ <;> subst h <;> exact ⟨_, _, _, _, rfl, h'⟩
theorem MR_good {nm : Bool} {b : Int} {n : Nat} {S : Nat → Nat → Int} {p1 p2 p3 l h x z : Int} (q : MRx nm b n S p1 p2 p3 l h x z) (h0 : eP nm b n S p1 p2 p3 = 0) : MB S n (fun t => sqL S n b t (P3 p1 p2 p3)) (fun t => sqH S n b t (P3 p1 p2 p3)) x l h ∧ z = 0 := by
  rcases q with ⟨g, _⟩ | ⟨_, wt, l', h', hm, q⟩
  · exact absurd h0 g
  · simp at q
    obtain ⟨⟨rfl, rfl⟩, rfl, rfl⟩ := q
    exact ⟨hm, rfl⟩
theorem MR_bad {nm : Bool} {b : Int} {n : Nat} {S : Nat → Nat → Int} {p1 p2 p3 l h x z : Int} (q : MRx nm b n S p1 p2 p3 l h x z) (h0 : eP nm b n S p1 p2 p3 ≠ 0) : l = 0 ∧ h = 0 ∧ x = 0 ∧ z = eP nm b n S p1 p2 p3 := by
  rcases q with ⟨_, q⟩ | ⟨g, _⟩
  · simp at q
    obtain ⟨⟨rfl, rfl⟩, rfl, rfl⟩ := q
    exact ⟨rfl, rfl, rfl, rfl⟩
  · exact absurd g h0

/-- the ticks that may be nearest are accepted, with their witness -/
theorem cn_accepts {b : Int} {n : Nat} {S : Nat → Nat → Int} {p1 p2 p3 l h wt x y : Int} (hR : Right S n b) (hp : pe p1 p2 p3 = 0) (hm : MB S n (fun t => sqL S n b t (P3 p1 p2 p3)) (fun t => sqH S n b t (P3 p1 p2 p3)) wt l h)
    (hc : CN true b n S p1 p2 p3 l h wt (.returned (.tuple #[.int .i64 x, .int .i64 y]))) : x = h - l + 1 ∧ y = 0 := by
  obtain ⟨m1, ⟨m2, m3⟩, ⟨m4, m5⟩, _, _, m8⟩ := hm
  have h0 : eC true b n S p1 p2 p3 l h wt = 0 := by
    rw [eC_right hR hp, inB_t m4, inB_t m5, inB_t m1.1, decide_eq_false (by omega)]
    rfl
  rcases hc with ⟨g, _⟩ | ⟨_, ⟨t, ht, hk⟩, _⟩ | ⟨_, _, g⟩
  · exact absurd h0 g
  · refine absurd ?_ hk
    rcases Int.lt_or_le (sqH S n b wt (P3 p1 p2 p3)) (sqL S n b t (P3 p1 p2 p3)) with q | q
    · exact .inr q
    · exact .inl (m8 t ht q)
  · simpa using g
/-- the nearest tick is among them -/
theorem near_among {b : Int} {n : Nat} {S : Nat → Nat → Int} {p1 p2 p3 l h wt t : Int} (hR : Right S n b) (hm : MB S n (fun t => sqL S n b t (P3 p1 p2 p3)) (fun t => sqH S n b t (P3 p1 p2 p3)) wt l h)
    (ht : Least S n (fun t => sqN S n t (P3 p1 p2 p3)) t) : l ≤ t ∧ t ≤ h := by
  refine hm.2.2.2.2.2 t ht.1 ?_
  have a := (sqN_between (P := P3 p1 p2 p3) hR ht.1).1
  have c := ht.2.1 wt hm.1.1
  have d := (sqN_between (P := P3 p1 p2 p3) hR hm.1.1).2
  show sqL S n b t (P3 p1 p2 p3) ≤ sqH S n b wt (P3 p1 p2 p3)
  have c : sqN S n t (P3 p1 p2 p3) ≤ sqN S n wt (P3 p1 p2 p3) := c
  omega
theorem mb_ticks {b : Int} {n : Nat} {S : Nat → Nat → Int} {fL fH : Int → Int} {l h wt : Int} (hR : Right S n b) (hm : MB S n fL fH wt l h) : 0 ≤ l ∧ l ≤ h ∧ h ≤ 1000000000 := by
  obtain ⟨_, ⟨m2, m3⟩, ⟨m4, m5⟩, _⟩ := hm
  have h0 := hR.1
  have h1 := hR.2.2.2.1 0 (by omega)
  have h2 := hR.2.2.2.1 (n - 1) (by omega)
  have h3 := h1.1
  have h4 := h2.1
  have h5 := m4.1
  have h6 := m5.2
  omega
end Go.Proofs.Ytegmjanpeaibcaa
