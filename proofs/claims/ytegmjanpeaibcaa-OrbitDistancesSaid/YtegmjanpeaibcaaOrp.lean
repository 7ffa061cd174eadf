/- Contract of the reference: ticks that are accepted as nearest ones. -/
import Derived.Test.YtegmjanpeaibcaaOrs
import Derived.Test.YtegmjanpeaibcaaOrx
import Derived.Test.YtegmjanpeaibcaaOcn
import Derived.Test.YtegmjanpeaibcaaOrc
import Derived.BigQuiet
namespace Go.Proofs.Ytegmjanpeaibcaa
open Go.RowKit
set_option maxHeartbeats 1600000
set_option maxRecDepth 100000

theorem sq_of (S : Nat → Nat → Int) (n : Nat) (b t p1 p2 p3 : Int) : sqL S n b t (P3 p1 p2 p3) = sqS (nF3 (lo S n b t 1) (hi S n b t 1) (lo S n b t 2) (hi S n b t 2) (lo S n b t 3) (hi S n b t 3) p1 p2 p3) 3 ∧ sqH S n b t (P3 p1 p2 p3) = sqS (fF3 (lo S n b t 1) (hi S n b t 1) (lo S n b t 2) (hi S n b t 2) (lo S n b t 3) (hi S n b t 3) p1 p2 p3) 3 := by
  unfold sqL sqH
  simp [sqS, nF3, fF3, nth, P3]
theorem refSqAt_any {S : Nat → Nat → Int} {n : Nat} {b t p1 p2 p3 : Int} (hR : Right S n b) (hT : Has S n t) (hp : (-100000000 ≤ p1 ∧ p1 ≤ 100000000) ∧ (-100000000 ≤ p2 ∧ p2 ≤ 100000000) ∧ (-100000000 ≤ p3 ∧ p3 ≤ 100000000)) (w : World) :
    Calls Try.prog 33 #[boxV S n b t, .agg #[.int .i64 p1, .int .i64 p2, .int .i64 p3]] w fun e w' => e = .returned (.agg #[.int .i64 (sqL S n b t (P3 p1 p2 p3)), .int .i64 (sqH S n b t (P3 p1 p2 p3))]) ∧ Below w.heap.size w w' := by
  unfold boxV
  rw [(sq_of S n b t p1 p2 p3).1, (sq_of S n b t p1 p2 p3).2]
  exact refSquares_any _ _ _ _ _ _ p1 p2 p3 w (box_facts hR hT (c := 1) (by omega)).1 (box_facts hR hT (c := 2) (by omega)).1 (box_facts hR hT (c := 3) (by omega)).1 hp.1 hp.2.1 hp.2.2

/-- the error of what is asked, of a right orbit and a place -/
def eB (g1 g2 g3 d : Bool) : Int := if !g1 || !g2 || !g3 then 2 else if d then 9 else 0
theorem has_right {S : Nat → Nat → Int} {n : Nat} {b : Int} (hR : Right S n b) (t : Int) : hasB S n t = inB t (S 0 0) (S (n - 1) 0) := by
  unfold hasB
  rw [decide_eq_true (show 0 < n by have := hR.1; omega), Bool.true_and]
theorem eC_right {S : Nat → Nat → Int} {n : Nat} {b p1 p2 p3 xl xh xw : Int} (hR : Right S n b) (hp : pe p1 p2 p3 = 0) :
    eC true b n S p1 p2 p3 xl xh xw = eB (inB xl (S 0 0) (S (n - 1) 0)) (inB xh (S 0 0) (S (n - 1) 0)) (inB xw (S 0 0) (S (n - 1) 0)) (decide (xh < xl)) := by
  unfold eC
  rw [oce_right hR, hp, has_right hR, has_right hR, has_right hR]
  generalize inB xl (S 0 0) (S (n - 1) 0) = g1
  generalize inB xh (S 0 0) (S (n - 1) 0) = g2
  generalize inB xw (S 0 0) (S (n - 1) 0) = g3
  generalize decide (xh < xl) = d
  cases g1 <;> cases g2 <;> cases g3 <;> cases d <;> rfl

theorem refCheckNearest_any (s : ByteArray) (b : Int) (A : Option Addr) (n c : Nat) (S : Nat → Nat → Int) (p1 p2 p3 xl xh xw : Int) (w : World) (hS : St w A n S) (hR : Right S n b) (hp : pe p1 p2 p3 = 0) (hn : n ≤ c) (hc : c ≤ maxLen) :
    Calls Try.prog 44 #[.agg #[.string s, .int .i64 b, .slice A n c], .agg #[.int .i64 p1, .int .i64 p2, .int .i64 p3], .agg #[.int .i64 xl, .int .i64 xh, .int .i64 xw]] w fun e w' => CN true b n S p1 p2 p3 xl xh xw e ∧ Below w.heap.size w w' := by
  have hec := eC_right (xl := xl) (xh := xh) (xw := xw) hR hp
  have hn0 : 0 < n := by have := hR.1; omega
  have hpp := pe_zero hp
  have a1 := (hR.2.2.2.1 0 hn0).1
  have a2 := (hR.2.2.2.1 (n - 1) (by omega)).1
  have hm := Nat.le_trans hn hc
  have F1 : Hid (∀ X : World, St X A n S → Calls Try.prog 59 #[.agg #[.string s, .int .i64 b, .slice A n c], .int .i64 xl] X fun e w' => e = .returned (.bool (inB xl (S 0 0) (S (n - 1) 0))) ∧ Below X.heap.size X w') := fun X hX => refHas_any s b A n c S xl X hX hn0 hm
  have F2 : Hid (∀ X : World, St X A n S → Calls Try.prog 59 #[.agg #[.string s, .int .i64 b, .slice A n c], .int .i64 xh] X fun e w' => e = .returned (.bool (inB xh (S 0 0) (S (n - 1) 0))) ∧ Below X.heap.size X w') := fun X hX => refHas_any s b A n c S xh X hX hn0 hm
  have F3 : Hid (∀ X : World, St X A n S → Calls Try.prog 59 #[.agg #[.string s, .int .i64 b, .slice A n c], .int .i64 xw] X fun e w' => e = .returned (.bool (inB xw (S 0 0) (S (n - 1) 0))) ∧ Below X.heap.size X w') := fun X hX => refHas_any s b A n c S xw X hX hn0 hm
  have F4 : Hid (∀ X : World, St X A n S → Calls Try.prog 45 #[.agg #[.string s, .int .i64 b, .slice A n c]] X fun e w' => e = .returned (.int .i64 (S 0 0)) ∧ Below X.heap.size X w') := fun X hX => refFirst_any s b A n c S X hX hn0
  have F5 : Hid (∀ X : World, St X A n S → Calls Try.prog 46 #[.agg #[.string s, .int .i64 b, .slice A n c]] X fun e w' => e = .returned (.int .i64 (S (n - 1) 0)) ∧ Below X.heap.size X w') := fun X hX => refLast_any s b A n c S X hX hn0 hm
  have FB : Hid (∀ (t : Int) (X : World), S 0 0 ≤ t → t ≤ S (n - 1) 0 → St X A n S → Calls Try.prog 27 #[.agg #[.string s, .int .i64 b, .slice A n c], .int .i64 t] X fun e w' => e = .returned (boxV S n b t) ∧ Below X.heap.size X w') := fun t X h1 h2 hX => refBoxAt_any s b A n c S t X hX hR ⟨h1, h2⟩ hn hc
  have FQ : Hid (∀ (t : Int) (X : World), S 0 0 ≤ t → t ≤ S (n - 1) 0 → Calls Try.prog 33 #[boxV S n b t, .agg #[.int .i64 p1, .int .i64 p2, .int .i64 p3]] X fun e w' => e = .returned (.agg #[.int .i64 (sqL S n b t (P3 p1 p2 p3)), .int .i64 (sqH S n b t (P3 p1 p2 p3))]) ∧ Below X.heap.size X w') := fun t X h1 h2 => refSqAt_any hR ⟨h1, h2⟩ hpp X
  have HEC := Lib.hid hec
  have HHS : Hid (∀ t, Go.Proofs.Ytegmjanpeaibcaa.Has S n t ↔ (S 0 0 ≤ t ∧ t ≤ S (n - 1) 0)) := fun t => Iff.rfl
  have HS0 := Lib.hid hS
  generalize S (n - 1) 0 = y at *
  generalize S 0 0 = z at *
  clear hec hn0 hpp hR hp hn hc hm hS
  cases h1 : inB xl z y
  case' true =>
    cases h2 : inB xh z y
    case' true =>
      cases h3 : inB xw z y
  all_goals skip
  case false =>
    have HRES : Hid (CN true b n S p1 p2 p3 xl xh xw (.returned (.tuple #[.int .i64 0, .int .i64 2]))) := by
      have he : eC true b n S p1 p2 p3 xl xh xw = 2 := by rw [HEC.out, h1]; rfl
      exact Or.inl ⟨by rw [he]; decide, by rw [he]⟩
    rw [h1] at F1
    clear F2 F3 F4 F5 FB FQ HEC HHS h1
    go_enter Try.func44, Try.ntmps44
    go_wp2_with fail
    have hA1 : At (((w.alloc (.cells #[.string s, .int .i64 b, .slice A n c] 24)).alloc (.cells #[.int .i64 p1, .int .i64 p2, .int .i64 p3] 42)).alloc (.cells #[.int .i64 xl, .int .i64 xh, .int .i64 xw] 77)) w.heap.size 24 #[.string s, .int .i64 b, .slice A n c] := ((At.new w _ _).alloc _).alloc _
    have hL1 : At (((w.alloc (.cells #[.string s, .int .i64 b, .slice A n c] 24)).alloc (.cells #[.int .i64 p1, .int .i64 p2, .int .i64 p3] 42)).alloc (.cells #[.int .i64 xl, .int .i64 xh, .int .i64 xw] 77)) (w.heap.size + 1) 42 #[.int .i64 p1, .int .i64 p2, .int .i64 p3] := (at_new (by simp)).alloc _
    have hX1 : At (((w.alloc (.cells #[.string s, .int .i64 b, .slice A n c] 24)).alloc (.cells #[.int .i64 p1, .int .i64 p2, .int .i64 p3] 42)).alloc (.cells #[.int .i64 xl, .int .i64 xh, .int .i64 xw] 77)) (w.heap.size + 1 + 1) 77 #[.int .i64 xl, .int .i64 xh, .int .i64 xw] := at_new (by simp)
    have hB1 : Below w.heap.size w (((w.alloc (.cells #[.string s, .int .i64 b, .slice A n c] 24)).alloc (.cells #[.int .i64 p1, .int .i64 p2, .int .i64 p3] 42)).alloc (.cells #[.int .i64 xl, .int .i64 xh, .int .i64 xw] 77)) := by
      repeat (first | (with_reducible exact Below.refl _ _) | (with_reducible refine below_new ?_ (by first | omega | (simp; done) | (simp; omega))))
    generalize hW1 : (((w.alloc (.cells #[.string s, .int .i64 b, .slice A n c] 24)).alloc (.cells #[.int .i64 p1, .int .i64 p2, .int .i64 p3] 42)).alloc (.cells #[.int .i64 xl, .int .i64 xh, .int .i64 xw] 77)) = W1 at hA1 hL1 hX1 hB1 ⊢
    clear hW1
    have HS1 := Lib.hid (HS0.out.below hB1)
    have HB1 := Lib.hid hB1
    clear hB1
    have a0 := hA1.cell 0
    have a1 := hA1.cell 1
    have a2 := hA1.cell 2
    have b0 := hL1.cell 0
    have b1 := hL1.cell 1
    have b2 := hL1.cell 2
    have c0 := hX1.cell 0
    have c1 := hX1.cell 1
    have c2 := hX1.cell 2
    simp at a0 a1 a2 b0 b1 b2 c0 c1 c2
    have HA1 := Lib.hid hA1
    have HL1 := Lib.hid hL1
    have HX1 := Lib.hid hX1
    clear hA1 hL1 hX1
    refine (F1.out _ HS1.out).mono ?_
    rintro e w2 ⟨rfl, hb2⟩
    have hA2 := HA1.out.keep hb2
    have hL2 := HL1.out.keep hb2
    have hX2 := HX1.out.keep hb2
    have HB2 := Lib.hid (HB1.out.trans (hb2.mono HB1.out.size))
    have HS2 := Lib.hid (HS1.out.below hb2)
    clear a0 a1 a2 b0 b1 b2 c0 c1 c2 hb2
    have a0 := hA2.cell 0
    have a1 := hA2.cell 1
    have a2 := hA2.cell 2
    have b0 := hL2.cell 0
    have b1 := hL2.cell 1
    have b2 := hL2.cell 2
    have c0 := hX2.cell 0
    have c1 := hX2.cell 1
    have c2 := hX2.cell 2
    simp at a0 a1 a2 b0 b1 b2 c0 c1 c2
    have HA2 := Lib.hid hA2
    have HL2 := Lib.hid hL2
    have HX2 := Lib.hid hX2
    clear hA2 hL2 hX2
    go_wp2_with fail
    go_wp2
    go_ret2
    refine ⟨?_, HB2.out⟩
    first | exact HRES.out | (simpa using HRES.out)
  case true.false =>
    have HRES : Hid (CN true b n S p1 p2 p3 xl xh xw (.returned (.tuple #[.int .i64 0, .int .i64 2]))) := by
      have he : eC true b n S p1 p2 p3 xl xh xw = 2 := by rw [HEC.out, h1, h2]; rfl
      exact Or.inl ⟨by rw [he]; decide, by rw [he]⟩
    rw [h1] at F1
    rw [h2] at F2
    clear F3 F4 F5 FB FQ HEC HHS h1 h2
    go_enter Try.func44, Try.ntmps44
    go_wp2_with fail
    have hA1 : At (((w.alloc (.cells #[.string s, .int .i64 b, .slice A n c] 24)).alloc (.cells #[.int .i64 p1, .int .i64 p2, .int .i64 p3] 42)).alloc (.cells #[.int .i64 xl, .int .i64 xh, .int .i64 xw] 77)) w.heap.size 24 #[.string s, .int .i64 b, .slice A n c] := ((At.new w _ _).alloc _).alloc _
    have hL1 : At (((w.alloc (.cells #[.string s, .int .i64 b, .slice A n c] 24)).alloc (.cells #[.int .i64 p1, .int .i64 p2, .int .i64 p3] 42)).alloc (.cells #[.int .i64 xl, .int .i64 xh, .int .i64 xw] 77)) (w.heap.size + 1) 42 #[.int .i64 p1, .int .i64 p2, .int .i64 p3] := (at_new (by simp)).alloc _
    have hX1 : At (((w.alloc (.cells #[.string s, .int .i64 b, .slice A n c] 24)).alloc (.cells #[.int .i64 p1, .int .i64 p2, .int .i64 p3] 42)).alloc (.cells #[.int .i64 xl, .int .i64 xh, .int .i64 xw] 77)) (w.heap.size + 1 + 1) 77 #[.int .i64 xl, .int .i64 xh, .int .i64 xw] := at_new (by simp)
    have hB1 : Below w.heap.size w (((w.alloc (.cells #[.string s, .int .i64 b, .slice A n c] 24)).alloc (.cells #[.int .i64 p1, .int .i64 p2, .int .i64 p3] 42)).alloc (.cells #[.int .i64 xl, .int .i64 xh, .int .i64 xw] 77)) := by
      repeat (first | (with_reducible exact Below.refl _ _) | (with_reducible refine below_new ?_ (by first | omega | (simp; done) | (simp; omega))))
    generalize hW1 : (((w.alloc (.cells #[.string s, .int .i64 b, .slice A n c] 24)).alloc (.cells #[.int .i64 p1, .int .i64 p2, .int .i64 p3] 42)).alloc (.cells #[.int .i64 xl, .int .i64 xh, .int .i64 xw] 77)) = W1 at hA1 hL1 hX1 hB1 ⊢
    clear hW1
    have HS1 := Lib.hid (HS0.out.below hB1)
    have HB1 := Lib.hid hB1
    clear hB1
    have a0 := hA1.cell 0
    have a1 := hA1.cell 1
    have a2 := hA1.cell 2
    have b0 := hL1.cell 0
    have b1 := hL1.cell 1
    have b2 := hL1.cell 2
    have c0 := hX1.cell 0
    have c1 := hX1.cell 1
    have c2 := hX1.cell 2
    simp at a0 a1 a2 b0 b1 b2 c0 c1 c2
    have HA1 := Lib.hid hA1
    have HL1 := Lib.hid hL1
    have HX1 := Lib.hid hX1
    clear hA1 hL1 hX1
    refine (F1.out _ HS1.out).mono ?_
    rintro e w2 ⟨rfl, hb2⟩
    have hA2 := HA1.out.keep hb2
    have hL2 := HL1.out.keep hb2
    have hX2 := HX1.out.keep hb2
    have HB2 := Lib.hid (HB1.out.trans (hb2.mono HB1.out.size))
    have HS2 := Lib.hid (HS1.out.below hb2)
    clear a0 a1 a2 b0 b1 b2 c0 c1 c2 hb2
    have a0 := hA2.cell 0
    have a1 := hA2.cell 1
    have a2 := hA2.cell 2
    have b0 := hL2.cell 0
    have b1 := hL2.cell 1
    have b2 := hL2.cell 2
    have c0 := hX2.cell 0
    have c1 := hX2.cell 1
    have c2 := hX2.cell 2
    simp at a0 a1 a2 b0 b1 b2 c0 c1 c2
    have HA2 := Lib.hid hA2
    have HL2 := Lib.hid hL2
    have HX2 := Lib.hid hX2
    clear hA2 hL2 hX2
    go_wp2_with fail
    refine (F2.out _ HS2.out).mono ?_
    rintro e w3 ⟨rfl, hb3⟩
    have hA3 := HA2.out.keep hb3
    have hL3 := HL2.out.keep hb3
    have hX3 := HX2.out.keep hb3
    have HB3 := Lib.hid (HB2.out.trans (hb3.mono HB2.out.size))
    have HS3 := Lib.hid (HS2.out.below hb3)
    clear a0 a1 a2 b0 b1 b2 c0 c1 c2 hb3
    have a0 := hA3.cell 0
    have a1 := hA3.cell 1
    have a2 := hA3.cell 2
    have b0 := hL3.cell 0
    have b1 := hL3.cell 1
    have b2 := hL3.cell 2
    have c0 := hX3.cell 0
    have c1 := hX3.cell 1
    have c2 := hX3.cell 2
    simp at a0 a1 a2 b0 b1 b2 c0 c1 c2
    have HA3 := Lib.hid hA3
    have HL3 := Lib.hid hL3
    have HX3 := Lib.hid hX3
    clear hA3 hL3 hX3
    go_wp2_with fail
    go_wp2
    go_ret2
    refine ⟨?_, HB3.out⟩
    first | exact HRES.out | (simpa using HRES.out)
  case true.true.false =>
    have HRES : Hid (CN true b n S p1 p2 p3 xl xh xw (.returned (.tuple #[.int .i64 0, .int .i64 2]))) := by
      have he : eC true b n S p1 p2 p3 xl xh xw = 2 := by rw [HEC.out, h1, h2, h3]; rfl
      exact Or.inl ⟨by rw [he]; decide, by rw [he]⟩
    rw [h1] at F1
    rw [h2] at F2
    rw [h3] at F3
    clear F4 F5 FB FQ HEC HHS h1 h2 h3
    go_enter Try.func44, Try.ntmps44
    go_wp2_with fail
    have hA1 : At (((w.alloc (.cells #[.string s, .int .i64 b, .slice A n c] 24)).alloc (.cells #[.int .i64 p1, .int .i64 p2, .int .i64 p3] 42)).alloc (.cells #[.int .i64 xl, .int .i64 xh, .int .i64 xw] 77)) w.heap.size 24 #[.string s, .int .i64 b, .slice A n c] := ((At.new w _ _).alloc _).alloc _
    have hL1 : At (((w.alloc (.cells #[.string s, .int .i64 b, .slice A n c] 24)).alloc (.cells #[.int .i64 p1, .int .i64 p2, .int .i64 p3] 42)).alloc (.cells #[.int .i64 xl, .int .i64 xh, .int .i64 xw] 77)) (w.heap.size + 1) 42 #[.int .i64 p1, .int .i64 p2, .int .i64 p3] := (at_new (by simp)).alloc _
    have hX1 : At (((w.alloc (.cells #[.string s, .int .i64 b, .slice A n c] 24)).alloc (.cells #[.int .i64 p1, .int .i64 p2, .int .i64 p3] 42)).alloc (.cells #[.int .i64 xl, .int .i64 xh, .int .i64 xw] 77)) (w.heap.size + 1 + 1) 77 #[.int .i64 xl, .int .i64 xh, .int .i64 xw] := at_new (by simp)
    have hB1 : Below w.heap.size w (((w.alloc (.cells #[.string s, .int .i64 b, .slice A n c] 24)).alloc (.cells #[.int .i64 p1, .int .i64 p2, .int .i64 p3] 42)).alloc (.cells #[.int .i64 xl, .int .i64 xh, .int .i64 xw] 77)) := by
      repeat (first | (with_reducible exact Below.refl _ _) | (with_reducible refine below_new ?_ (by first | omega | (simp; done) | (simp; omega))))
    generalize hW1 : (((w.alloc (.cells #[.string s, .int .i64 b, .slice A n c] 24)).alloc (.cells #[.int .i64 p1, .int .i64 p2, .int .i64 p3] 42)).alloc (.cells #[.int .i64 xl, .int .i64 xh, .int .i64 xw] 77)) = W1 at hA1 hL1 hX1 hB1 ⊢
    clear hW1
    have HS1 := Lib.hid (HS0.out.below hB1)
    have HB1 := Lib.hid hB1
    clear hB1
    have a0 := hA1.cell 0
    have a1 := hA1.cell 1
    have a2 := hA1.cell 2
    have b0 := hL1.cell 0
    have b1 := hL1.cell 1
    have b2 := hL1.cell 2
    have c0 := hX1.cell 0
    have c1 := hX1.cell 1
    have c2 := hX1.cell 2
    simp at a0 a1 a2 b0 b1 b2 c0 c1 c2
    have HA1 := Lib.hid hA1
    have HL1 := Lib.hid hL1
    have HX1 := Lib.hid hX1
    clear hA1 hL1 hX1
    refine (F1.out _ HS1.out).mono ?_
    rintro e w2 ⟨rfl, hb2⟩
    have hA2 := HA1.out.keep hb2
    have hL2 := HL1.out.keep hb2
    have hX2 := HX1.out.keep hb2
    have HB2 := Lib.hid (HB1.out.trans (hb2.mono HB1.out.size))
    have HS2 := Lib.hid (HS1.out.below hb2)
    clear a0 a1 a2 b0 b1 b2 c0 c1 c2 hb2
    have a0 := hA2.cell 0
    have a1 := hA2.cell 1
    have a2 := hA2.cell 2
    have b0 := hL2.cell 0
    have b1 := hL2.cell 1
    have b2 := hL2.cell 2
    have c0 := hX2.cell 0
    have c1 := hX2.cell 1
    have c2 := hX2.cell 2
    simp at a0 a1 a2 b0 b1 b2 c0 c1 c2
    have HA2 := Lib.hid hA2
    have HL2 := Lib.hid hL2
    have HX2 := Lib.hid hX2
    clear hA2 hL2 hX2
    go_wp2_with fail
    refine (F2.out _ HS2.out).mono ?_
    rintro e w3 ⟨rfl, hb3⟩
    have hA3 := HA2.out.keep hb3
    have hL3 := HL2.out.keep hb3
    have hX3 := HX2.out.keep hb3
    have HB3 := Lib.hid (HB2.out.trans (hb3.mono HB2.out.size))
    have HS3 := Lib.hid (HS2.out.below hb3)
    clear a0 a1 a2 b0 b1 b2 c0 c1 c2 hb3
    have a0 := hA3.cell 0
    have a1 := hA3.cell 1
    have a2 := hA3.cell 2
    have b0 := hL3.cell 0
    have b1 := hL3.cell 1
    have b2 := hL3.cell 2
    have c0 := hX3.cell 0
    have c1 := hX3.cell 1
    have c2 := hX3.cell 2
    simp at a0 a1 a2 b0 b1 b2 c0 c1 c2
    have HA3 := Lib.hid hA3
    have HL3 := Lib.hid hL3
    have HX3 := Lib.hid hX3
    clear hA3 hL3 hX3
    go_wp2_with fail
    refine (F3.out _ HS3.out).mono ?_
    rintro e w4 ⟨rfl, hb4⟩
    have hA4 := HA3.out.keep hb4
    have hL4 := HL3.out.keep hb4
    have hX4 := HX3.out.keep hb4
    have HB4 := Lib.hid (HB3.out.trans (hb4.mono HB3.out.size))
    have HS4 := Lib.hid (HS3.out.below hb4)
    clear a0 a1 a2 b0 b1 b2 c0 c1 c2 hb4
    have a0 := hA4.cell 0
    have a1 := hA4.cell 1
    have a2 := hA4.cell 2
    have b0 := hL4.cell 0
    have b1 := hL4.cell 1
    have b2 := hL4.cell 2
    have c0 := hX4.cell 0
    have c1 := hX4.cell 1
    have c2 := hX4.cell 2
    simp at a0 a1 a2 b0 b1 b2 c0 c1 c2
    have HA4 := Lib.hid hA4
    have HL4 := Lib.hid hL4
    have HX4 := Lib.hid hX4
    clear hA4 hL4 hX4
    go_wp2_with fail
    go_wp2
    go_ret2
    refine ⟨?_, HB4.out⟩
    first | exact HRES.out | (simpa using HRES.out)
  case true.true.true =>
    have hxl := inB_iff.1 h1
    have hxh := inB_iff.1 h2
    have hxw := inB_iff.1 h3
    rw [h1] at F1
    rw [h2] at F2
    rw [h3] at F3
    rw [h1, h2, h3] at HEC
    clear h1 h2 h3
    by_cases hle : xh < xl
    · have HRES : Hid (CN true b n S p1 p2 p3 xl xh xw (.returned (.tuple #[.int .i64 0, .int .i64 9]))) := by
        have he : eC true b n S p1 p2 p3 xl xh xw = 9 := by rw [HEC.out, decide_eq_true hle]; rfl
        exact Or.inl ⟨by rw [he]; decide, by rw [he]⟩
      clear F4 F5 FB FQ HEC HHS
      go_enter Try.func44, Try.ntmps44
      go_wp2_with fail
      have hA1 : At (((w.alloc (.cells #[.string s, .int .i64 b, .slice A n c] 24)).alloc (.cells #[.int .i64 p1, .int .i64 p2, .int .i64 p3] 42)).alloc (.cells #[.int .i64 xl, .int .i64 xh, .int .i64 xw] 77)) w.heap.size 24 #[.string s, .int .i64 b, .slice A n c] := ((At.new w _ _).alloc _).alloc _
      have hL1 : At (((w.alloc (.cells #[.string s, .int .i64 b, .slice A n c] 24)).alloc (.cells #[.int .i64 p1, .int .i64 p2, .int .i64 p3] 42)).alloc (.cells #[.int .i64 xl, .int .i64 xh, .int .i64 xw] 77)) (w.heap.size + 1) 42 #[.int .i64 p1, .int .i64 p2, .int .i64 p3] := (at_new (by simp)).alloc _
      have hX1 : At (((w.alloc (.cells #[.string s, .int .i64 b, .slice A n c] 24)).alloc (.cells #[.int .i64 p1, .int .i64 p2, .int .i64 p3] 42)).alloc (.cells #[.int .i64 xl, .int .i64 xh, .int .i64 xw] 77)) (w.heap.size + 1 + 1) 77 #[.int .i64 xl, .int .i64 xh, .int .i64 xw] := at_new (by simp)
      have hB1 : Below w.heap.size w (((w.alloc (.cells #[.string s, .int .i64 b, .slice A n c] 24)).alloc (.cells #[.int .i64 p1, .int .i64 p2, .int .i64 p3] 42)).alloc (.cells #[.int .i64 xl, .int .i64 xh, .int .i64 xw] 77)) := by
        repeat (first | (with_reducible exact Below.refl _ _) | (with_reducible refine below_new ?_ (by first | omega | (simp; done) | (simp; omega))))
      generalize hW1 : (((w.alloc (.cells #[.string s, .int .i64 b, .slice A n c] 24)).alloc (.cells #[.int .i64 p1, .int .i64 p2, .int .i64 p3] 42)).alloc (.cells #[.int .i64 xl, .int .i64 xh, .int .i64 xw] 77)) = W1 at hA1 hL1 hX1 hB1 ⊢
      clear hW1
      have HS1 := Lib.hid (HS0.out.below hB1)
      have HB1 := Lib.hid hB1
      clear hB1
      have a0 := hA1.cell 0
      have a1 := hA1.cell 1
      have a2 := hA1.cell 2
      have b0 := hL1.cell 0
      have b1 := hL1.cell 1
      have b2 := hL1.cell 2
      have c0 := hX1.cell 0
      have c1 := hX1.cell 1
      have c2 := hX1.cell 2
      simp at a0 a1 a2 b0 b1 b2 c0 c1 c2
      have HA1 := Lib.hid hA1
      have HL1 := Lib.hid hL1
      have HX1 := Lib.hid hX1
      clear hA1 hL1 hX1
      refine (F1.out _ HS1.out).mono ?_
      rintro e w2 ⟨rfl, hb2⟩
      have hA2 := HA1.out.keep hb2
      have hL2 := HL1.out.keep hb2
      have hX2 := HX1.out.keep hb2
      have HB2 := Lib.hid (HB1.out.trans (hb2.mono HB1.out.size))
      have HS2 := Lib.hid (HS1.out.below hb2)
      clear a0 a1 a2 b0 b1 b2 c0 c1 c2 hb2
      have a0 := hA2.cell 0
      have a1 := hA2.cell 1
      have a2 := hA2.cell 2
      have b0 := hL2.cell 0
      have b1 := hL2.cell 1
      have b2 := hL2.cell 2
      have c0 := hX2.cell 0
      have c1 := hX2.cell 1
      have c2 := hX2.cell 2
      simp at a0 a1 a2 b0 b1 b2 c0 c1 c2
      have HA2 := Lib.hid hA2
      have HL2 := Lib.hid hL2
      have HX2 := Lib.hid hX2
      clear hA2 hL2 hX2
      go_wp2_with fail
      refine (F2.out _ HS2.out).mono ?_
      rintro e w3 ⟨rfl, hb3⟩
      have hA3 := HA2.out.keep hb3
      have hL3 := HL2.out.keep hb3
      have hX3 := HX2.out.keep hb3
      have HB3 := Lib.hid (HB2.out.trans (hb3.mono HB2.out.size))
      have HS3 := Lib.hid (HS2.out.below hb3)
      clear a0 a1 a2 b0 b1 b2 c0 c1 c2 hb3
      have a0 := hA3.cell 0
      have a1 := hA3.cell 1
      have a2 := hA3.cell 2
      have b0 := hL3.cell 0
      have b1 := hL3.cell 1
      have b2 := hL3.cell 2
      have c0 := hX3.cell 0
      have c1 := hX3.cell 1
      have c2 := hX3.cell 2
      simp at a0 a1 a2 b0 b1 b2 c0 c1 c2
      have HA3 := Lib.hid hA3
      have HL3 := Lib.hid hL3
      have HX3 := Lib.hid hX3
      clear hA3 hL3 hX3
      go_wp2_with fail
      refine (F3.out _ HS3.out).mono ?_
      rintro e w4 ⟨rfl, hb4⟩
      have hA4 := HA3.out.keep hb4
      have hL4 := HL3.out.keep hb4
      have hX4 := HX3.out.keep hb4
      have HB4 := Lib.hid (HB3.out.trans (hb4.mono HB3.out.size))
      have HS4 := Lib.hid (HS3.out.below hb4)
      clear a0 a1 a2 b0 b1 b2 c0 c1 c2 hb4
      have a0 := hA4.cell 0
      have a1 := hA4.cell 1
      have a2 := hA4.cell 2
      have b0 := hL4.cell 0
      have b1 := hL4.cell 1
      have b2 := hL4.cell 2
      have c0 := hX4.cell 0
      have c1 := hX4.cell 1
      have c2 := hX4.cell 2
      simp at a0 a1 a2 b0 b1 b2 c0 c1 c2
      have HA4 := Lib.hid hA4
      have HL4 := Lib.hid hL4
      have HX4 := Lib.hid hX4
      clear hA4 hL4 hX4
      go_wp2_with fail
      go_wp2
      go_ret2
      refine ⟨?_, HB4.out⟩
      first | exact HRES.out | (simpa using HRES.out)
    · have he : eC true b n S p1 p2 p3 xl xh xw = 0 := by rw [HEC.out, decide_eq_false hle]; rfl
      have HE := Lib.hid he
      obtain ⟨BX, hBX⟩ : ∃ v, v = boxV S n b xw := ⟨_, rfl⟩
      have HM1 : Hid (∀ X, St X A n S → Calls Try.prog 27 #[.agg #[.string s, .int .i64 b, .slice A n c], .int .i64 xw] X fun e w' => e = .returned BX ∧ Below X.heap.size X w') := fun X hX => by rw [hBX]; exact FB.out xw X hxw.1 hxw.2 hX
      have HM2 : Hid (∀ X, Calls Try.prog 33 #[BX, .agg #[.int .i64 p1, .int .i64 p2, .int .i64 p3]] X fun e w' => e = .returned (.agg #[.int .i64 (sqL S n b xw (P3 p1 p2 p3)), .int .i64 (sqH S n b xw (P3 p1 p2 p3))]) ∧ Below X.heap.size X w') := fun X => by rw [hBX]; exact FQ.out xw X hxw.1 hxw.2
      obtain ⟨most, hmost⟩ : ∃ v, v = sqH S n b xw (P3 p1 p2 p3) := ⟨_, rfl⟩
      rw [← hmost] at HM2
      generalize sqL S n b xw (P3 p1 p2 p3) = lowx at HM2
      have HM := Lib.hid hmost
      have HLE := Lib.hid hle
      have HXW := Lib.hid hxw
      clear hBX hmost he HEC hxw
      go_enter Try.func44, Try.ntmps44
      go_wp2_with fail
      have hA1 : At (((w.alloc (.cells #[.string s, .int .i64 b, .slice A n c] 24)).alloc (.cells #[.int .i64 p1, .int .i64 p2, .int .i64 p3] 42)).alloc (.cells #[.int .i64 xl, .int .i64 xh, .int .i64 xw] 77)) w.heap.size 24 #[.string s, .int .i64 b, .slice A n c] := ((At.new w _ _).alloc _).alloc _
      have hL1 : At (((w.alloc (.cells #[.string s, .int .i64 b, .slice A n c] 24)).alloc (.cells #[.int .i64 p1, .int .i64 p2, .int .i64 p3] 42)).alloc (.cells #[.int .i64 xl, .int .i64 xh, .int .i64 xw] 77)) (w.heap.size + 1) 42 #[.int .i64 p1, .int .i64 p2, .int .i64 p3] := (at_new (by simp)).alloc _
      have hX1 : At (((w.alloc (.cells #[.string s, .int .i64 b, .slice A n c] 24)).alloc (.cells #[.int .i64 p1, .int .i64 p2, .int .i64 p3] 42)).alloc (.cells #[.int .i64 xl, .int .i64 xh, .int .i64 xw] 77)) (w.heap.size + 1 + 1) 77 #[.int .i64 xl, .int .i64 xh, .int .i64 xw] := at_new (by simp)
      have hB1 : Below w.heap.size w (((w.alloc (.cells #[.string s, .int .i64 b, .slice A n c] 24)).alloc (.cells #[.int .i64 p1, .int .i64 p2, .int .i64 p3] 42)).alloc (.cells #[.int .i64 xl, .int .i64 xh, .int .i64 xw] 77)) := by
        repeat (first | (with_reducible exact Below.refl _ _) | (with_reducible refine below_new ?_ (by first | omega | (simp; done) | (simp; omega))))
      generalize hW1 : (((w.alloc (.cells #[.string s, .int .i64 b, .slice A n c] 24)).alloc (.cells #[.int .i64 p1, .int .i64 p2, .int .i64 p3] 42)).alloc (.cells #[.int .i64 xl, .int .i64 xh, .int .i64 xw] 77)) = W1 at hA1 hL1 hX1 hB1 ⊢
      clear hW1
      have HS1 := Lib.hid (HS0.out.below hB1)
      have HB1 := Lib.hid hB1
      clear hB1
      have a0 := hA1.cell 0
      have a1 := hA1.cell 1
      have a2 := hA1.cell 2
      have b0 := hL1.cell 0
      have b1 := hL1.cell 1
      have b2 := hL1.cell 2
      have c0 := hX1.cell 0
      have c1 := hX1.cell 1
      have c2 := hX1.cell 2
      simp at a0 a1 a2 b0 b1 b2 c0 c1 c2
      have HA1 := Lib.hid hA1
      have HL1 := Lib.hid hL1
      have HX1 := Lib.hid hX1
      clear hA1 hL1 hX1
      refine (F1.out _ HS1.out).mono ?_
      rintro e w2 ⟨rfl, hb2⟩
      have hA2 := HA1.out.keep hb2
      have hL2 := HL1.out.keep hb2
      have hX2 := HX1.out.keep hb2
      have HB2 := Lib.hid (HB1.out.trans (hb2.mono HB1.out.size))
      have HS2 := Lib.hid (HS1.out.below hb2)
      clear a0 a1 a2 b0 b1 b2 c0 c1 c2 hb2
      have a0 := hA2.cell 0
      have a1 := hA2.cell 1
      have a2 := hA2.cell 2
      have b0 := hL2.cell 0
      have b1 := hL2.cell 1
      have b2 := hL2.cell 2
      have c0 := hX2.cell 0
      have c1 := hX2.cell 1
      have c2 := hX2.cell 2
      simp at a0 a1 a2 b0 b1 b2 c0 c1 c2
      have HA2 := Lib.hid hA2
      have HL2 := Lib.hid hL2
      have HX2 := Lib.hid hX2
      clear hA2 hL2 hX2
      go_wp2_with fail
      refine (F2.out _ HS2.out).mono ?_
      rintro e w3 ⟨rfl, hb3⟩
      have hA3 := HA2.out.keep hb3
      have hL3 := HL2.out.keep hb3
      have hX3 := HX2.out.keep hb3
      have HB3 := Lib.hid (HB2.out.trans (hb3.mono HB2.out.size))
      have HS3 := Lib.hid (HS2.out.below hb3)
      clear a0 a1 a2 b0 b1 b2 c0 c1 c2 hb3
      have a0 := hA3.cell 0
      have a1 := hA3.cell 1
      have a2 := hA3.cell 2
      have b0 := hL3.cell 0
      have b1 := hL3.cell 1
      have b2 := hL3.cell 2
      have c0 := hX3.cell 0
      have c1 := hX3.cell 1
      have c2 := hX3.cell 2
      simp at a0 a1 a2 b0 b1 b2 c0 c1 c2
      have HA3 := Lib.hid hA3
      have HL3 := Lib.hid hL3
      have HX3 := Lib.hid hX3
      clear hA3 hL3 hX3
      go_wp2_with fail
      refine (F3.out _ HS3.out).mono ?_
      rintro e w4 ⟨rfl, hb4⟩
      have hA4 := HA3.out.keep hb4
      have hL4 := HL3.out.keep hb4
      have hX4 := HX3.out.keep hb4
      have HB4 := Lib.hid (HB3.out.trans (hb4.mono HB3.out.size))
      have HS4 := Lib.hid (HS3.out.below hb4)
      clear a0 a1 a2 b0 b1 b2 c0 c1 c2 hb4
      have a0 := hA4.cell 0
      have a1 := hA4.cell 1
      have a2 := hA4.cell 2
      have b0 := hL4.cell 0
      have b1 := hL4.cell 1
      have b2 := hL4.cell 2
      have c0 := hX4.cell 0
      have c1 := hX4.cell 1
      have c2 := hX4.cell 2
      simp at a0 a1 a2 b0 b1 b2 c0 c1 c2
      have HA4 := Lib.hid hA4
      have HL4 := Lib.hid hL4
      have HX4 := Lib.hid hX4
      clear hA4 hL4 hX4
      go_wp2_with fail
      have C1 := Lib.hid (met (w := w4) (fun X hX => HM1.out X (HS4.out.below hX)))
      have C2 := Lib.hid (met (w := w4) (fun X _ => HM2.out X))
      have k0 := cell_regrown a0
      have k1 := cell_regrown a1
      have k2 := cell_regrown a2
      have k3 := cell_regrown b0
      have k4 := cell_regrown b1
      have k5 := cell_regrown b2
      have k6 := cell_regrown c0
      have k7 := cell_regrown c1
      have k8 := cell_regrown c2
      clear a0 a1 a2 b0 b1 b2 c0 c1 c2
      refine wp_region_quiet_below (by kernel_rfl) (by kernel_rfl) ?_
      repeat (go_big_quiet_step (first | (with_reducible exact C1.out _ _) | (with_reducible exact C2.out _ _)))
      refine wpQuiet_nil ?_
      intro _ hw'
      obtain ⟨⟨dq, osq⟩, hw''⟩ := hw'
      subst hw''
      have hb5 := below_regrown w4 dq osq
      generalize hX : Go.Sort.grow (redrawn w4 dq) osq = w5 at hb5 ⊢
      clear hX k0 k1 k2 k3 k4 k5 k6 k7 k8
      have hA5 := HA4.out.keep hb5
      have hL5 := HL4.out.keep hb5
      have hX5 := HX4.out.keep hb5
      have HB5 := Lib.hid (HB4.out.trans (hb5.mono HB4.out.size))
      have HS5 := Lib.hid (HS4.out.below hb5)
      clear hb5
      have a0 := hA5.cell 0
      have a1 := hA5.cell 1
      have a2 := hA5.cell 2
      have b0 := hL5.cell 0
      have b1 := hL5.cell 1
      have b2 := hL5.cell 2
      have c0 := hX5.cell 0
      have c1 := hX5.cell 1
      have c2 := hX5.cell 2
      simp at a0 a1 a2 b0 b1 b2 c0 c1 c2
      have HA5 := Lib.hid hA5
      have HL5 := Lib.hid hL5
      have HX5 := Lib.hid hX5
      clear hA5 hL5 hX5
      clear C1 C2
      go_wp2_with fail
      refine (F4.out _ HS5.out).mono ?_
      rintro e w6 ⟨rfl, hb6⟩
      have hA6 := HA5.out.keep hb6
      have hL6 := HL5.out.keep hb6
      have hX6 := HX5.out.keep hb6
      have HB6 := Lib.hid (HB5.out.trans (hb6.mono HB5.out.size))
      have HS6 := Lib.hid (HS5.out.below hb6)
      clear a0 a1 a2 b0 b1 b2 c0 c1 c2 hb6
      have a0 := hA6.cell 0
      have a1 := hA6.cell 1
      have a2 := hA6.cell 2
      have b0 := hL6.cell 0
      have b1 := hL6.cell 1
      have b2 := hL6.cell 2
      have c0 := hX6.cell 0
      have c1 := hX6.cell 1
      have c2 := hX6.cell 2
      simp at a0 a1 a2 b0 b1 b2 c0 c1 c2
      have HA6 := Lib.hid hA6
      have HL6 := Lib.hid hL6
      have HX6 := Lib.hid hX6
      clear hA6 hL6 hX6
      go_wp2_with fail
      go_loopw [9] (fun i wr => ∃ t : Int, i = .int .i64 t ∧ z ≤ t ∧ (t ≤ y + 1) ∧ (∀ u, z ≤ u → u < t → okT S n b (P3 p1 p2 p3) xl xh xw u) ∧ Below w6.heap.size w6 wr) (fun i _ => (y + 1 - intOf i).toNat)
      case atStart => exact ⟨z, rfl, Int.le_refl _, by omega, fun u h1 h2 => (by omega : False).elim, Below.refl _ _⟩
      case round =>
        obtain ⟨t, rfl, ht1, ht2, hok, hb7⟩ := hrel
        have HOK := Lib.hid hok
        have HWR := Lib.hid hb7
        clear hok
        have hA7 := HA6.out.keep hb7
        have hL7 := HL6.out.keep hb7
        have hX7 := HX6.out.keep hb7
        have HB7 := Lib.hid (HB6.out.trans (hb7.mono HB6.out.size))
        have HS7 := Lib.hid (HS6.out.below hb7)
        clear a0 a1 a2 b0 b1 b2 c0 c1 c2 hb7
        have a0 := hA7.cell 0
        have a1 := hA7.cell 1
        have a2 := hA7.cell 2
        have b0 := hL7.cell 0
        have b1 := hL7.cell 1
        have b2 := hL7.cell 2
        have c0 := hX7.cell 0
        have c1 := hX7.cell 1
        have c2 := hX7.cell 2
        simp at a0 a1 a2 b0 b1 b2 c0 c1 c2
        have HA7 := Lib.hid hA7
        have HL7 := Lib.hid hL7
        have HX7 := Lib.hid hX7
        clear hA7 hL7 hX7
        go_wp2_with fail
        refine (F5.out _ HS7.out).mono ?_
        rintro e w8 ⟨rfl, hb8⟩
        have HWR8 := Lib.hid (HWR.out.trans (hb8.mono HWR.out.size))
        have hA8 := HA7.out.keep hb8
        have hL8 := HL7.out.keep hb8
        have hX8 := HX7.out.keep hb8
        have HB8 := Lib.hid (HB7.out.trans (hb8.mono HB7.out.size))
        have HS8 := Lib.hid (HS7.out.below hb8)
        clear a0 a1 a2 b0 b1 b2 c0 c1 c2 hb8
        have a0 := hA8.cell 0
        have a1 := hA8.cell 1
        have a2 := hA8.cell 2
        have b0 := hL8.cell 0
        have b1 := hL8.cell 1
        have b2 := hL8.cell 2
        have c0 := hX8.cell 0
        have c1 := hX8.cell 1
        have c2 := hX8.cell 2
        simp at a0 a1 a2 b0 b1 b2 c0 c1 c2
        have HA8 := Lib.hid hA8
        have HL8 := Lib.hid hL8
        have HX8 := Lib.hid hX8
        clear hA8 hL8 hX8
        by_cases hlt : t ≤ y
        · obtain ⟨BX2, hBX2⟩ : ∃ v, v = boxV S n b t := ⟨_, rfl⟩
          have HM3 : Hid (∀ X, St X A n S → Calls Try.prog 27 #[.agg #[.string s, .int .i64 b, .slice A n c], .int .i64 t] X fun e w' => e = .returned BX2 ∧ Below X.heap.size X w') := fun X hX => by rw [hBX2]; exact FB.out t X ht1 hlt hX
          have HM4 : Hid (∀ X, Calls Try.prog 33 #[BX2, .agg #[.int .i64 p1, .int .i64 p2, .int .i64 p3]] X fun e w' => e = .returned (.agg #[.int .i64 (sqL S n b t (P3 p1 p2 p3)), .int .i64 (sqH S n b t (P3 p1 p2 p3))]) ∧ Below X.heap.size X w') := fun X => by rw [hBX2]; exact FQ.out t X ht1 hlt
          obtain ⟨lowk, hlowk⟩ : ∃ v, v = sqL S n b t (P3 p1 p2 p3) := ⟨_, rfl⟩
          rw [← hlowk] at HM4
          generalize sqH S n b t (P3 p1 p2 p3) = topk at HM4
          have HLK := Lib.hid hlowk
          have HTH : Hid (Go.Proofs.Ytegmjanpeaibcaa.Has S n t) := (HHS.out t).2 ⟨ht1, hlt⟩
          clear hBX2 hlowk
          by_cases hin : inB t xl xh = true
          · have HIN := Lib.hid hin
            have HW : Hid (∀ W : World, Calls Try.prog 21 #[.int .i64 t, .int .i64 xl, .int .i64 xh] W fun e w' => e = .returned (.bool true) ∧ W = w') := fun W => by rw [← hin]; exact baseWithin_any _ _ _ W
            have C3 := Lib.hid (fun d os => met_same (w := w8) HW.out d os)
            clear hin
            go_wp2_with fail
            have k0 := cell_regrown a0
            have k1 := cell_regrown a1
            have k2 := cell_regrown a2
            have k3 := cell_regrown b0
            have k4 := cell_regrown b1
            have k5 := cell_regrown b2
            have k6 := cell_regrown c0
            have k7 := cell_regrown c1
            have k8 := cell_regrown c2
            clear a0 a1 a2 b0 b1 b2 c0 c1 c2
            refine wp_region_quiet_below (by kernel_rfl) (by kernel_rfl) ?_
            repeat (go_big_quiet_step (first | (with_reducible exact C3.out _ _)))
            refine wpQuiet_nil ?_
            intro _ hw'
            obtain ⟨⟨dq, osq⟩, hw''⟩ := hw'
            subst hw''
            have hb9 := below_regrown w8 dq osq
            generalize hX : Go.Sort.grow (redrawn w8 dq) osq = w9 at hb9 ⊢
            clear hX k0 k1 k2 k3 k4 k5 k6 k7 k8
            have HWR9 := Lib.hid (HWR8.out.trans (hb9.mono HWR8.out.size))
            have w8' : IntKind.i64.wrap (t + 1) = t + 1 := IntWalk.i64_in _ (by omega)
            go_wp2
            go_roundw
            case rel =>
              refine ⟨t + 1, by first | rfl | (rw [w8']) | go_num, by omega, by omega, ?_, HWR9.out⟩
              intro u hu1 hu2
              rcases Int.lt_or_le u t with g | g
              · exact HOK.out u hu1 g
              · obtain rfl : u = t := by omega
                exact .inl (inB_iff.1 HIN.out)
            case measure => simp [intOf]; omega
          · have hin : inB t xl xh = false := by simpa using hin
            have hnin : ¬ (xl ≤ t ∧ t ≤ xh) := fun h => by
              have := inB_t h
              rw [hin] at this
              cases this
            have HNIN := Lib.hid hnin
            have HW : Hid (∀ W : World, Calls Try.prog 21 #[.int .i64 t, .int .i64 xl, .int .i64 xh] W fun e w' => e = .returned (.bool false) ∧ W = w') := fun W => by rw [← hin]; exact baseWithin_any _ _ _ W
            have C3 := Lib.hid (fun d os => met_same (w := w8) HW.out d os)
            have C4 := Lib.hid (met (w := w8) (fun X hX => HM3.out X (HS8.out.below hX)))
            have C5 := Lib.hid (met (w := w8) (fun X _ => HM4.out X))
            clear hin hnin
            go_wp2_with fail
            have k0 := cell_regrown a0
            have k1 := cell_regrown a1
            have k2 := cell_regrown a2
            have k3 := cell_regrown b0
            have k4 := cell_regrown b1
            have k5 := cell_regrown b2
            have k6 := cell_regrown c0
            have k7 := cell_regrown c1
            have k8 := cell_regrown c2
            clear a0 a1 a2 b0 b1 b2 c0 c1 c2
            refine wp_region_quiet_below (by kernel_rfl) (by kernel_rfl) ?_
            repeat (go_big_quiet_step (first | (with_reducible exact C3.out _ _) | (with_reducible exact C4.out _ _) | (with_reducible exact C5.out _ _)))
            refine wpQuiet_nil ?_
            intro _ hw'
            obtain ⟨⟨dq, osq⟩, hw''⟩ := hw'
            subst hw''
            have hb9 := below_regrown w8 dq osq
            generalize hX : Go.Sort.grow (redrawn w8 dq) osq = w9 at hb9 ⊢
            clear hX k0 k1 k2 k3 k4 k5 k6 k7 k8
            have HWR9 := Lib.hid (HWR8.out.trans (hb9.mono HWR8.out.size))
            have HB9 := Lib.hid (HB8.out.trans (hb9.mono HB8.out.size))
            by_cases hlm : lowk ≤ most
            · have HRES : Hid (CN true b n S p1 p2 p3 xl xh xw (.returned (.tuple #[.int .i64 0, .int .i64 22]))) := by
                refine Or.inr (Or.inl ⟨HE.out, ⟨t, HTH.out, ?_⟩, rfl⟩)
                rintro (g | g)
                · exact HNIN.out g
                · rw [← HLK.out, ← HM.out] at g
                  omega
              go_wp2
              go_ret2
              refine ⟨?_, HB9.out⟩
              first | exact HRES.out | (simpa using HRES.out)
            · have w8' : IntKind.i64.wrap (t + 1) = t + 1 := IntWalk.i64_in _ (by omega)
              have HLM := Lib.hid hlm
              go_wp2
              go_roundw
              case rel =>
                refine ⟨t + 1, by first | rfl | (rw [w8']) | go_num, by omega, by omega, ?_, HWR9.out⟩
                intro u hu1 hu2
                rcases Int.lt_or_le u t with g | g
                · exact HOK.out u hu1 g
                · obtain rfl : u = t := by omega
                  refine .inr ?_
                  rw [← HLK.out, ← HM.out]
                  have := HLM.out
                  omega
              case measure => simp [intOf]; omega
        · have HRES : Hid (CN true b n S p1 p2 p3 xl xh xw (.returned (.tuple #[.int .i64 (xh - xl + 1), .int .i64 0]))) := by
            refine Or.inr (Or.inr ⟨HE.out, ?_, rfl⟩)
            intro u hu
            have hu2 := (HHS.out u).1 hu
            exact HOK.out u hu2.1 (by omega)
          go_wp2
          go_ret2
          refine ⟨?_, HB8.out⟩
          first | exact HRES.out | (simpa using HRES.out)
end Go.Proofs.Ytegmjanpeaibcaa
