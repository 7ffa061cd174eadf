/- Contracts of package orbit: ticks that are accepted as nearest ones. -/
import Derived.Test.YtnaanninmkplfaaOps
import Derived.Test.YtnaanninmkplfaaOeq
namespace Go.Proofs.Ytnaanninmkplfaa
open Go.RowKit Go.Shelf
attribute [local go_sem] Oper.semAt_some
set_option maxHeartbeats 1600000
set_option maxRecDepth 100000

def l6 (a b c d e f : Int) (i : Nat) : Int := if i = 0 then a else if i = 1 then b else if i = 2 then c else if i = 3 then d else if i = 4 then e else f
theorem get_l6 (a b c d e f : Int) : ∀ i, i < 6 → (#[.int .i64 a, .int .i64 b, .int .i64 c, .int .i64 d, .int .i64 e, .int .i64 f] : Array Value)[i]? = some (.int .i64 (l6 a b c d e f i)) := by
  intro i hi
  match i, hi with
  | 0, _ => rfl
  | 1, _ => rfl
  | 2, _ => rfl
  | 3, _ => rfl
  | 4, _ => rfl
  | 5, _ => rfl
theorem fe_succ_zero {f : Nat → Int} {k : Nat} (h : fe f (k + 1) = 0) : fe f k = 0 ∧ f k = 0 := by
  rw [fe] at h
  split at h
  · exact ⟨by assumption, h⟩
  · contradiction

/-- the error of what CheckNearest is asked -/
def eC (nm : Bool) (b : Int) (n : Nat) (S : Nat → Nat → Int) (p1 p2 p3 xl xh xw : Int) : Int := fe (l6 (oce nm b n S).2 (pe p1 p2 p3) (eif (!hasB S n xl) 2) (eif (!hasB S n xh) 2) (eif (!hasB S n xw) 2) (eif (decide (xh < xl)) 9)) 6
theorem has_of {S : Nat → Nat → Int} {n : Nat} {t : Int} (h : eif (!hasB S n t) 2 = 0) : Has S n t := by
  have hb : hasB S n t = true := by
    cases hq : hasB S n t with
    | true => rfl
    | false => rw [hq] at h; simp [eif] at h
  unfold hasB at hb
  rw [Bool.and_eq_true] at hb
  exact inB_iff.1 hb.2
theorem eC_zero {nm : Bool} {b : Int} {n : Nat} {S : Nat → Nat → Int} {p1 p2 p3 xl xh xw : Int} (h : eC nm b n S p1 p2 p3 xl xh xw = 0) :
    nm = true ∧ Right S n b ∧ ((-100000000 ≤ p1 ∧ p1 ≤ 100000000) ∧ (-100000000 ≤ p2 ∧ p2 ≤ 100000000) ∧ (-100000000 ≤ p3 ∧ p3 ≤ 100000000)) ∧ Has S n xl ∧ Has S n xh ∧ Has S n xw ∧ xl ≤ xh := by
  unfold eC at h
  obtain ⟨h, a6⟩ := fe_succ_zero h
  obtain ⟨h, a5⟩ := fe_succ_zero h
  obtain ⟨h, a4⟩ := fe_succ_zero h
  obtain ⟨h, a3⟩ := fe_succ_zero h
  obtain ⟨h, a2⟩ := fe_succ_zero h
  obtain ⟨_, a1⟩ := fe_succ_zero h
  obtain ⟨h1, h2⟩ := oce_zero a1
  refine ⟨h1, h2, pe_zero a2, has_of a3, has_of a4, has_of a5, ?_⟩
  rcases Int.lt_or_le xh xl with g | g
  · have a6 : eif (decide (xh < xl)) 9 = 0 := a6
    rw [decide_eq_true g] at a6
    simp [eif] at a6
  · exact g

theorem cell_put {W : World} {D g i : Nat} {o : Obj} (h : g ≠ D) : (W.putObj D o).cell? ⟨g, i, none⟩ = W.cell? ⟨g, i, none⟩ := World.cell?_of_block (World.putObj_heap_other (by show g ≠ D; exact h))

/-- a tick that may stand beside the accepted ones -/
def okT (S : Nat → Nat → Int) (n : Nat) (b : Int) (P : Nat → Int) (xl xh xw t : Int) : Prop := (xl ≤ t ∧ t ≤ xh) ∨ sqH S n b xw P < sqL S n b t P
/-- what CheckNearest returns -/
def CN (nm : Bool) (b : Int) (n : Nat) (S : Nat → Nat → Int) (p1 p2 p3 xl xh xw : Int) (e : Ending) : Prop :=
  (eC nm b n S p1 p2 p3 xl xh xw ≠ 0 ∧ e = .returned (.tuple #[.int .i64 0, .int .i64 (eC nm b n S p1 p2 p3 xl xh xw)])) ∨
  (eC nm b n S p1 p2 p3 xl xh xw = 0 ∧ (∃ t, Go.Proofs.Ytnaanninmkplfaa.Has S n t ∧ ¬ okT S n b (P3 p1 p2 p3) xl xh xw t) ∧ e = .returned (.tuple #[.int .i64 0, .int .i64 22])) ∨
  (eC nm b n S p1 p2 p3 xl xh xw = 0 ∧ (∀ t, Go.Proofs.Ytnaanninmkplfaa.Has S n t → okT S n b (P3 p1 p2 p3) xl xh xw t) ∧ e = .returned (.tuple #[.int .i64 (xh - xl + 1), .int .i64 0]))

theorem checkNearest_any (s : ByteArray) (b : Int) (A : Option Addr) (n c : Nat) (S : Nat → Nat → Int) (p1 p2 p3 xl xh xw : Int) (w : World) (hS : St w A n S) (hs : s.size ≤ maxLen) (hn : n ≤ c) (hc : c ≤ maxLen) :
    Calls Try.prog 44 #[.agg #[.string s, .int .i64 b, .slice A n c], .agg #[.int .i64 p1, .int .i64 p2, .int .i64 p3], .agg #[.int .i64 xl, .int .i64 xh, .int .i64 xw]] w fun e w' => CN (nmB s) b n S p1 p2 p3 xl xh xw e ∧ Below w.heap.size w w' := by
  refine (callsIn_wide (n := 9)).1 (callsIn_of_wp_marks Try.func44 rfl trivial (wpIn_wide.2 ?_))
  simp only [Try.ntmps44, List.size_toArray, List.length_cons, List.length_nil, Nat.reduceAdd, Nat.reduceSub, Array.replicate_succ, Array.replicate_zero, List.push_toArray, List.append_toArray, List.cons_append, List.nil_append]
  have HS := Lib.hid hS
  have H1 := Lib.hid hs
  have HN := Lib.hid hn
  have HC := Lib.hid hc
  clear hS hs hn hc
  go_wp2_with fail
  have hA : At ((((((w.alloc (.cells #[.string s, .int .i64 b, .slice A n c] 24)).alloc (.cells #[.int .i64 p1, .int .i64 p2, .int .i64 p3] 42)).alloc (.cells #[.int .i64 xl, .int .i64 xh, .int .i64 xw] 77)).alloc (.cells #[.int .i64 0] 3)).alloc (.cells #[.int .i64 0] 27)).alloc (.cells #[.string s, .int .i64 b, .slice A n c] 126)) (w.heap.size + 1 + 1 + 1 + 1 + 1) 126 #[.string s, .int .i64 b, .slice A n c] := at_new (by simp)
  have hL : At ((((((w.alloc (.cells #[.string s, .int .i64 b, .slice A n c] 24)).alloc (.cells #[.int .i64 p1, .int .i64 p2, .int .i64 p3] 42)).alloc (.cells #[.int .i64 xl, .int .i64 xh, .int .i64 xw] 77)).alloc (.cells #[.int .i64 0] 3)).alloc (.cells #[.int .i64 0] 27)).alloc (.cells #[.string s, .int .i64 b, .slice A n c] 126)) (w.heap.size + 1) 42 #[.int .i64 p1, .int .i64 p2, .int .i64 p3] := ((((at_new (by simp)).alloc _).alloc _).alloc _).alloc _
  have hX : At ((((((w.alloc (.cells #[.string s, .int .i64 b, .slice A n c] 24)).alloc (.cells #[.int .i64 p1, .int .i64 p2, .int .i64 p3] 42)).alloc (.cells #[.int .i64 xl, .int .i64 xh, .int .i64 xw] 77)).alloc (.cells #[.int .i64 0] 3)).alloc (.cells #[.int .i64 0] 27)).alloc (.cells #[.string s, .int .i64 b, .slice A n c] 126)) (w.heap.size + 1 + 1) 77 #[.int .i64 xl, .int .i64 xh, .int .i64 xw] := (((at_new (by simp)).alloc _).alloc _).alloc _
  have hU : At ((((((w.alloc (.cells #[.string s, .int .i64 b, .slice A n c] 24)).alloc (.cells #[.int .i64 p1, .int .i64 p2, .int .i64 p3] 42)).alloc (.cells #[.int .i64 xl, .int .i64 xh, .int .i64 xw] 77)).alloc (.cells #[.int .i64 0] 3)).alloc (.cells #[.int .i64 0] 27)).alloc (.cells #[.string s, .int .i64 b, .slice A n c] 126)) (w.heap.size + 1 + 1 + 1) 3 #[.int .i64 0] := ((at_new (by simp)).alloc _).alloc _
  have hV : At ((((((w.alloc (.cells #[.string s, .int .i64 b, .slice A n c] 24)).alloc (.cells #[.int .i64 p1, .int .i64 p2, .int .i64 p3] 42)).alloc (.cells #[.int .i64 xl, .int .i64 xh, .int .i64 xw] 77)).alloc (.cells #[.int .i64 0] 3)).alloc (.cells #[.int .i64 0] 27)).alloc (.cells #[.string s, .int .i64 b, .slice A n c] 126)) (w.heap.size + 1 + 1 + 1 + 1) 27 #[.int .i64 0] := (at_new (by simp)).alloc _
  have hb1 : Below w.heap.size w ((((((w.alloc (.cells #[.string s, .int .i64 b, .slice A n c] 24)).alloc (.cells #[.int .i64 p1, .int .i64 p2, .int .i64 p3] 42)).alloc (.cells #[.int .i64 xl, .int .i64 xh, .int .i64 xw] 77)).alloc (.cells #[.int .i64 0] 3)).alloc (.cells #[.int .i64 0] 27)).alloc (.cells #[.string s, .int .i64 b, .slice A n c] 126)) := by
    repeat (first | (with_reducible exact Below.refl _ _) | (with_reducible refine below_new ?_ (by first | omega | (simp; done) | (simp; omega))))
  generalize hW1 : ((((((w.alloc (.cells #[.string s, .int .i64 b, .slice A n c] 24)).alloc (.cells #[.int .i64 p1, .int .i64 p2, .int .i64 p3] 42)).alloc (.cells #[.int .i64 xl, .int .i64 xh, .int .i64 xw] 77)).alloc (.cells #[.int .i64 0] 3)).alloc (.cells #[.int .i64 0] 27)).alloc (.cells #[.string s, .int .i64 b, .slice A n c] 126)) = W1 at hA hL hX hU hV hb1 ⊢
  clear hW1
  have hS1 := HS.out.below hb1
  have hSS : ∀ w', Below W1.heap.size W1 w' → w'.cell? ⟨w.heap.size + 1 + 1 + 1 + 1 + 1, 0, none⟩ = some (.string s) ∧ w'.cell? ⟨w.heap.size + 1 + 1 + 1 + 1 + 1, 1, none⟩ = some (.int .i64 b) ∧ w'.cell? ⟨w.heap.size + 1 + 1 + 1 + 1 + 1, 2, none⟩ = some (.slice A n c) ∧ w'.cell? ⟨w.heap.size + 1, 0, none⟩ = some (.int .i64 p1) ∧ w'.cell? ⟨w.heap.size + 1, 1, none⟩ = some (.int .i64 p2) ∧ w'.cell? ⟨w.heap.size + 1, 2, none⟩ = some (.int .i64 p3) ∧ w'.cell? ⟨w.heap.size + 1 + 1, 0, none⟩ = some (.int .i64 xl) ∧ w'.cell? ⟨w.heap.size + 1 + 1, 1, none⟩ = some (.int .i64 xh) ∧ w'.cell? ⟨w.heap.size + 1 + 1, 2, none⟩ = some (.int .i64 xw) := fun w' hW => by
    have q := hA.keep hW
    have r := hL.keep hW
    have u := hX.keep hW
    exact ⟨q.cell 0, q.cell 1, q.cell 2, r.cell 0, r.cell 1, r.cell 2, u.cell 0, u.cell 1, u.cell 2⟩
  have hP1 : ∀ W : World, Below W1.heap.size W1 W → Calls Try.prog 76 #[.agg #[.string s, .int .i64 b, .slice A n c]] W fun e w' => e = .returned (.int .i64 (oce (nmB s) b n S).2) ∧ Below W1.heap.size W1 w' ∧ w'.cell? ⟨w.heap.size + 1 + 1 + 1 + 1 + 1, 0, none⟩ = some (.string s) ∧ w'.cell? ⟨w.heap.size + 1 + 1 + 1 + 1 + 1, 1, none⟩ = some (.int .i64 b) ∧ w'.cell? ⟨w.heap.size + 1 + 1 + 1 + 1 + 1, 2, none⟩ = some (.slice A n c) ∧ w'.cell? ⟨w.heap.size + 1, 0, none⟩ = some (.int .i64 p1) ∧ w'.cell? ⟨w.heap.size + 1, 1, none⟩ = some (.int .i64 p2) ∧ w'.cell? ⟨w.heap.size + 1, 2, none⟩ = some (.int .i64 p3) ∧ w'.cell? ⟨w.heap.size + 1 + 1, 0, none⟩ = some (.int .i64 xl) ∧ w'.cell? ⟨w.heap.size + 1 + 1, 1, none⟩ = some (.int .i64 xh) ∧ w'.cell? ⟨w.heap.size + 1 + 1, 2, none⟩ = some (.int .i64 xw) := by
    intro W hW
    refine (check_any s b A n c S W (hS1.below hW) H1.out HN.out HC.out).mono ?_
    rintro e w' ⟨rfl, hb⟩
    have hB := hW.trans (hb.mono hW.size)
    exact ⟨rfl, hB, hSS _ hB⟩
  have hP2 : ∀ W : World, Below W1.heap.size W1 W → Calls Try.prog 92 #[.agg #[.int .i64 p1, .int .i64 p2, .int .i64 p3]] W fun e w' => e = .returned (.int .i64 (pe p1 p2 p3)) ∧ Below W1.heap.size W1 w' ∧ w'.cell? ⟨w.heap.size + 1 + 1 + 1 + 1 + 1, 0, none⟩ = some (.string s) ∧ w'.cell? ⟨w.heap.size + 1 + 1 + 1 + 1 + 1, 1, none⟩ = some (.int .i64 b) ∧ w'.cell? ⟨w.heap.size + 1 + 1 + 1 + 1 + 1, 2, none⟩ = some (.slice A n c) ∧ w'.cell? ⟨w.heap.size + 1, 0, none⟩ = some (.int .i64 p1) ∧ w'.cell? ⟨w.heap.size + 1, 1, none⟩ = some (.int .i64 p2) ∧ w'.cell? ⟨w.heap.size + 1, 2, none⟩ = some (.int .i64 p3) ∧ w'.cell? ⟨w.heap.size + 1 + 1, 0, none⟩ = some (.int .i64 xl) ∧ w'.cell? ⟨w.heap.size + 1 + 1, 1, none⟩ = some (.int .i64 xh) ∧ w'.cell? ⟨w.heap.size + 1 + 1, 2, none⟩ = some (.int .i64 xw) := by
    intro W hW
    refine (checkPlace_any p1 p2 p3 W).mono ?_
    rintro e w' ⟨rfl, hb⟩
    have hB := hW.trans (hb.mono hW.size)
    exact ⟨rfl, hB, hSS _ hB⟩
  have hP3 : ∀ W : World, Below W1.heap.size W1 W → Calls Try.prog 86 #[.agg #[.string s, .int .i64 b, .slice A n c], .int .i64 xl] W fun e w' => e = .returned (.int .i64 (eif (!hasB S n xl) 2)) ∧ Below W1.heap.size W1 w' ∧ w'.cell? ⟨w.heap.size + 1 + 1 + 1 + 1 + 1, 0, none⟩ = some (.string s) ∧ w'.cell? ⟨w.heap.size + 1 + 1 + 1 + 1 + 1, 1, none⟩ = some (.int .i64 b) ∧ w'.cell? ⟨w.heap.size + 1 + 1 + 1 + 1 + 1, 2, none⟩ = some (.slice A n c) ∧ w'.cell? ⟨w.heap.size + 1, 0, none⟩ = some (.int .i64 p1) ∧ w'.cell? ⟨w.heap.size + 1, 1, none⟩ = some (.int .i64 p2) ∧ w'.cell? ⟨w.heap.size + 1, 2, none⟩ = some (.int .i64 p3) ∧ w'.cell? ⟨w.heap.size + 1 + 1, 0, none⟩ = some (.int .i64 xl) ∧ w'.cell? ⟨w.heap.size + 1 + 1, 1, none⟩ = some (.int .i64 xh) ∧ w'.cell? ⟨w.heap.size + 1 + 1, 2, none⟩ = some (.int .i64 xw) := by
    intro W hW
    refine (checkTick_any s b A n c S xl W (hS1.below hW) (Nat.le_trans HN.out HC.out)).mono ?_
    rintro e w' ⟨rfl, hb⟩
    have hB := hW.trans (hb.mono hW.size)
    exact ⟨rfl, hB, hSS _ hB⟩
  have hP4 : ∀ W : World, Below W1.heap.size W1 W → Calls Try.prog 86 #[.agg #[.string s, .int .i64 b, .slice A n c], .int .i64 xh] W fun e w' => e = .returned (.int .i64 (eif (!hasB S n xh) 2)) ∧ Below W1.heap.size W1 w' ∧ w'.cell? ⟨w.heap.size + 1 + 1 + 1 + 1 + 1, 0, none⟩ = some (.string s) ∧ w'.cell? ⟨w.heap.size + 1 + 1 + 1 + 1 + 1, 1, none⟩ = some (.int .i64 b) ∧ w'.cell? ⟨w.heap.size + 1 + 1 + 1 + 1 + 1, 2, none⟩ = some (.slice A n c) ∧ w'.cell? ⟨w.heap.size + 1, 0, none⟩ = some (.int .i64 p1) ∧ w'.cell? ⟨w.heap.size + 1, 1, none⟩ = some (.int .i64 p2) ∧ w'.cell? ⟨w.heap.size + 1, 2, none⟩ = some (.int .i64 p3) ∧ w'.cell? ⟨w.heap.size + 1 + 1, 0, none⟩ = some (.int .i64 xl) ∧ w'.cell? ⟨w.heap.size + 1 + 1, 1, none⟩ = some (.int .i64 xh) ∧ w'.cell? ⟨w.heap.size + 1 + 1, 2, none⟩ = some (.int .i64 xw) := by
    intro W hW
    refine (checkTick_any s b A n c S xh W (hS1.below hW) (Nat.le_trans HN.out HC.out)).mono ?_
    rintro e w' ⟨rfl, hb⟩
    have hB := hW.trans (hb.mono hW.size)
    exact ⟨rfl, hB, hSS _ hB⟩
  have hP5 : ∀ W : World, Below W1.heap.size W1 W → Calls Try.prog 86 #[.agg #[.string s, .int .i64 b, .slice A n c], .int .i64 xw] W fun e w' => e = .returned (.int .i64 (eif (!hasB S n xw) 2)) ∧ Below W1.heap.size W1 w' ∧ w'.cell? ⟨w.heap.size + 1 + 1 + 1 + 1 + 1, 0, none⟩ = some (.string s) ∧ w'.cell? ⟨w.heap.size + 1 + 1 + 1 + 1 + 1, 1, none⟩ = some (.int .i64 b) ∧ w'.cell? ⟨w.heap.size + 1 + 1 + 1 + 1 + 1, 2, none⟩ = some (.slice A n c) ∧ w'.cell? ⟨w.heap.size + 1, 0, none⟩ = some (.int .i64 p1) ∧ w'.cell? ⟨w.heap.size + 1, 1, none⟩ = some (.int .i64 p2) ∧ w'.cell? ⟨w.heap.size + 1, 2, none⟩ = some (.int .i64 p3) ∧ w'.cell? ⟨w.heap.size + 1 + 1, 0, none⟩ = some (.int .i64 xl) ∧ w'.cell? ⟨w.heap.size + 1 + 1, 1, none⟩ = some (.int .i64 xh) ∧ w'.cell? ⟨w.heap.size + 1 + 1, 2, none⟩ = some (.int .i64 xw) := by
    intro W hW
    refine (checkTick_any s b A n c S xw W (hS1.below hW) (Nat.le_trans HN.out HC.out)).mono ?_
    rintro e w' ⟨rfl, hb⟩
    have hB := hW.trans (hb.mono hW.size)
    exact ⟨rfl, hB, hSS _ hB⟩
  obtain ⟨s0, s1, s2, s3, s4, s5, s6, s7, s8⟩ := hSS W1 (Below.refl _ _)
  have HP1 := Lib.hid hP1
  have HP2 := Lib.hid hP2
  have HP3 := Lib.hid hP3
  have HP4 := Lib.hid hP4
  have HP5 := Lib.hid hP5
  have HB1 := Lib.hid hb1
  have HA := Lib.hid hA
  have HL := Lib.hid hL
  have HX := Lib.hid hX
  have HU := Lib.hid hU
  have HV := Lib.hid hV
  have HS1 := Lib.hid hS1
  clear hP1 hP2 hP3 hP4 hP5 hb1 hA hL hX hU hV hS1 hSS
  go_region_held3 (fun w' => w'.cell? ⟨w.heap.size + 1 + 1 + 1 + 1 + 1, 0, none⟩ = some (.string s) ∧ w'.cell? ⟨w.heap.size + 1 + 1 + 1 + 1 + 1, 1, none⟩ = some (.int .i64 b) ∧ w'.cell? ⟨w.heap.size + 1 + 1 + 1 + 1 + 1, 2, none⟩ = some (.slice A n c) ∧ w'.cell? ⟨w.heap.size + 1, 0, none⟩ = some (.int .i64 p1) ∧ w'.cell? ⟨w.heap.size + 1, 1, none⟩ = some (.int .i64 p2) ∧ w'.cell? ⟨w.heap.size + 1, 2, none⟩ = some (.int .i64 p3) ∧ w'.cell? ⟨w.heap.size + 1 + 1, 0, none⟩ = some (.int .i64 xl) ∧ w'.cell? ⟨w.heap.size + 1 + 1, 1, none⟩ = some (.int .i64 xh) ∧ w'.cell? ⟨w.heap.size + 1 + 1, 2, none⟩ = some (.int .i64 xw)) (go_keep)
    (first
      | (go_at_call 76; (with_reducible refine (HP1.out _ ?_).mono ?_); (repeat (first | assumption | (with_reducible exact Below.refl _ _) | (with_reducible refine Below.drew ?_) | (with_reducible refine below_drewNs ?_))); rintro e w4 ⟨rfl, hb4, ha0, ha1, ha2, ha3, ha4, ha5, ha6, ha7, ha8⟩)
      | (go_at_call 92; (with_reducible refine (HP2.out _ ?_).mono ?_); (repeat (first | assumption | (with_reducible exact Below.refl _ _) | (with_reducible refine Below.drew ?_) | (with_reducible refine below_drewNs ?_))); rintro e w5 ⟨rfl, hb5, hb0, hb1, hb2, hb3, hb4, hb5, hb6, hb7, hb8⟩)
      | (go_at_call 86; (with_reducible refine (HP3.out _ ?_).mono ?_); (repeat (first | assumption | (with_reducible exact Below.refl _ _) | (with_reducible refine Below.drew ?_) | (with_reducible refine below_drewNs ?_))); rintro e w6 ⟨rfl, hb6, hc0, hc1, hc2, hc3, hc4, hc5, hc6, hc7, hc8⟩)
      | (go_at_call 86; (with_reducible refine (HP4.out _ ?_).mono ?_); (repeat (first | assumption | (with_reducible exact Below.refl _ _) | (with_reducible refine Below.drew ?_) | (with_reducible refine below_drewNs ?_))); rintro e w7 ⟨rfl, hb7, hd0, hd1, hd2, hd3, hd4, hd5, hd6, hd7, hd8⟩)
      | (go_at_call 86; (with_reducible refine (HP5.out _ ?_).mono ?_); (repeat (first | assumption | (with_reducible exact Below.refl _ _) | (with_reducible refine Below.drew ?_) | (with_reducible refine below_drewNs ?_))); rintro e w8 ⟨rfl, hb8, he0, he1, he2, he3, he4, he5, he6, he7, he8⟩)
      | (go_at_call 71; refine (errorIf_any _ _ _).mono ?_; rintro e w' ⟨rfl, rfl⟩)
      | (go_at_call 70; (with_reducible refine (firstError_any _ 6 6 (l6 _ _ _ _ _ _) _ (sl_new (by simp) (get_l6 _ _ _ _ _ _)) (by omega)).mono ?_); rintro e w' ⟨rfl, rfl⟩)
      | (go_at_call 70; (with_reducible refine (firstError_any _ 6 6 (l6 _ _ _ _ _ _) _ (sl_newd (by simp) (get_l6 _ _ _ _ _ _)) (by omega)).mono ?_); rintro e w' ⟨rfl, rfl⟩))
  rw [show fe (l6 (oce (nmB s) b n S).2 (pe p1 p2 p3) (eif (!hasB S n xl) 2) (eif (!hasB S n xh) 2) (eif (!hasB S n xw) 2) (eif (decide (xh < xl)) 9)) 6 = eC (nmB s) b n S p1 p2 p3 xl xh xw from rfl]
  have hw : Below W1.heap.size W1 (w8.alloc (.cells #[.int .i64 (oce (nmB s) b n S).2, .int .i64 (pe p1 p2 p3), .int .i64 (eif (!hasB S n xl) 2), .int .i64 (eif (!hasB S n xh) 2), .int .i64 (eif (!hasB S n xw) 2), .int .i64 (eif (decide (xh < xl)) 9)] 27)) := below_new hb8 hb8.size
  generalize hW2 : w8.alloc (.cells #[.int .i64 (oce (nmB s) b n S).2, .int .i64 (pe p1 p2 p3), .int .i64 (eif (!hasB S n xl) 2), .int .i64 (eif (!hasB S n xh) 2), .int .i64 (eif (!hasB S n xw) 2), .int .i64 (eif (decide (xh < xl)) 9)] 27) = W2 at hw ⊢
  clear hW2 hb8 he0 he1 he2 he3 he4 he5 he6 he7 he8 s0 s1 s2 s3 s4 s5 s6 s7 s8
  have hA2 := HA.out.keep hw
  have hL2 := HL.out.keep hw
  have hX2 := HX.out.keep hw
  have s0 := hA2.cell 0
  have s1 := hA2.cell 1
  have s2 := hA2.cell 2
  have s3 := hL2.cell 0
  have s4 := hL2.cell 1
  have s5 := hL2.cell 2
  have s6 := hX2.cell 0
  have s7 := hX2.cell 1
  have s8 := hX2.cell 2
  simp at s0 s1 s2 s3 s4 s5 s6 s7 s8
  have HA2 := Lib.hid hA2
  have HL2 := Lib.hid hL2
  have HX2 := Lib.hid hX2
  have HU2 := Lib.hid (HU.out.keep hw)
  have HV2 := Lib.hid (HV.out.keep hw)
  have HBf := Lib.hid (HB1.out.trans (hw.mono HB1.out.size))
  have HST := Lib.hid (HS1.out.below hw)
  have hz : w.heap.size + 1 + 1 + 1 + 1 + 1 < W2.heap.size := hA2.lt
  clear hA2 hL2 hX2 hw
  by_cases he : eC (nmB s) b n S p1 p2 p3 xl xh xw = 0
  · have d1 : (eC (nmB s) b n S p1 p2 p3 xl xh xw != 0) = false := by rw [he]; rfl
    obtain ⟨hnm, hR, hp, hxl, hxh, hxw, hle⟩ := eC_zero he
    have HE := Lib.hid he
    have HR := Lib.hid hR
    have HPP := Lib.hid hp
    have HXL := Lib.hid hxl
    have HXH := Lib.hid hxh
    have HXW := Lib.hid hxw
    have HLE := Lib.hid hle
    clear he hR hp hnm hxl hxh hxw hle
    go_wp2_with fail
    refine (squares_any s b A n c S xw p1 p2 p3 (P3 p1 p2 p3) _ HST.out HR.out HXW.out HN.out HC.out (P3_pl HPP.out) ⟨rfl, rfl, rfl⟩).mono ?_
    rintro e w9 ⟨rfl, hb9⟩
    unfold sqV
    have hA9 := HA2.out.keep hb9
    have t0 := hA9.cell 0
    have t1 := hA9.cell 1
    have t2 := hA9.cell 2
    simp at t0 t1 t2
    have hz9 : w.heap.size + 1 + 1 + 1 + 1 + 1 < w9.heap.size := hA9.lt
    have HA9 := Lib.hid hA9
    have HB9 := Lib.hid hb9
    obtain ⟨most, hmost⟩ : ∃ m, m = sqH S n b xw (P3 p1 p2 p3) := ⟨_, rfl⟩
    rw [← hmost]
    have HM := Lib.hid hmost
    clear hA9 hb9 hmost s0 s1 s2 s3 s4 s5 s6 s7 s8
    go_wp2_with fail
    have hA3 := HA9.out.alloc (.cells #[.int .i64 most] 3)
    have hL3 := (HL2.out.keep HB9.out).alloc (.cells #[.int .i64 most] 3)
    have hX3 := (HX2.out.keep HB9.out).alloc (.cells #[.int .i64 most] 3)
    have hU3 := (HU2.out.keep HB9.out).alloc (.cells #[.int .i64 most] 3)
    have hV3 := (HV2.out.keep HB9.out).alloc (.cells #[.int .i64 most] 3)
    have hG3 := At.new w9 3 #[.int .i64 most]
    have hb9 := HBf.out.trans (HB9.out.mono HBf.out.size)
    have hB3 : Below w.heap.size w (w9.alloc (.cells #[.int .i64 most] 3)) := below_new hb9 hb9.size
    have hsz : (w9.alloc (.cells #[.int .i64 most] 3)).heap.size = w9.heap.size + 1 := by simp
    generalize hW3 : w9.alloc (.cells #[.int .i64 most] 3) = wc at hA3 hL3 hX3 hU3 hV3 hG3 hB3 hsz ⊢
    clear hW3 hb9
    have hn0 : w.heap.size ≤ wc.heap.size := hB3.size
    have hTk := ticks_rounds s b A n c S b w wc HS.out HR.out HN.out HC.out hB3
    have HSZ := Lib.hid hsz
    have h0 : (fun (k : Nat) (W : World) => (∀ t, S 0 0 ≤ t → t < S 0 0 + (k : Int) → okT S n b (P3 p1 p2 p3) xl xh xw t) ∧ At W (w.heap.size + 1 + 1 + 1) 3 #[.int .i64 0] ∧ At W (w.heap.size + 1 + 1 + 1 + 1) 27 #[.int .i64 0] ∧ At W w9.heap.size 3 #[.int .i64 most] ∧ Below w.heap.size w W ∧ At W (w.heap.size + 1 + 1 + 1 + 1 + 1) 126 #[.string s, .int .i64 b, .slice A n c] ∧ At W (w.heap.size + 1) 42 #[.int .i64 p1, .int .i64 p2, .int .i64 p3] ∧ At W (w.heap.size + 1 + 1) 77 #[.int .i64 xl, .int .i64 xh, .int .i64 xw]) 0 wc := ⟨fun t (h1 : S 0 0 ≤ t) (h2 : t < S 0 0 + ((0 : Nat) : Int)) => (by omega : False).elim, hU3, hV3, hG3, hB3, hA3, hL3, hX3⟩
    have hI : OwnFrom wc.heap.size (fun (k : Nat) (W : World) => (∀ t, S 0 0 ≤ t → t < S 0 0 + (k : Int) → okT S n b (P3 p1 p2 p3) xl xh xw t) ∧ At W (w.heap.size + 1 + 1 + 1) 3 #[.int .i64 0] ∧ At W (w.heap.size + 1 + 1 + 1 + 1) 27 #[.int .i64 0] ∧ At W w9.heap.size 3 #[.int .i64 most] ∧ Below w.heap.size w W ∧ At W (w.heap.size + 1 + 1 + 1 + 1 + 1) 126 #[.string s, .int .i64 b, .slice A n c] ∧ At W (w.heap.size + 1) 42 #[.int .i64 p1, .int .i64 p2, .int .i64 p3] ∧ At W (w.heap.size + 1 + 1) 77 #[.int .i64 xl, .int .i64 xh, .int .i64 xw]) := by
      rintro k X Y row ⟨h0, h1, h2, h3, h4, h5, h6, h7⟩ hg hr
      have hr' := fun r e => (hr r e).2
      exact ⟨h0, at_kept h1 hg hr', at_kept h2 hg hr', at_kept h3 hg hr', ownFrom_below (β := Nat) (Nat.le_refl _) hn0 k X Y row h4 hg hr, at_kept h5 hg hr', at_kept h6 hg hr', at_kept h7 hg hr'⟩
    have hIx : OwnFrom wc.heap.size (fun (_ : Nat) (W : World) => (∃ t, Go.Proofs.Ytnaanninmkplfaa.Has S n t ∧ ¬ okT S n b (P3 p1 p2 p3) xl xh xw t) ∧ At W (w.heap.size + 1 + 1 + 1) 3 #[.int .i64 0] ∧ At W (w.heap.size + 1 + 1 + 1 + 1) 27 #[.int .i64 22] ∧ Below w.heap.size w W) := by
      rintro k X Y row ⟨h0, h1, h2, h4⟩ hg hr
      have hr' := fun r e => (hr r e).2
      exact ⟨h0, at_kept h1 hg hr', at_kept h2 hg hr', ownFrom_below (β := Nat) (Nat.le_refl _) hn0 k X Y row h4 hg hr⟩
    clear t0 t1 t2 hA3 hL3 hX3 hU3 hV3 hG3 hB3 hsz
    have HTK := Lib.hid hTk
    have HI := Lib.hid hI
    have HIX := Lib.hid hIx
    have H0 := Lib.hid h0
    clear hTk hI hIx h0
    refine (wpIn_wide (n := 9)).1 ?_
    apply rounds_law (gf := 105) (pv := pathV s b A n c) rfl (enters_of Try.func105 rfl rfl) hn0 HTK.out _ _ HI.out HIX.out H0.out
    case hassign =>
      intro l k W K hK
      simp only [tickE]
      gi_wp2_with fail
      exact hK
    case hbody =>
      rintro l k W hk _ ⟨h0, h1, h2, h3, h4, h5, h6, h7⟩
      have hT : Go.Proofs.Ytnaanninmkplfaa.Has S n (S 0 0 + (k : Int)) := ⟨by omega, by unfold nT at hk; omega⟩
      have hC : ∀ X, Below W.heap.size W X → Calls Try.prog 93 #[.agg #[.string s, .int .i64 b, .slice A n c], .int .i64 (S 0 0 + (k : Int)), .agg #[.int .i64 p1, .int .i64 p2, .int .i64 p3]] X fun e w' => e = .returned (.agg #[.int .i64 (sqL S n b (S 0 0 + (k : Int)) (P3 p1 p2 p3)), .int .i64 (sqH S n b (S 0 0 + (k : Int)) (P3 p1 p2 p3))]) ∧ Below X.heap.size X w' := fun X hX =>
        squares_any s b A n c S _ p1 p2 p3 (P3 p1 p2 p3) X (HS.out.below (h4.trans (hX.mono h4.size))) HR.out hT HN.out HC.out (P3_pl HPP.out) ⟨rfl, rfl, rfl⟩
      obtain ⟨lowk, hlowk⟩ : ∃ m, m = sqL S n b (S 0 0 + (k : Int)) (P3 p1 p2 p3) := ⟨_, rfl⟩
      obtain ⟨topk, htopk⟩ : ∃ m, m = sqH S n b (S 0 0 + (k : Int)) (P3 p1 p2 p3) := ⟨_, rfl⟩
      rw [← hlowk, ← htopk] at hC
      have HLK := Lib.hid hlowk
      have c0 := h5.cell 0
      have c1 := h5.cell 1
      have c2 := h5.cell 2
      have c3 := h6.cell 0
      have c4 := h6.cell 1
      have c5 := h6.cell 2
      have c6 := h7.cell 0
      have c7 := h7.cell 1
      have c8 := h3.cell 0
      simp at c0 c1 c2 c3 c4 c5 c6 c7 c8
      have k0 := cell_regrown c0
      have k1 := cell_regrown c1
      have k2 := cell_regrown c2
      have k3 := cell_regrown c3
      have k4 := cell_regrown c4
      have k5 := cell_regrown c5
      have k6 := cell_regrown c6
      have k7 := cell_regrown c7
      have k8 := cell_regrown c8
      have CQ := Lib.hid (met_r (m := 6) l hC)
      have HV0 := Lib.hid h0
      have HV1 := Lib.hid h1
      have HV2 := Lib.hid h2
      have HV3 := Lib.hid h3
      have HV4 := Lib.hid h4
      have HV5 := Lib.hid h5
      have HV6 := Lib.hid h6
      have HV7 := Lib.hid h7
      have HT := Lib.hid hT
      have HK := Lib.hid hk
      clear c0 c1 c2 c3 c4 c5 c6 c7 c8 hC h0 h1 h2 h3 h4 h5 h6 h7 hT hlowk htopk hk
      by_cases hin : inB (S 0 0 + (k : Int)) xl xh = true
      · have HIN := Lib.hid hin
        gi_wp2_with fail
        refine region_below_r (by kernel_rfl) (by kernel_rfl) (by kernel_rfl) ?_
        repeat (refine step_r (fun K hK => ?_); go_simp; first | (refine hK _ ?_; clear hK K) | (apply Exists.intro; refine ⟨fun _ => ?_, hK _ ?_⟩; (first | exact CQ.out _ _ | exact met_same_r l (fun W => within_any _ _ _ W) _ _); clear hK K))
        refine wpQuietIn_nil ?_
        intro _ hw'
        obtain ⟨⟨dq, osq⟩, hw''⟩ := hw'
        subst hw''
        have hb3 := below_regrown W dq osq
        generalize hX : Go.Sort.grow (redrawn W dq) osq = X at hb3 ⊢
        clear hX k0 k1 k2 k3 k4 k5 k6 k7 k8
        gi_wp2_with fail
        refine ⟨keeps_below hb3, kept_below hb3, ?_, HV1.out.keep hb3, HV2.out.keep hb3, HV3.out.keep hb3, HV4.out.trans (hb3.mono HV4.out.size), HV5.out.keep hb3, HV6.out.keep hb3, HV7.out.keep hb3⟩
        intro u (hu1 : S 0 0 ≤ u) (hu2 : u < S 0 0 + ((k + 1 : Nat) : Int))
        rcases Int.lt_or_le u (S 0 0 + (k : Int)) with g | g
        · exact HV0.out u hu1 g
        · obtain rfl : u = S 0 0 + (k : Int) := by omega
          exact .inl (inB_iff.1 HIN.out)
      · have hin : inB (S 0 0 + (k : Int)) xl xh = false := by simpa using hin
        have HIN := Lib.hid hin
        have hnin : ¬ (xl ≤ S 0 0 + (k : Int) ∧ S 0 0 + (k : Int) ≤ xh) := fun h => by
          have := inB_t h
          rw [hin] at this
          cases this
        have HNIN := Lib.hid hnin
        clear hnin
        gi_wp2_with fail
        refine region_below_r (by kernel_rfl) (by kernel_rfl) (by kernel_rfl) ?_
        repeat (refine step_r (fun K hK => ?_); go_simp; first | (refine hK _ ?_; clear hK K) | (apply Exists.intro; refine ⟨fun _ => ?_, hK _ ?_⟩; (first | exact CQ.out _ _ | exact met_same_r l (fun W => within_any _ _ _ W) _ _); clear hK K))
        refine wpQuietIn_nil ?_
        intro _ hw'
        obtain ⟨⟨dq, osq⟩, hw''⟩ := hw'
        subst hw''
        have hb3 := below_regrown W dq osq
        generalize hX : Go.Sort.grow (redrawn W dq) osq = X at hb3 ⊢
        clear hX k0 k1 k2 k3 k4 k5 k6 k7 k8
        have HB3 := Lib.hid hb3
        clear hb3
        by_cases hle : lowk ≤ most
        · have q1 := HV1.out.keep HB3.out
          have q2 := HV2.out.keep HB3.out
          have e1 := q1.cell 0
          have e2 := q2.cell 0
          have f1 := q1.free 0
          have f2 := q2.free 0
          simp at e1 e2
          have HQ1 := Lib.hid q1
          have HQ2 := Lib.hid q2
          clear q1 q2
          gi_wp2_with fail
          refine ⟨((keeps_below HB3.out).trans (KeepsOthers.setCell _ _ _)).trans (KeepsOthers.setCell _ _ _), ⟨_, HT.out, ?_⟩, ?_, ?_, ?_⟩
          · rintro (g | g)
            · exact HNIN.out g
            · rw [← HLK.out, ← HM.out] at g
              omega
          · exact (at_box HQ1.out).far (by simp) _
          · exact at_box (HQ2.out.far (by simp) _)
          · exact below_set (below_set (HV4.out.trans (HB3.out.mono HV4.out.size)) (by omega)) (by omega)
        · gi_wp2_with fail
          refine ⟨keeps_below HB3.out, kept_below HB3.out, ?_, HV1.out.keep HB3.out, HV2.out.keep HB3.out, HV3.out.keep HB3.out, HV4.out.trans (HB3.out.mono HV4.out.size), HV5.out.keep HB3.out, HV6.out.keep HB3.out, HV7.out.keep HB3.out⟩
          intro u (hu1 : S 0 0 ≤ u) (hu2 : u < S 0 0 + ((k + 1 : Nat) : Int))
          rcases Int.lt_or_le u (S 0 0 + (k : Int)) with g | g
          · exact HV0.out u hu1 g
          · obtain rfl : u = S 0 0 + (k : Int) := by omega
            refine .inr ?_
            rw [← HLK.out, ← HM.out]
            omega
    case hdone =>
      rintro D W hD ⟨h0, h1, h2, h3, h4, h5, h6, h7⟩ hK
      have c6 := h7.cell 0
      have c7 := h7.cell 1
      have e1 := h1.cell 0
      have e2 := h2.cell 0
      have f1 := h1.free 0
      have f2 := h2.free 0
      simp at c6 c7 e1 e2
      have hx1 := HXL.out
      have hx2 := HXH.out
      have hst0 := (HR.out.2.2.2.1 0 (by have := HR.out.1; omega)).1
      have hst1 := (HR.out.2.2.2.1 (n - 1) (by have := HR.out.1; omega)).1
      have b1 : 0 ≤ xl := by have := hx1.1; omega
      have b2 : xh ≤ 1000000000 := by have := hx2.2; omega
      have b3 := HLE.out
      clear hx1 hx2 hst0 hst1
      dsimp only
      go_wp2_with fail
      have hK2 : ((W.setCell ⟨w.heap.size + 1 + 1 + 1, 0, none⟩ (.int .i64 (xh - xl + 1))).setCell ⟨w.heap.size + 1 + 1 + 1 + 1, 0, none⟩ (.int .i64 0)).heap[D]? = some (.deferred (some [])) := by
        rw [Below.heap_setCell _ _ _ _ (by simp; have := HSZ.out; omega), Below.heap_setCell _ _ _ _ (by simp; have := HSZ.out; omega)]
        exact hK
      refine ⟨by simp, .inl ⟨_, _, rfl, run_takeDeferred (by first | exact hK2 | exact hK), ?_⟩⟩
      refine ⟨.tuple #[.int .i64 (xh - xl + 1), .int .i64 0], ?h1, .inr (.inr ⟨HE.out, ?_, rfl⟩), ?_⟩
      case h1 =>
        have z1 : (w.heap.size + 1 + 1 + 1) ≠ D := by have := HSZ.out; omega
        have z2 : (w.heap.size + 1 + 1 + 1 + 1) ≠ D := by have := HSZ.out; omega
        simp [results, Try.results44, go_sem, cell_put z1, cell_put z2, *]
      · intro u hu
        exact h0 u hu.1 (by unfold nT; have := hu.2; omega)
      · exact below_put (below_set (below_set h4 (by omega)) (by omega)) (by have := HSZ.out; omega)
    case hstop =>
      rintro D k W hD ⟨h0, h1, h2, h4⟩ hK
      refine wpIn_ret ?_
      refine ⟨by simp, .inl ⟨_, _, rfl, run_takeDeferred hK, ?_⟩⟩
      refine ⟨.tuple #[.int .i64 0, .int .i64 22], ?h1, .inr (.inl ⟨HE.out, h0, rfl⟩), ?_⟩
      case h1 =>
        have e1 := h1.cell 0
        have e2 := h2.cell 0
        simp at e1 e2
        have z1 : (w.heap.size + 1 + 1 + 1) ≠ D := by have := HSZ.out; omega
        have z2 : (w.heap.size + 1 + 1 + 1 + 1) ≠ D := by have := HSZ.out; omega
        simp [results, Try.results44, go_sem, cell_put z1, cell_put z2, *]
      · exact below_put h4 (by have := HSZ.out; omega)
  · have d1 : (eC (nmB s) b n S p1 p2 p3 xl xh xw != 0) = true := by simpa using he
    have HE := Lib.hid he
    clear he
    have v0 := HU2.out.cell 0
    have v1 := HV2.out.cell 0
    simp at v0 v1
    have f0 := HU2.out.free 0
    have f1 := HV2.out.free 0
    go_wp2
    refine ⟨_, ?h1, .inl ⟨HE.out, rfl⟩, ?_⟩
    case h1 => simp [results, Try.results44, go_sem, *]
    have hbf := HBf.out
    repeat (first | (with_reducible exact hbf) | (with_reducible refine below_set ?_ (by omega)))
end Go.Proofs.Ytnaanninmkplfaa
