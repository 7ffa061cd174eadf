/- Contracts of package orbit: the ticks that may be nearest. -/
import Derived.Test.YtegmjanpeaibcaaOne
import Derived.Test.YtegmjanpeaibcaaOcn
import Derived.Test.YtegmjanpeaibcaaOry
namespace Go.Proofs.Ytegmjanpeaibcaa
open Go.RowKit Go.Shelf
attribute [local go_sem] Oper.semAt_some
set_option maxHeartbeats 1600000
set_option maxRecDepth 100000

/-- the closure that MayBeNearest hands on -/
theorem mayBeTell_any (s : ByteArray) (b : Int) (A : Option Addr) (n c : Nat) (S : Nat → Nat → Int) (t p1 p2 p3 : Int) (g2 g3 : Nat) (w : World) (hS : St w A n S) (hR : Right S n b) (hT : Has S n t) (hn : n ≤ c) (hc : c ≤ maxLen) (hp : Sm p1 ∧ Sm p2 ∧ Sm p3)
    (hA : At w g2 124 #[.string s, .int .i64 b, .slice A n c]) (hL : At w g3 42 #[.int .i64 p1, .int .i64 p2, .int .i64 p3]) :
    Calls Try.prog 101 #[.int .i64 t, .pointer (some ⟨g2, 0, none⟩), .pointer (some ⟨g3, 0, none⟩)] w fun e w' => e = .returned (.int .i64 (sqH S n b t (P3 p1 p2 p3))) ∧ Below w.heap.size w w' := by
  have q0 := hA.cell 0
  have q1 := hA.cell 1
  have q2 := hA.cell 2
  have r0 := hL.cell 0
  have r1 := hL.cell 1
  have r2 := hL.cell 2
  simp at q0 q1 q2 r0 r1 r2
  have hC := squares_any s b A n c S t p1 p2 p3 (P3 p1 p2 p3) w hS hR hT hn hc (P3_pl hp) ⟨rfl, rfl, rfl⟩
  unfold sqV at hC
  generalize sqL S n b t (P3 p1 p2 p3) = ql at hC ⊢
  generalize sqH S n b t (P3 p1 p2 p3) = qh at hC ⊢
  have HC := Lib.hid hC
  clear hC hA hL hS hR hT hn hc hp
  go_enter Try.func101, Try.ntmps101
  go_wp2_with fail
  refine HC.out.mono ?_
  rintro e w1 ⟨rfl, hb1⟩
  go_wp2
  go_ret
  exact ⟨rfl, hb1⟩

/-- the ticks told so far, of the first k ones -/
def MBk (S : Nat → Nat → Int) (n : Nat) (fL fH : Int → Int) (wt : Int) (k : Nat) (lo hi : Int) : Prop :=
  (lo ≤ wt ∧ wt ≤ hi) ∧ (Has S n lo ∧ Has S n hi) ∧ (lo = wt ∨ fL lo ≤ fH wt) ∧ (hi = wt ∨ fL hi ≤ fH wt) ∧ ∀ j : Nat, j < k → fL (S 0 0 + (j : Int)) ≤ fH wt → lo ≤ S 0 0 + (j : Int) ∧ S 0 0 + (j : Int) ≤ hi
theorem mbk_zero {S : Nat → Nat → Int} {n : Nat} {fL fH : Int → Int} {wt : Int} (h : Has S n wt) : MBk S n fL fH wt 0 wt wt := ⟨⟨Int.le_refl _, Int.le_refl _⟩, ⟨h, h⟩, .inl rfl, .inl rfl, fun j hj => absurd hj (by omega)⟩
theorem mbk_no {S : Nat → Nat → Int} {n : Nat} {fL fH : Int → Int} {wt lo hi : Int} {k : Nat} (h : MBk S n fL fH wt k lo hi) (hl : ¬ fL (S 0 0 + (k : Int)) ≤ fH wt) : MBk S n fL fH wt (k + 1) lo hi := by
  obtain ⟨h1, h2, h3, h4, h5⟩ := h
  refine ⟨h1, h2, h3, h4, fun j hj hf => ?_⟩
  rcases Nat.lt_or_ge j k with g | g
  · exact h5 j g hf
  · obtain rfl : j = k := by omega
    exact absurd hf hl
theorem mbk_yes {S : Nat → Nat → Int} {n : Nat} {fL fH : Int → Int} {wt lo hi : Int} {k : Nat} (h : MBk S n fL fH wt k lo hi) (hT : Has S n (S 0 0 + (k : Int))) (hl : fL (S 0 0 + (k : Int)) ≤ fH wt) :
    MBk S n fL fH wt (k + 1) (if S 0 0 + (k : Int) < lo then S 0 0 + (k : Int) else lo) (if hi < S 0 0 + (k : Int) then S 0 0 + (k : Int) else hi) := by
  obtain ⟨h1, h2, h3, h4, h5⟩ := h
  refine ⟨⟨?_, ?_⟩, ⟨?_, ?_⟩, ?_, ?_, fun j hj hf => ?_⟩
  · split <;> omega
  · split <;> omega
  · split
    · exact hT
    · exact h2.1
  · split
    · exact hT
    · exact h2.2
  · split
    · exact .inr hl
    · exact h3
  · split
    · exact .inr hl
    · exact h4
  · rcases Nat.lt_or_ge j k with g | g
    · have := h5 j g hf
      split <;> split <;> omega
    · obtain rfl : j = k := by omega
      split <;> split <;> omega
theorem mbk_all {S : Nat → Nat → Int} {n : Nat} {fL fH : Int → Int} {wt lo hi : Int} (hw : Least S n fH wt) (h : MBk S n fL fH wt (nT S n) lo hi) : MB S n fL fH wt lo hi := by
  obtain ⟨h1, h2, h3, h4, h5⟩ := h
  refine ⟨hw, h1, h2, h3, h4, fun u hu hf => ?_⟩
  have e : S 0 0 + ((u - S 0 0).toNat : Int) = u := by have := hu.1; omega
  have := h5 (u - S 0 0).toNat (by unfold nT; have := hu.1; have := hu.2; omega) (by rw [e]; exact hf)
  rwa [e] at this

theorem at_two {w : World} {g : Nat} {t : TypeId} {u v x y : Value} (h : At w g t #[u, v]) : At ((w.setCell ⟨g, 0, none⟩ x).setCell ⟨g, 1, none⟩ y) g t #[x, y] := by
  have := (h.put 0 x).put 1 y
  simpa using this
/-- what MayBeNearest returns -/
def MR (nm : Bool) (b : Int) (n : Nat) (S : Nat → Nat → Int) (p1 p2 p3 : Int) (e : Ending) : Prop :=
  (eP nm b n S p1 p2 p3 ≠ 0 ∧ e = .returned (.tuple #[.agg #[.int .i64 0, .int .i64 0], .int .i64 0, .int .i64 (eP nm b n S p1 p2 p3)])) ∨
  (eP nm b n S p1 p2 p3 = 0 ∧ ∃ wt l h, MB S n (fun t => sqL S n b t (P3 p1 p2 p3)) (fun t => sqH S n b t (P3 p1 p2 p3)) wt l h ∧ e = .returned (.tuple #[.agg #[.int .i64 l, .int .i64 h], .int .i64 wt, .int .i64 0]))

theorem mayBe_any (s : ByteArray) (b : Int) (A : Option Addr) (n c : Nat) (S : Nat → Nat → Int) (p1 p2 p3 : Int) (w : World) (hS : St w A n S) (hs : s.size ≤ maxLen) (hn : n ≤ c) (hc : c ≤ maxLen) :
    Calls Try.prog 40 #[.agg #[.string s, .int .i64 b, .slice A n c], .agg #[.int .i64 p1, .int .i64 p2, .int .i64 p3]] w fun e w' => MR (nmB s) b n S p1 p2 p3 e ∧ Below w.heap.size w w' := by
  refine (callsIn_wide (n := 9)).1 (callsIn_of_wp_marks Try.func40 rfl trivial (wpIn_wide.2 ?_))
  simp only [Try.ntmps40, List.size_toArray, List.length_cons, List.length_nil, Nat.reduceAdd, Nat.reduceSub, Array.replicate_succ, Array.replicate_zero, List.push_toArray, List.append_toArray, List.cons_append, List.nil_append]
  have HS := Lib.hid hS
  have H1 := Lib.hid hs
  have HN := Lib.hid hn
  have HC := Lib.hid hc
  clear hS hs hn hc
  go_wp2_with fail
  have hA1 : At ((((w.alloc (.cells #[.string s, .int .i64 b, .slice A n c] 24)).alloc (.cells #[.int .i64 p1, .int .i64 p2, .int .i64 p3] 42)).alloc (.cells #[.int .i64 0, .int .i64 0] 46)).alloc (.cells #[.string s, .int .i64 b, .slice A n c] 124)) (w.heap.size) 24 #[.string s, .int .i64 b, .slice A n c] := ((((at_new (by simp)).alloc _).alloc _).alloc _)
  have hL1 : At ((((w.alloc (.cells #[.string s, .int .i64 b, .slice A n c] 24)).alloc (.cells #[.int .i64 p1, .int .i64 p2, .int .i64 p3] 42)).alloc (.cells #[.int .i64 0, .int .i64 0] 46)).alloc (.cells #[.string s, .int .i64 b, .slice A n c] 124)) (w.heap.size + 1) 42 #[.int .i64 p1, .int .i64 p2, .int .i64 p3] := (((at_new (by simp)).alloc _).alloc _)
  have hZ1 : At ((((w.alloc (.cells #[.string s, .int .i64 b, .slice A n c] 24)).alloc (.cells #[.int .i64 p1, .int .i64 p2, .int .i64 p3] 42)).alloc (.cells #[.int .i64 0, .int .i64 0] 46)).alloc (.cells #[.string s, .int .i64 b, .slice A n c] 124)) (w.heap.size + 1 + 1) 46 #[.int .i64 0, .int .i64 0] := ((at_new (by simp)).alloc _)
  have hY1 : At ((((w.alloc (.cells #[.string s, .int .i64 b, .slice A n c] 24)).alloc (.cells #[.int .i64 p1, .int .i64 p2, .int .i64 p3] 42)).alloc (.cells #[.int .i64 0, .int .i64 0] 46)).alloc (.cells #[.string s, .int .i64 b, .slice A n c] 124)) (w.heap.size + 1 + 1 + 1) 124 #[.string s, .int .i64 b, .slice A n c] := (at_new (by simp))
  have hB1 : Below w.heap.size w ((((w.alloc (.cells #[.string s, .int .i64 b, .slice A n c] 24)).alloc (.cells #[.int .i64 p1, .int .i64 p2, .int .i64 p3] 42)).alloc (.cells #[.int .i64 0, .int .i64 0] 46)).alloc (.cells #[.string s, .int .i64 b, .slice A n c] 124)) := by
    repeat (first | (with_reducible exact Below.refl _ _) | (with_reducible refine below_new ?_ (by first | omega | (simp; done) | (simp; omega))))
  generalize hW1 : ((((w.alloc (.cells #[.string s, .int .i64 b, .slice A n c] 24)).alloc (.cells #[.int .i64 p1, .int .i64 p2, .int .i64 p3] 42)).alloc (.cells #[.int .i64 0, .int .i64 0] 46)).alloc (.cells #[.string s, .int .i64 b, .slice A n c] 124)) = w1 at hA1 hL1 hZ1 hY1 hB1 ⊢
  clear hW1
  have hS1 := HS.out.below hB1
  have HS1 := Lib.hid hS1
  have HA1 := Lib.hid hA1
  have HL1 := Lib.hid hL1
  have HZ1 := Lib.hid hZ1
  have HY1 := Lib.hid hY1
  have HB1 := Lib.hid hB1
  clear hA1 hL1 hZ1 hY1 hB1
  clear hS1
  have hSS : ∀ w', Below w1.heap.size w1 w' → w'.cell? ⟨w.heap.size + 1 + 1 + 1, 0, none⟩ = some (.string s) ∧ w'.cell? ⟨w.heap.size + 1 + 1 + 1, 1, none⟩ = some (.int .i64 b) ∧ w'.cell? ⟨w.heap.size + 1 + 1 + 1, 2, none⟩ = some (.slice A n c) ∧ w'.cell? ⟨w.heap.size + 1, 0, none⟩ = some (.int .i64 p1) ∧ w'.cell? ⟨w.heap.size + 1, 1, none⟩ = some (.int .i64 p2) ∧ w'.cell? ⟨w.heap.size + 1, 2, none⟩ = some (.int .i64 p3) := fun w' hW => by
    have qY := HY1.out.keep hW
    have qL := HL1.out.keep hW
    exact ⟨qY.cell 0, qY.cell 1, qY.cell 2, qL.cell 0, qL.cell 1, qL.cell 2⟩
  have hSW := hSS w1 (Below.refl _ _)
  obtain ⟨sy0, sy1, sy2, sl0, sl1, sl2⟩ := hSW
  have hP1 : ∀ W : World, Below w1.heap.size w1 W → Calls Try.prog 73 #[.agg #[.string s, .int .i64 b, .slice A n c]] W fun e w' => e = .returned (.int .i64 (oce (nmB s) b n S).2) ∧ Below w1.heap.size w1 w' ∧ w'.cell? ⟨w.heap.size + 1 + 1 + 1, 0, none⟩ = some (.string s) ∧ w'.cell? ⟨w.heap.size + 1 + 1 + 1, 1, none⟩ = some (.int .i64 b) ∧ w'.cell? ⟨w.heap.size + 1 + 1 + 1, 2, none⟩ = some (.slice A n c) ∧ w'.cell? ⟨w.heap.size + 1, 0, none⟩ = some (.int .i64 p1) ∧ w'.cell? ⟨w.heap.size + 1, 1, none⟩ = some (.int .i64 p2) ∧ w'.cell? ⟨w.heap.size + 1, 2, none⟩ = some (.int .i64 p3) := by
    intro W hW
    refine (check_any s b A n c S W (HS1.out.below hW) H1.out HN.out HC.out).mono ?_
    rintro e w' ⟨rfl, hb⟩
    have hB := hW.trans (hb.mono hW.size)
    exact ⟨rfl, hB, hSS _ hB⟩
  have HP1 := Lib.hid hP1
  clear hP1
  have hP3 : ∀ W : World, Below w1.heap.size w1 W → Calls Try.prog 89 #[.agg #[.int .i64 p1, .int .i64 p2, .int .i64 p3]] W fun e w' => e = .returned (.int .i64 (pe p1 p2 p3)) ∧ Below w1.heap.size w1 w' ∧ w'.cell? ⟨w.heap.size + 1 + 1 + 1, 0, none⟩ = some (.string s) ∧ w'.cell? ⟨w.heap.size + 1 + 1 + 1, 1, none⟩ = some (.int .i64 b) ∧ w'.cell? ⟨w.heap.size + 1 + 1 + 1, 2, none⟩ = some (.slice A n c) ∧ w'.cell? ⟨w.heap.size + 1, 0, none⟩ = some (.int .i64 p1) ∧ w'.cell? ⟨w.heap.size + 1, 1, none⟩ = some (.int .i64 p2) ∧ w'.cell? ⟨w.heap.size + 1, 2, none⟩ = some (.int .i64 p3) := by
    intro W hW
    refine (checkPlace_any p1 p2 p3 W).mono ?_
    rintro e w' ⟨rfl, hb⟩
    have hB := hW.trans (hb.mono hW.size)
    exact ⟨rfl, hB, hSS _ hB⟩
  have HP3 := Lib.hid hP3
  clear hP3
  clear hSS
  go_region_held3 (fun w' => w'.cell? ⟨w.heap.size + 1 + 1 + 1, 0, none⟩ = some (.string s) ∧ w'.cell? ⟨w.heap.size + 1 + 1 + 1, 1, none⟩ = some (.int .i64 b) ∧ w'.cell? ⟨w.heap.size + 1 + 1 + 1, 2, none⟩ = some (.slice A n c) ∧ w'.cell? ⟨w.heap.size + 1, 0, none⟩ = some (.int .i64 p1) ∧ w'.cell? ⟨w.heap.size + 1, 1, none⟩ = some (.int .i64 p2) ∧ w'.cell? ⟨w.heap.size + 1, 2, none⟩ = some (.int .i64 p3)) (go_keep)
    (first
      | (go_at_call 73; (with_reducible refine (HP1.out _ ?_).mono ?_); (repeat (first | assumption | (with_reducible exact Below.refl _ _) | (with_reducible refine Below.drew ?_) | (with_reducible refine below_drewNs ?_))); rintro e w4 ⟨rfl, hb4, hsy0, hsy1, hsy2, hsl0, hsl1, hsl2⟩)
      | (go_at_call 89; (with_reducible refine (HP3.out _ ?_).mono ?_); (repeat (first | assumption | (with_reducible exact Below.refl _ _) | (with_reducible refine Below.drew ?_) | (with_reducible refine below_drewNs ?_))); rintro e w6 ⟨rfl, hb6, huy0, huy1, huy2, hul0, hul1, hul2⟩)
      | (go_at_call 67; (with_reducible refine (firstError_any _ 2 2 (l2 _ _) _ (sl_new (by simp) (get_l2 _ _)) (by omega)).mono ?_); rintro e w' ⟨rfl, rfl⟩)
      | (go_at_call 67; (with_reducible refine (firstError_any _ 2 2 (l2 _ _) _ (sl_newd (by simp) (get_l2 _ _)) (by omega)).mono ?_); rintro e w' ⟨rfl, rfl⟩))
  rw [show fe (l2 (oce (nmB s) b n S).2 (pe p1 p2 p3)) 2 = eP (nmB s) b n S p1 p2 p3 from rfl]
  have hw : Below w1.heap.size w1 (w6.alloc (.cells #[.int .i64 (oce (nmB s) b n S).2, .int .i64 (pe p1 p2 p3)] 27)) := below_new hb6 hb6.size
  generalize hW2 : w6.alloc (.cells #[.int .i64 (oce (nmB s) b n S).2, .int .i64 (pe p1 p2 p3)] 27) = w2 at hw ⊢
  clear hW2 hb6 huy0 huy1 huy2 hul0 hul1 hul2 sy0 sy1 sy2 sl0 sl1 sl2
  have hA2 := HA1.out.keep hw
  have hL2 := HL1.out.keep hw
  have hZ2 := HZ1.out.keep hw
  have hY2 := HY1.out.keep hw
  have HB2 := Lib.hid (HB1.out.trans (hw.mono HB1.out.size))
  have HS2 := Lib.hid (HS1.out.below hw)
  clear hw
  have a0 := hA2.cell 0
  have a1 := hA2.cell 1
  have a2 := hA2.cell 2
  have l0 := hL2.cell 0
  have l1 := hL2.cell 1
  have l2 := hL2.cell 2
  have z0 := hZ2.cell 0
  have z1 := hZ2.cell 1
  have y0 := hY2.cell 0
  have y1 := hY2.cell 1
  have y2 := hY2.cell 2
  simp at a0 a1 a2 l0 l1 l2 z0 z1 y0 y1 y2
  have HA2 := Lib.hid hA2
  have HL2 := Lib.hid hL2
  have HZ2 := Lib.hid hZ2
  have HY2 := Lib.hid hY2
  clear hA2 hL2 hZ2 hY2
  have hz : w.heap.size + 1 + 1 + 1 < w2.heap.size := HY2.out.lt
  by_cases he : eP (nmB s) b n S p1 p2 p3 = 0
  · have d1 : (eP (nmB s) b n S p1 p2 p3 != 0) = false := by rw [he]; rfl
    obtain ⟨hnm, hR, hp⟩ := eP_zero he
    have HE := Lib.hid he
    have HR := Lib.hid hR
    have HPP := Lib.hid hp
    clear he hR hp hnm
    go_wp2_with fail
    refine (leastOf_any s b A n c S b (fun t => sqH S n b t (P3 p1 p2 p3)) 101 (.pointer (some ⟨w.heap.size + 1 + 1 + 1, 0, none⟩)) (.pointer (some ⟨w.heap.size + 1, 0, none⟩)) _ HS2.out HR.out HN.out HC.out (enters_of Try.func101 rfl rfl)
      (fun t W hT hW => mayBeTell_any s b A n c S t p1 p2 p3 _ _ W (HS2.out.below hW) HR.out hT HN.out HC.out HPP.out (HY2.out.keep hW) (HL2.out.keep hW))).mono ?_
    rintro e w3 ⟨wt, rfl, hlt, hb3⟩
    dsimp only
    have HLT := Lib.hid hlt
    clear hlt
    have hA3 := HA2.out.keep hb3
    have hL3 := HL2.out.keep hb3
    have hZ3 := HZ2.out.keep hb3
    have hY3 := HY2.out.keep hb3
    have HB3 := Lib.hid (HB2.out.trans (hb3.mono HB2.out.size))
    have HS3 := Lib.hid (HS2.out.below hb3)
    clear a0 a1 a2 l0 l1 l2 z0 z1 y0 y1 y2 hb3
    have a0 := hA3.cell 0
    have a1 := hA3.cell 1
    have a2 := hA3.cell 2
    have l0 := hL3.cell 0
    have l1 := hL3.cell 1
    have l2 := hL3.cell 2
    have z0 := hZ3.cell 0
    have z1 := hZ3.cell 1
    have y0 := hY3.cell 0
    have y1 := hY3.cell 1
    have y2 := hY3.cell 2
    simp at a0 a1 a2 l0 l1 l2 z0 z1 y0 y1 y2
    have HA3 := Lib.hid hA3
    have HL3 := Lib.hid hL3
    have HZ3 := Lib.hid hZ3
    have HY3 := Lib.hid hY3
    clear hA3 hL3 hZ3 hY3
    have hz3 : w.heap.size + 1 + 1 + 1 < w3.heap.size := HY3.out.lt
    have hz4 : w.heap.size + 1 + 1 + 1 < w3.heap.size + 1 := by omega
    obtain ⟨most, hmost⟩ : ∃ m, m = sqH S n b wt (P3 p1 p2 p3) := ⟨_, rfl⟩
    rw [← hmost]
    have HM := Lib.hid hmost
    clear hmost
    go_wp2_with fail
    have hA4 := (HA3.out.alloc (.cells #[.int .i64 most] 3)).alloc (.cells #[.int .i64 wt, .int .i64 wt] 46)
    have hL4 := (HL3.out.alloc (.cells #[.int .i64 most] 3)).alloc (.cells #[.int .i64 wt, .int .i64 wt] 46)
    have hZ4 := (HZ3.out.alloc (.cells #[.int .i64 most] 3)).alloc (.cells #[.int .i64 wt, .int .i64 wt] 46)
    have hY4 := (HY3.out.alloc (.cells #[.int .i64 most] 3)).alloc (.cells #[.int .i64 wt, .int .i64 wt] 46)
    have hM4 := (At.new w3 3 #[.int .i64 most]).alloc (.cells #[.int .i64 wt, .int .i64 wt] 46)
    have hR4 : At ((w3.alloc (.cells #[.int .i64 most] 3)).alloc (.cells #[.int .i64 wt, .int .i64 wt] 46)) (w3.heap.size + 1) 46 #[.int .i64 wt, .int .i64 wt] := at_new (by simp)
    have hB4 : Below w.heap.size w ((w3.alloc (.cells #[.int .i64 most] 3)).alloc (.cells #[.int .i64 wt, .int .i64 wt] 46)) := below_new (below_new HB3.out HB3.out.size) (by have := HB3.out.size; simp; omega)
    have hsz : ((w3.alloc (.cells #[.int .i64 most] 3)).alloc (.cells #[.int .i64 wt, .int .i64 wt] 46)).heap.size = w3.heap.size + 2 := by simp
    generalize hW4 : ((w3.alloc (.cells #[.int .i64 most] 3)).alloc (.cells #[.int .i64 wt, .int .i64 wt] 46)) = wc at hA4 hL4 hZ4 hY4 hM4 hR4 hB4 hsz ⊢
    clear hW4
    have hn0 : w.heap.size ≤ wc.heap.size := hB4.size
    have hTk := ticks_rounds s b A n c S b w wc HS.out HR.out HN.out HC.out hB4
    have HSZ := Lib.hid hsz
    have h0 : (fun (k : Nat) (W : World) => ∃ lo hi : Int, MBk S n (fun t => sqL S n b t (P3 p1 p2 p3)) (fun t => sqH S n b t (P3 p1 p2 p3)) wt k lo hi ∧ At W (w3.heap.size + 1) 46 #[.int .i64 lo, .int .i64 hi] ∧ At W w3.heap.size 3 #[.int .i64 most] ∧ Below w.heap.size w W ∧ At W (w.heap.size + 1 + 1 + 1) 124 #[.string s, .int .i64 b, .slice A n c] ∧ At W (w.heap.size + 1) 42 #[.int .i64 p1, .int .i64 p2, .int .i64 p3] ∧ At W (w.heap.size + 1 + 1) 46 #[.int .i64 0, .int .i64 0]) 0 wc := ⟨wt, wt, mbk_zero HLT.out.1, hR4, hM4, hB4, hY4, hL4, hZ4⟩
    have hI : OwnFrom wc.heap.size (fun (k : Nat) (W : World) => ∃ lo hi : Int, MBk S n (fun t => sqL S n b t (P3 p1 p2 p3)) (fun t => sqH S n b t (P3 p1 p2 p3)) wt k lo hi ∧ At W (w3.heap.size + 1) 46 #[.int .i64 lo, .int .i64 hi] ∧ At W w3.heap.size 3 #[.int .i64 most] ∧ Below w.heap.size w W ∧ At W (w.heap.size + 1 + 1 + 1) 124 #[.string s, .int .i64 b, .slice A n c] ∧ At W (w.heap.size + 1) 42 #[.int .i64 p1, .int .i64 p2, .int .i64 p3] ∧ At W (w.heap.size + 1 + 1) 46 #[.int .i64 0, .int .i64 0]) := by
      rintro k X Y row ⟨lo, hi, h0, h1, h2, h3, h4, h5, h6⟩ hg hr
      have hr' := fun r e => (hr r e).2
      exact ⟨lo, hi, h0, at_kept h1 hg hr', at_kept h2 hg hr', ownFrom_below (β := Nat) (Nat.le_refl _) hn0 k X Y row h3 hg hr, at_kept h4 hg hr', at_kept h5 hg hr', at_kept h6 hg hr'⟩
    clear hA4 hL4 hZ4 hY4 hM4 hR4 hB4 hsz a0 a1 a2 l0 l1 l2 z0 z1 y0 y1 y2
    have HTK := Lib.hid hTk
    have HI := Lib.hid hI
    have H0 := Lib.hid h0
    clear hTk hI h0
    refine (wpIn_wide (n := 9)).1 ?_
    apply rounds_law (gf := 102) (pv := pathV s b A n c) rfl (enters_of Try.func102 rfl rfl) hn0 HTK.out _ (fun _ _ => False) HI.out (fun _ _ _ _ h _ _ => h) H0.out
    case hassign =>
      intro l k W K hK
      simp only [tickE]
      gi_wp2_with fail
      exact hK
    case hbody =>
      rintro l k W hk _ ⟨lo, hi, h0, h1, h2, h3, h4, h5, h6⟩
      have hT : Go.Proofs.Ytegmjanpeaibcaa.Has S n (S 0 0 + (k : Int)) := ⟨by omega, by unfold nT at hk; omega⟩
      have hC : ∀ X, Below W.heap.size W X → Calls Try.prog 90 #[.agg #[.string s, .int .i64 b, .slice A n c], .int .i64 (S 0 0 + (k : Int)), .agg #[.int .i64 p1, .int .i64 p2, .int .i64 p3]] X fun e w' => e = .returned (.agg #[.int .i64 (sqL S n b (S 0 0 + (k : Int)) (P3 p1 p2 p3)), .int .i64 (sqH S n b (S 0 0 + (k : Int)) (P3 p1 p2 p3))]) ∧ Below X.heap.size X w' := fun X hX =>
        squares_any s b A n c S _ p1 p2 p3 (P3 p1 p2 p3) X (HS.out.below (h3.trans (hX.mono h3.size))) HR.out hT HN.out HC.out (P3_pl HPP.out) ⟨rfl, rfl, rfl⟩
      obtain ⟨lowk, hlowk⟩ : ∃ m, m = sqL S n b (S 0 0 + (k : Int)) (P3 p1 p2 p3) := ⟨_, rfl⟩
      obtain ⟨topk, htopk⟩ : ∃ m, m = sqH S n b (S 0 0 + (k : Int)) (P3 p1 p2 p3) := ⟨_, rfl⟩
      rw [← hlowk, ← htopk] at hC
      have HLK := Lib.hid hlowk
      have c0 := h4.cell 0
      have c1 := h4.cell 1
      have c2 := h4.cell 2
      have c3 := h5.cell 0
      have c4 := h5.cell 1
      have c5 := h5.cell 2
      have c8 := h2.cell 0
      simp at c0 c1 c2 c3 c4 c5 c8
      have k0 := cell_regrown c0
      have k1 := cell_regrown c1
      have k2 := cell_regrown c2
      have k3 := cell_regrown c3
      have k4 := cell_regrown c4
      have k5 := cell_regrown c5
      have k8 := cell_regrown c8
      have CQ := Lib.hid (met_r (m := 6) l hC)
      have HV0 := Lib.hid h0
      have HV1 := Lib.hid h1
      have HV2 := Lib.hid h2
      have HV3 := Lib.hid h3
      have HV4 := Lib.hid h4
      have HV5 := Lib.hid h5
      have HV6 := Lib.hid h6
      have HT := Lib.hid hT
      have HK := Lib.hid hk
      clear c0 c1 c2 c3 c4 c5 c8 hC h0 h1 h2 h3 h4 h5 h6 hT hlowk htopk hk
      gi_wp2_with fail
      refine region_below_r (by kernel_rfl) (by kernel_rfl) (by kernel_rfl) ?_
      repeat (refine step_r (fun K hK => ?_); go_simp; first | (refine hK _ ?_; clear hK K) | (apply Exists.intro; refine ⟨fun _ => ?_, hK _ ?_⟩; (exact CQ.out _ _); clear hK K))
      refine wpQuietIn_nil ?_
      intro _ hw'
      obtain ⟨⟨dq, osq⟩, hw''⟩ := hw'
      subst hw''
      have hb3 := below_regrown W dq osq
      generalize hX : Go.Sort.grow (redrawn W dq) osq = X at hb3 ⊢
      clear hX k0 k1 k2 k3 k4 k5 k8
      have HB4 := Lib.hid hb3
      clear hb3
      by_cases hle : lowk ≤ most
      · have q1 := HV1.out.keep HB4.out
        have e0 := q1.cell 0
        have e1 := q1.cell 1
        have f0 := q1.free 0
        have f1 := q1.free 1
        simp at e0 e1
        have HQ1 := Lib.hid q1
        have hy := mbk_yes HV0.out HT.out (show sqL S n b (S 0 0 + (k : Int)) (P3 p1 p2 p3) ≤ sqH S n b wt (P3 p1 p2 p3) by rw [← HLK.out, ← HM.out]; exact hle)
        by_cases hlo : S 0 0 + (k : Int) < lo <;> by_cases hhi : hi < S 0 0 + (k : Int)
        all_goals
          (first | rw [if_pos hlo] at hy | rw [if_neg hlo] at hy)
          (first | rw [if_pos hhi] at hy | rw [if_neg hhi] at hy)
          have HY := Lib.hid hy
          clear q1 hy
          gi_wp2_with fail
          have hsz := HSZ.out
          refine ⟨((keeps_below HB4.out).trans (KeepsOthers.setCell _ _ _)).trans (KeepsOthers.setCell _ _ _), kept_set (kept_set (kept_below HB4.out) (by omega) (by omega)) (by omega) (by omega), _, _, HY.out, ?_, ?_, ?_, ?_, ?_, ?_⟩
          · exact at_two HQ1.out
          · exact ((HV2.out.keep HB4.out).far (by simp) _).far (by simp) _
          · exact below_set (below_set (HV3.out.trans (HB4.out.mono HV3.out.size)) (by omega)) (by omega)
          · exact ((HV4.out.keep HB4.out).far (by simp; omega) _).far (by simp; omega) _
          · exact ((HV5.out.keep HB4.out).far (by simp; omega) _).far (by simp; omega) _
          · exact ((HV6.out.keep HB4.out).far (by simp; omega) _).far (by simp; omega) _
      · have HLE := Lib.hid hle
        gi_wp2_with fail
        exact ⟨keeps_below HB4.out, kept_below HB4.out, lo, hi, mbk_no HV0.out (show ¬ sqL S n b (S 0 0 + (k : Int)) (P3 p1 p2 p3) ≤ sqH S n b wt (P3 p1 p2 p3) by rw [← HLK.out, ← HM.out]; have := HLE.out; omega), HV1.out.keep HB4.out, HV2.out.keep HB4.out, HV3.out.trans (HB4.out.mono HV3.out.size), HV4.out.keep HB4.out, HV5.out.keep HB4.out, HV6.out.keep HB4.out⟩
    case hdone =>
      rintro D W hD ⟨lo, hi, h0, h1, h2, h3, h4, h5, h6⟩ hK
      have e0 := h1.cell 0
      have e1 := h1.cell 1
      have r0 := h6.cell 0
      have r1 := h6.cell 1
      have g0 := h6.free 0
      have g1 := h6.free 1
      simp at e0 e1 r0 r1
      have hall := mbk_all HLT.out h0
      have H3 := Lib.hid h3
      have HALL := Lib.hid hall
      have HK := Lib.hid hK
      clear h0 h1 h2 h3 h4 h5 h6 hall hK
      dsimp only
      go_wp2_with fail
      have hK2 : ((W.setCell ⟨w.heap.size + 1 + 1, 0, none⟩ (.int .i64 lo)).setCell ⟨w.heap.size + 1 + 1, 1, none⟩ (.int .i64 hi)).heap[D]? = some (.deferred (some [])) := by
        rw [Below.heap_setCell _ _ _ _ (by simp; have := HSZ.out; omega), Below.heap_setCell _ _ _ _ (by simp; have := HSZ.out; omega)]
        exact HK.out
      refine ⟨by simp, .inl ⟨_, _, rfl, run_takeDeferred (by first | exact hK2 | exact HK.out), ?_⟩⟩
      refine ⟨.tuple #[.agg #[.int .i64 lo, .int .i64 hi], .int .i64 wt, .int .i64 0], ?h1, .inr ⟨HE.out, wt, lo, hi, HALL.out, rfl⟩, ?_⟩
      case h1 =>
        have z1 : (w.heap.size + 1 + 1) ≠ D := by have := HSZ.out; omega
        simp [results, Try.results40, go_sem, cell_put z1, *]
      · exact below_put (below_set (below_set H3.out (by omega)) (by omega)) (by have := HSZ.out; omega)
    case hstop =>
      rintro D k W hD h _
      exact h.elim
  · have d1 : (eP (nmB s) b n S p1 p2 p3 != 0) = true := by simpa using he
    have HE := Lib.hid he
    clear he
    have g0 := HZ2.out.free 0
    have g1 := HZ2.out.free 1
    go_wp2
    refine ⟨.tuple #[.agg #[.int .i64 0, .int .i64 0], .int .i64 0, .int .i64 (eP (nmB s) b n S p1 p2 p3)], ?h1, .inl ⟨HE.out, rfl⟩, ?_⟩
    case h1 => simp [results, Try.results40, go_sem, *]
    have hbf := HB2.out
    repeat (first | (with_reducible exact hbf) | (with_reducible refine below_set ?_ (by omega)))
end Go.Proofs.Ytegmjanpeaibcaa
