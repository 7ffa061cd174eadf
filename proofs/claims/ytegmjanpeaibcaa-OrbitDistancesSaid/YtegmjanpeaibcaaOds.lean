/- Contracts: distances to boxes; the error of an orbit, a tick and a place. -/
import Derived.Test.YtegmjanpeaibcaaOrt
import Derived.Test.YtegmjanpeaibcaaOsa
import Derived.Test.YtegmjanpeaibcaaOrf
import Derived.Test.YtegmjanpeaibcaaOrp
import Derived.StillTailTactics
namespace Go.Proofs.Ytegmjanpeaibcaa
open Go.RowKit
set_option maxHeartbeats 1600000
set_option maxRecDepth 100000

theorem at_two2 {w : World} {g : Nat} {t : TypeId} {u v x y : Value} (h : At w g t #[u, v]) : At ((w.setCell ⟨g, 0, none⟩ x).setCell ⟨g, 1, none⟩ y) g t #[x, y] := by
  have := (h.put 0 x).put 1 y
  simpa using this

/-- the squares at a tick are from 0 to 3 times 300200000 squared -/
theorem sq_range {S : Nat → Nat → Int} {n : Nat} {b t p1 p2 p3 : Int} (hR : Right S n b) (hT : Has S n t) (hp : (-100000000 ≤ p1 ∧ p1 ≤ 100000000) ∧ (-100000000 ≤ p2 ∧ p2 ≤ 100000000) ∧ (-100000000 ≤ p3 ∧ p3 ≤ 100000000)) :
    (0 ≤ sqL S n b t (P3 p1 p2 p3) ∧ sqL S n b t (P3 p1 p2 p3) < 144115188075855872) ∧ (0 ≤ sqH S n b t (P3 p1 p2 p3) ∧ sqH S n b t (P3 p1 p2 p3) < 144115188075855872) := by
  have each : ∀ c, 1 ≤ c ∧ c ≤ 3 → ∀ p, -100000000 ≤ p ∧ p ≤ 100000000 → (0 ≤ near (lo S n b t c) (hi S n b t c) p * near (lo S n b t c) (hi S n b t c) p ∧ near (lo S n b t c) (hi S n b t c) p * near (lo S n b t c) (hi S n b t c) p ≤ 40080040000000000) ∧ (0 ≤ far (lo S n b t c) (hi S n b t c) p * far (lo S n b t c) (hi S n b t c) p ∧ far (lo S n b t c) (hi S n b t c) p * far (lo S n b t c) (hi S n b t c) p ≤ 40080040000000000) := by
    intro c hc p hp
    obtain ⟨⟨l1, l2, l3⟩, _⟩ := box_facts hR hT hc
    have n0 := near_pos (lo S n b t c) (hi S n b t c) p
    have n1 : near (lo S n b t c) (hi S n b t c) p ≤ 200200000 := by unfold near; omega
    have f0 : 0 ≤ far (lo S n b t c) (hi S n b t c) p := by unfold far; omega
    have f1 : far (lo S n b t c) (hi S n b t c) p ≤ 200200000 := by unfold far; omega
    have a := Int.mul_le_mul n1 n1 n0 (by omega)
    have d := Int.mul_le_mul f1 f1 f0 (by omega)
    exact ⟨⟨Int.mul_nonneg n0 n0, by omega⟩, Int.mul_nonneg f0 f0, by omega⟩
  obtain ⟨h1, h2, h3⟩ := hp
  have e1 := each 1 (by omega) p1 h1
  have e2 := each 2 (by omega) p2 h2
  have e3 := each 3 (by omega) p3 h3
  have q1 : P3 p1 p2 p3 1 = p1 := rfl
  have q2 : P3 p1 p2 p3 2 = p2 := rfl
  have q3 : P3 p1 p2 p3 3 = p3 := rfl
  unfold sqL sqH
  rw [q1, q2, q3]
  omega

def dR (nm : Bool) (b : Int) (n : Nat) (S : Nat → Nat → Int) (t p1 p2 p3 : Int) : Value :=
  if e3 nm b n S t p1 p2 p3 = 0 then .tuple #[.agg #[.int .i64 (rt (sqL S n b t (P3 p1 p2 p3))), .int .i64 (ru (sqH S n b t (P3 p1 p2 p3)))], .int .i64 0] else .tuple #[.agg #[.int .i64 0, .int .i64 0], .int .i64 (e3 nm b n S t p1 p2 p3)]

theorem distanceAt_any (s : ByteArray) (b : Int) (A : Option Addr) (n c : Nat) (S : Nat → Nat → Int) (t p1 p2 p3 : Int) (w : World) (hS : St w A n S) (hs : s.size ≤ maxLen) (hn : n ≤ c) (hc : c ≤ maxLen) :
    Calls Try.prog 30 #[.agg #[.string s, .int .i64 b, .slice A n c], .int .i64 t, .agg #[.int .i64 p1, .int .i64 p2, .int .i64 p3]] w fun e w' => e = .returned (dR (nmB s) b n S t p1 p2 p3) ∧ Below w.heap.size w w' := by
  have HS := Lib.hid hS
  have H1 := Lib.hid hs
  have HN := Lib.hid hn
  have HC := Lib.hid hc
  clear hS hs hn hc
  go_enter Try.func30, Try.ntmps30
  go_wp2_with fail
  have hA1 : At (((w.alloc (.cells #[.string s, .int .i64 b, .slice A n c] 24)).alloc (.cells #[.int .i64 p1, .int .i64 p2, .int .i64 p3] 42)).alloc (.cells #[.int .i64 0, .int .i64 0] 46)) (w.heap.size) 24 #[.string s, .int .i64 b, .slice A n c] := (((at_new (by simp)).alloc _).alloc _)
  have hL1 : At (((w.alloc (.cells #[.string s, .int .i64 b, .slice A n c] 24)).alloc (.cells #[.int .i64 p1, .int .i64 p2, .int .i64 p3] 42)).alloc (.cells #[.int .i64 0, .int .i64 0] 46)) (w.heap.size + 1) 42 #[.int .i64 p1, .int .i64 p2, .int .i64 p3] := ((at_new (by simp)).alloc _)
  have hZ1 : At (((w.alloc (.cells #[.string s, .int .i64 b, .slice A n c] 24)).alloc (.cells #[.int .i64 p1, .int .i64 p2, .int .i64 p3] 42)).alloc (.cells #[.int .i64 0, .int .i64 0] 46)) (w.heap.size + 1 + 1) 46 #[.int .i64 0, .int .i64 0] := (at_new (by simp))
  have hB1 : Below w.heap.size w (((w.alloc (.cells #[.string s, .int .i64 b, .slice A n c] 24)).alloc (.cells #[.int .i64 p1, .int .i64 p2, .int .i64 p3] 42)).alloc (.cells #[.int .i64 0, .int .i64 0] 46)) := by
    repeat (first | (with_reducible exact Below.refl _ _) | (with_reducible refine below_new ?_ (by first | omega | (simp; done) | (simp; omega))))
  generalize hW1 : (((w.alloc (.cells #[.string s, .int .i64 b, .slice A n c] 24)).alloc (.cells #[.int .i64 p1, .int .i64 p2, .int .i64 p3] 42)).alloc (.cells #[.int .i64 0, .int .i64 0] 46)) = w1 at hA1 hL1 hZ1 hB1 ⊢
  clear hW1
  have HS1 := Lib.hid (HS.out.below hB1)
  have a0 := hA1.cell 0
  have a1 := hA1.cell 1
  have a2 := hA1.cell 2
  have l0 := hL1.cell 0
  have l1 := hL1.cell 1
  have l2 := hL1.cell 2
  have z0 := hZ1.cell 0
  have z1 := hZ1.cell 1
  simp at a0 a1 a2 l0 l1 l2 z0 z1
  have HA1 := Lib.hid hA1
  have HL1 := Lib.hid hL1
  have HZ1 := Lib.hid hZ1
  have HB1 := Lib.hid hB1
  clear hA1 hL1 hZ1 hB1
  by_cases he : e3 (nmB s) b n S t p1 p2 p3 = 0
  · have hq : sqR (nmB s) b n S t p1 p2 p3 = .tuple #[sqV S n b t (P3 p1 p2 p3), .int .i64 0] := if_pos he
    have hd : dR (nmB s) b n S t p1 p2 p3 = .tuple #[.agg #[.int .i64 (rt (sqL S n b t (P3 p1 p2 p3))), .int .i64 (ru (sqH S n b t (P3 p1 p2 p3)))], .int .i64 0] := if_pos he
    obtain ⟨_, hR, hT, hp⟩ := e3_zero he
    obtain ⟨⟨m0, m1⟩, k0, k1⟩ := sq_range hR hT hp
    unfold sqV at hq
    have HD := Lib.hid hd
    refine (squareAt_any s b A n c S t p1 p2 p3 _ HS1.out H1.out HN.out HC.out).mono ?_
    rw [hq]
    generalize sqL S n b t (P3 p1 p2 p3) = l at *
    generalize sqH S n b t (P3 p1 p2 p3) = h at *
    clear hR hT hp hq hd
    rintro e w2 ⟨rfl, hb2⟩
    have hA2 := HA1.out.keep hb2
    have hL2 := HL1.out.keep hb2
    have hZ2 := HZ1.out.keep hb2
    have HB2 := Lib.hid (HB1.out.trans (hb2.mono HB1.out.size))
    clear a0 a1 a2 l0 l1 l2 z0 z1 hb2
    have a0 := hA2.cell 0
    have a1 := hA2.cell 1
    have a2 := hA2.cell 2
    have l0 := hL2.cell 0
    have l1 := hL2.cell 1
    have l2 := hL2.cell 2
    have z0 := hZ2.cell 0
    have z1 := hZ2.cell 1
    simp at a0 a1 a2 l0 l1 l2 z0 z1
    have HA2 := Lib.hid hA2
    have HL2 := Lib.hid hL2
    have HZ2 := Lib.hid hZ2
    clear hA2 hL2 hZ2
    go_wp2_with fail
    have hA3 := HA2.out.alloc (.cells #[.int .i64 l, .int .i64 h] 46)
    have hL3 := HL2.out.alloc (.cells #[.int .i64 l, .int .i64 h] 46)
    have hZ3 := HZ2.out.alloc (.cells #[.int .i64 l, .int .i64 h] 46)
    have hQ3 := At.new w2 46 #[.int .i64 l, .int .i64 h]
    have hB3 := below_new HB2.out HB2.out.size (o := .cells #[.int .i64 l, .int .i64 h] 46)
    have hz3 : w.heap.size + 1 + 1 < w2.heap.size := HZ2.out.lt
    generalize hW3 : w2.alloc (.cells #[.int .i64 l, .int .i64 h] 46) = w3 at hA3 hL3 hZ3 hQ3 hB3 ⊢
    clear hW3 a0 a1 a2 l0 l1 l2 z0 z1
    have q0 := hQ3.cell 0
    have q1 := hQ3.cell 1
    simp at q0 q1
    have HA3 := Lib.hid hA3
    have HL3 := Lib.hid hL3
    have HZ3 := Lib.hid hZ3
    have HQ3 := Lib.hid hQ3
    have HB3 := Lib.hid hB3
    clear hA3 hL3 hZ3 hQ3 hB3
    have RD : Hid (∀ W : World, Calls Try.prog 91 #[.int .i64 l] W fun e w' => e = .returned (.int .i64 (rt l)) ∧ w' = W) := fun W => (rootDown_any l W m0 m1).mono fun _ _ ⟨he, hw⟩ => ⟨he, hw.symm⟩
    have RU : Hid (∀ W : World, Calls Try.prog 92 #[.int .i64 h] W fun e w' => e = .returned (.int .i64 (ru h)) ∧ w' = W) := fun W => (rootUp_any h W k0 k1).mono fun _ _ ⟨he, hw⟩ => ⟨he, hw.symm⟩
    go_wp2_with fail
    refine wp_region_still_tail 7 (by kernel_rfl) (by kernel_rfl) ?_
    simp only [List.take_succ_cons, List.take_zero, List.drop_succ_cons, List.drop_zero]
    repeat (first | still_step | still_call (RD.out _) | still_call (RU.out _))
    try refine wpStill_nil ?_
    change wpList _ _ _ _ _ w3.drew
    have hZ4 : At w3.drew (w.heap.size + 1 + 1) 46 #[.int .i64 0, .int .i64 0] := HZ3.out
    have hB4 : Below w.heap.size w w3.drew := HB3.out.drew
    generalize hwz : w3.drew = w4 at hZ4 hB4 ⊢
    clear hwz q0 q1
    have e0 := hZ4.cell 0
    have e1 := hZ4.cell 1
    have f0 := hZ4.free 0
    have f1 := hZ4.free 1
    simp at e0 e1
    have HB4 := Lib.hid hB4
    clear hZ4 hB4
    go_wp2
    refine bodyPost_ret (v := .tuple #[.agg #[.int .i64 (rt l), .int .i64 (ru h)], .int .i64 0]) ?h1 rfl ⟨by rw [HD.out], ?_⟩
    case h1 => simp [results, Try.results30, go_sem, *]
    have hbf := HB4.out
    repeat (first | (with_reducible exact hbf) | (with_reducible refine below_set ?_ (by omega)))
  · have hq : sqR (nmB s) b n S t p1 p2 p3 = .tuple #[.agg #[.int .i64 0, .int .i64 0], .int .i64 (e3 (nmB s) b n S t p1 p2 p3)] := if_neg he
    have hd : dR (nmB s) b n S t p1 p2 p3 = .tuple #[.agg #[.int .i64 0, .int .i64 0], .int .i64 (e3 (nmB s) b n S t p1 p2 p3)] := if_neg he
    have HD := Lib.hid hd
    refine (squareAt_any s b A n c S t p1 p2 p3 _ HS1.out H1.out HN.out HC.out).mono ?_
    rw [hq]
    have d1 : (e3 (nmB s) b n S t p1 p2 p3 != 0) = true := by simpa using he
    generalize e3 (nmB s) b n S t p1 p2 p3 = q at *
    clear hq hd he
    rintro e w2 ⟨rfl, hb2⟩
    have hA2 := HA1.out.keep hb2
    have hL2 := HL1.out.keep hb2
    have hZ2 := HZ1.out.keep hb2
    have HB2 := Lib.hid (HB1.out.trans (hb2.mono HB1.out.size))
    clear a0 a1 a2 l0 l1 l2 z0 z1 hb2
    have a0 := hA2.cell 0
    have a1 := hA2.cell 1
    have a2 := hA2.cell 2
    have l0 := hL2.cell 0
    have l1 := hL2.cell 1
    have l2 := hL2.cell 2
    have z0 := hZ2.cell 0
    have z1 := hZ2.cell 1
    simp at a0 a1 a2 l0 l1 l2 z0 z1
    have HA2 := Lib.hid hA2
    have HL2 := Lib.hid hL2
    have HZ2 := Lib.hid hZ2
    clear hA2 hL2 hZ2
    have g0 := HZ2.out.free 0
    have g1 := HZ2.out.free 1
    have hz2 := HZ2.out.lt
    have hz3 : w.heap.size + 1 + 1 < w2.heap.size + 1 := Nat.lt_succ_of_lt hz2
    go_wp2
    refine bodyPost_ret (v := .tuple #[.agg #[.int .i64 0, .int .i64 0], .int .i64 q]) ?h1 rfl ⟨by rw [HD.out], ?_⟩
    case h1 => simp [results, Try.results30, go_sem, *]
    have hbf := HB2.out
    repeat (first | (with_reducible exact hbf) | (with_reducible refine below_set ?_ (by omega)) | (with_reducible refine below_new ?_ (by have := hbf.size; simp; omega)))

theorem refDistances_any (l h : Int) (w : World) (l0 : 0 ≤ l ∧ l ≤ 1152921504606846976) (h0 : 0 ≤ h ∧ h ≤ 1152921504606846976) :
    Calls Try.prog 34 #[.agg #[.int .i64 l, .int .i64 h]] w fun e w' => e = .returned (.agg #[.int .i64 (rt l), .int .i64 (ru h)]) ∧ Below w.heap.size w w' := by
  have RD : Hid (∀ W : World, Calls Try.prog 95 #[.int .i64 l] W fun e w' => e = .returned (.int .i64 (rt l)) ∧ w' = W) := fun W => (baseRoot_any l W l0.1 l0.2).mono fun _ _ ⟨he, hw⟩ => ⟨he, hw.symm⟩
  have RU : Hid (∀ W : World, Calls Try.prog 96 #[.int .i64 h] W fun e w' => e = .returned (.int .i64 (ru h)) ∧ w' = W) := fun W => (refRootUp_any h W h0.1 h0.2).mono fun _ _ ⟨he, hw⟩ => ⟨he, hw.symm⟩
  clear l0 h0
  go_enter Try.func34, Try.ntmps34
  go_wp2_with fail
  have hQ1 : At ((w.alloc (.cells #[.int .i64 l, .int .i64 h] 46)).alloc (.cells #[.int .i64 0, .int .i64 0] 46)) (w.heap.size) 46 #[.int .i64 l, .int .i64 h] := ((at_new (by simp)).alloc _)
  have hZ1 : At ((w.alloc (.cells #[.int .i64 l, .int .i64 h] 46)).alloc (.cells #[.int .i64 0, .int .i64 0] 46)) (w.heap.size + 1) 46 #[.int .i64 0, .int .i64 0] := (at_new (by simp))
  have hB1 : Below w.heap.size w ((w.alloc (.cells #[.int .i64 l, .int .i64 h] 46)).alloc (.cells #[.int .i64 0, .int .i64 0] 46)) := by
    repeat (first | (with_reducible exact Below.refl _ _) | (with_reducible refine below_new ?_ (by first | omega | (simp; done) | (simp; omega))))
  generalize hW1 : ((w.alloc (.cells #[.int .i64 l, .int .i64 h] 46)).alloc (.cells #[.int .i64 0, .int .i64 0] 46)) = w1 at hQ1 hZ1 hB1 ⊢
  clear hW1
  have q0 := hQ1.cell 0
  have q1 := hQ1.cell 1
  simp at q0 q1
  have HQ1 := Lib.hid hQ1
  have HZ1 := Lib.hid hZ1
  have HB1 := Lib.hid hB1
  clear hQ1 hZ1 hB1
  refine wp_region_still_tail 7 (by kernel_rfl) (by kernel_rfl) ?_
  simp only [List.take_succ_cons, List.take_zero, List.drop_succ_cons, List.drop_zero]
  repeat (first | still_step | still_call (RD.out _) | still_call (RU.out _))
  try refine wpStill_nil ?_
  change wpList _ _ _ _ _ w1.drew
  have hZ4 : At w1.drew (w.heap.size + 1) 46 #[.int .i64 0, .int .i64 0] := HZ1.out
  have hB4 : Below w.heap.size w w1.drew := HB1.out.drew
  generalize hwz : w1.drew = w4 at hZ4 hB4 ⊢
  clear hwz q0 q1
  have e0 := hZ4.cell 0
  have e1 := hZ4.cell 1
  have f0 := hZ4.free 0
  have f1 := hZ4.free 1
  simp at e0 e1
  have HB4 := Lib.hid hB4
  clear hZ4 hB4
  go_wp2
  refine bodyPost_ret (v := .agg #[.int .i64 (rt l), .int .i64 (ru h)]) ?h1 rfl ⟨rfl, ?_⟩
  case h1 => simp [results, Try.results34, go_sem, *]
  have hbf := HB4.out
  repeat (first | (with_reducible exact hbf) | (with_reducible refine below_set ?_ (by omega)))

theorem e3_e2 {nm : Bool} {b : Int} {n : Nat} {S : Nat → Nat → Int} {t p1 p2 p3 : Int} : e3 nm b n S t p1 p2 p3 = if e2 nm b n S t = 0 then pe p1 p2 p3 else e2 nm b n S t := by
  unfold e3 e2
  rw [fe_three, fe_two]
  by_cases h : (oce nm b n S).2 = 0
  · rw [if_pos h, if_pos h]
  · rw [if_neg h, if_neg h, if_neg h]

theorem pl_dec (x y z : Int) : plB x y z = decide (pe x y z = 0) := by
  unfold plB pe
  by_cases h1 : -100000000 ≤ x ∧ x ≤ 100000000
  · by_cases h2 : -100000000 ≤ y ∧ y ≤ 100000000
    · by_cases h3 : -100000000 ≤ z ∧ z ≤ 100000000
      · rw [inB_t h1, inB_t h2, inB_t h3, if_pos ⟨h1, h2, h3⟩]; rfl
      · rw [inB_t h1, inB_t h2, inB_f h3, if_neg (fun h => h3 h.2.2)]; rfl
    · rw [inB_f h2, if_neg (fun h => h2 h.2.1), Bool.and_false]; rfl
  · rw [inB_f h1, if_neg (fun h => h1 h.1)]; rfl
theorem pe_is (x y z : Int) : pe x y z = 0 ∨ pe x y z = 2 := by
  unfold pe
  split
  · exact .inl rfl
  · exact .inr rfl

theorem placeErr_any (s : ByteArray) (b : Int) (A : Option Addr) (n c : Nat) (S : Nat → Nat → Int) (t p1 p2 p3 : Int) (w : World) (hS : St w A n S) (hs : s.size ≤ maxLen) (hn : n ≤ c) (hc : c ≤ maxLen) :
    Calls Try.prog 31 #[.agg #[.string s, .int .i64 b, .slice A n c], .int .i64 t, .agg #[.int .i64 p1, .int .i64 p2, .int .i64 p3]] w fun e w' => e = .returned (.int .i64 (e3 (nmB s) b n S t p1 p2 p3)) ∧ Below w.heap.size w w' := by
  have HS := Lib.hid hS
  have H1 := Lib.hid hs
  have HN := Lib.hid hn
  have HC := Lib.hid hc
  have HE := Lib.hid (e3_e2 (nm := nmB s) (b := b) (n := n) (S := S) (t := t) (p1 := p1) (p2 := p2) (p3 := p3))
  clear hS hs hn hc
  go_enter Try.func31, Try.ntmps31
  go_wp2_with fail
  have hA1 : At ((w.alloc (.cells #[.string s, .int .i64 b, .slice A n c] 24)).alloc (.cells #[.int .i64 p1, .int .i64 p2, .int .i64 p3] 42)) (w.heap.size) 24 #[.string s, .int .i64 b, .slice A n c] := ((at_new (by simp)).alloc _)
  have hL1 : At ((w.alloc (.cells #[.string s, .int .i64 b, .slice A n c] 24)).alloc (.cells #[.int .i64 p1, .int .i64 p2, .int .i64 p3] 42)) (w.heap.size + 1) 42 #[.int .i64 p1, .int .i64 p2, .int .i64 p3] := (at_new (by simp))
  have hB1 : Below w.heap.size w ((w.alloc (.cells #[.string s, .int .i64 b, .slice A n c] 24)).alloc (.cells #[.int .i64 p1, .int .i64 p2, .int .i64 p3] 42)) := by
    repeat (first | (with_reducible exact Below.refl _ _) | (with_reducible refine below_new ?_ (by first | omega | (simp; done) | (simp; omega))))
  generalize hW1 : ((w.alloc (.cells #[.string s, .int .i64 b, .slice A n c] 24)).alloc (.cells #[.int .i64 p1, .int .i64 p2, .int .i64 p3] 42)) = w1 at hA1 hL1 hB1 ⊢
  clear hW1
  have HS1 := Lib.hid (HS.out.below hB1)
  have a0 := hA1.cell 0
  have a1 := hA1.cell 1
  have a2 := hA1.cell 2
  have l0 := hL1.cell 0
  have l1 := hL1.cell 1
  have l2 := hL1.cell 2
  simp at a0 a1 a2 l0 l1 l2
  have HA1 := Lib.hid hA1
  have HL1 := Lib.hid hL1
  have HB1 := Lib.hid hB1
  clear hA1 hL1 hB1
  refine (tickErr_any s b A n c S t _ HS1.out H1.out HN.out HC.out).mono ?_
  rintro e w2 ⟨rfl, hb2⟩
  have hA2 := HA1.out.keep hb2
  have hL2 := HL1.out.keep hb2
  have HB2 := Lib.hid (HB1.out.trans (hb2.mono HB1.out.size))
  clear a0 a1 a2 l0 l1 l2 hb2
  have a0 := hA2.cell 0
  have a1 := hA2.cell 1
  have a2 := hA2.cell 2
  have l0 := hL2.cell 0
  have l1 := hL2.cell 1
  have l2 := hL2.cell 2
  simp at a0 a1 a2 l0 l1 l2
  have HA2 := Lib.hid hA2
  have HL2 := Lib.hid hL2
  clear hA2 hL2
  by_cases h0 : e2 (nmB s) b n S t = 0
  · rw [if_pos h0] at HE
    rw [h0]
    go_wp2_with fail
    refine (refIsPlace_any p1 p2 p3 _).mono ?_
    rintro e w3 ⟨rfl, hw3⟩
    have hb3 : Below w2.heap.size w2 w3 := by rw [← hw3]; exact below_new (Below.refl _ w2) (Nat.le_refl _)
    have HB3 := Lib.hid (HB2.out.trans (hb3.mono HB2.out.size))
    clear hw3 hb3
    rw [pl_dec]
    rcases pe_is p1 p2 p3 with hp | hp
    · rw [hp] at HE ⊢
      rw [decide_eq_true rfl]
      go_wp2
      go_ret
      rw [HE.out]
      exact ⟨rfl, HB3.out⟩
    · rw [hp] at HE ⊢
      rw [decide_eq_false (by decide)]
      go_wp2
      go_ret
      rw [HE.out]
      exact ⟨rfl, HB3.out⟩
  · rw [if_neg h0] at HE
    have d1 : (e2 (nmB s) b n S t != 0) = true := by simpa using h0
    generalize e2 (nmB s) b n S t = q at *
    go_wp2
    go_ret
    rw [HE.out]
    exact ⟨rfl, HB2.out⟩
end Go.Proofs.Ytegmjanpeaibcaa
