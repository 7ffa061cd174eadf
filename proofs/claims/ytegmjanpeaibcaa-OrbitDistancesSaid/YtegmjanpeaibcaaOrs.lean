/- Contracts of the reference: the squares from a place to a box. -/
import Derived.Test.YtegmjanpeaibcaaOpt
import Derived.Test.YtegmjanpeaibcaaOsq
import Derived.Test.YtegmjanpeaibcaaOeq
import Derived.BigQuiet
namespace Go.Proofs.Ytegmjanpeaibcaa
open Go.RowKit
set_option maxHeartbeats 1600000
set_option maxRecDepth 100000

theorem six_lo (l1 h1 l2 h2 l3 h3 : Int) {k : Nat} (hk : k < 3) : (#[.int .i64 l1, .int .i64 h1, .int .i64 l2, .int .i64 h2, .int .i64 l3, .int .i64 h3] : Array Value)[k * 2]? = some (.int .i64 (nth l1 l2 l3 k)) := by
  match k, hk with
  | 0, _ => rfl
  | 1, _ => rfl
  | 2, _ => rfl
theorem six_hi (l1 h1 l2 h2 l3 h3 : Int) {k : Nat} (hk : k < 3) : (#[.int .i64 l1, .int .i64 h1, .int .i64 l2, .int .i64 h2, .int .i64 l3, .int .i64 h3] : Array Value)[k * 2 + 1]? = some (.int .i64 (nth h1 h2 h3 k)) := by
  match k, hk with
  | 0, _ => rfl
  | 1, _ => rfl
  | 2, _ => rfl
theorem three_at (p1 p2 p3 : Int) {k : Nat} (hk : k < 3) : (#[.int .i64 p1, .int .i64 p2, .int .i64 p3] : Array Value)[k]? = some (.int .i64 (nth p1 p2 p3 k)) := by
  match k, hk with
  | 0, _ => rfl
  | 1, _ => rfl
  | 2, _ => rfl

theorem sq_min {l h a : Int} (h2 : l ≤ h) (hn : ¬ (l ≤ a ∧ a ≤ h)) : (if (a - h) * (a - h) < (a - l) * (a - l) then (a - h) * (a - h) else (a - l) * (a - l)) = near l h a * near l h a := by
  have e : near l h a * near l h a = min ((a - l) * (a - l)) ((a - h) * (a - h)) := by
    rcases Int.lt_or_le a l with g | g
    · exact near_below g h2
    · exact near_above (by omega) h2
  rw [e]
  split <;> omega
theorem sq_max {l h a : Int} (h2 : l ≤ h) : (if (a - l) * (a - l) < (a - h) * (a - h) then (a - h) * (a - h) else (a - l) * (a - l)) = far l h a * far l h a := by
  rw [far_sq h2]
  split <;> omega

theorem refCoordinates_any (x y z : Int) (w : World) : Calls Try.prog 81 #[.agg #[.int .i64 x, .int .i64 y, .int .i64 z]] w fun e w' => e = .returned (.agg #[.int .i64 x, .int .i64 y, .int .i64 z]) ∧ Below w.heap.size w w' := by
  refine (refCoordinates_eq x y z w).mono ?_
  rintro e w' ⟨rfl, rfl⟩
  exact ⟨rfl, below_new (below_new (Below.refl _ w) (Nat.le_refl _)) (by simp)⟩

theorem refSquares_any (l1 h1 l2 h2 l3 h3 p1 p2 p3 : Int) (w : World) (b1 : -100200000 ≤ l1 ∧ l1 ≤ h1 ∧ h1 ≤ 100200000) (b2 : -100200000 ≤ l2 ∧ l2 ≤ h2 ∧ h2 ≤ 100200000) (b3 : -100200000 ≤ l3 ∧ l3 ≤ h3 ∧ h3 ≤ 100200000)
    (q1 : -100000000 ≤ p1 ∧ p1 ≤ 100000000) (q2 : -100000000 ≤ p2 ∧ p2 ≤ 100000000) (q3 : -100000000 ≤ p3 ∧ p3 ≤ 100000000) :
    Calls Try.prog 33 #[.agg #[.int .i64 l1, .int .i64 h1, .int .i64 l2, .int .i64 h2, .int .i64 l3, .int .i64 h3], .agg #[.int .i64 p1, .int .i64 p2, .int .i64 p3]] w fun e w' =>
      e = .returned (.agg #[.int .i64 (sqS (nF3 l1 h1 l2 h2 l3 h3 p1 p2 p3) 3), .int .i64 (sqS (fF3 l1 h1 l2 h2 l3 h3 p1 p2 p3) 3)]) ∧ Below w.heap.size w w' := by
  obtain ⟨k1, k2, k3⟩ := sq_nums b1 b2 b3 q1 q2 q3
  have HK := Lib.hid k1
  have HNR := Lib.hid (sqS_range k2)
  have HFR := Lib.hid (sqS_range k3)
  have HNF := Lib.hid k2
  have HFF := Lib.hid k3
  clear k1 k2 k3 b1 b2 b3 q1 q2 q3
  go_enter Try.func33, Try.ntmps33
  go_wp2_with fail
  have hX : At ((((w.alloc (.cells #[.int .i64 l1, .int .i64 h1, .int .i64 l2, .int .i64 h2, .int .i64 l3, .int .i64 h3] 47)).alloc (.cells #[.int .i64 p1, .int .i64 p2, .int .i64 p3] 42)).alloc (.cells #[.int .i64 0, .int .i64 0] 46)).alloc (.cells #[.int .i64 0, .int .i64 0] 46)) w.heap.size 47 #[.int .i64 l1, .int .i64 h1, .int .i64 l2, .int .i64 h2, .int .i64 l3, .int .i64 h3] := (((At.new w _ _).alloc _).alloc _).alloc _
  have hR : At ((((w.alloc (.cells #[.int .i64 l1, .int .i64 h1, .int .i64 l2, .int .i64 h2, .int .i64 l3, .int .i64 h3] 47)).alloc (.cells #[.int .i64 p1, .int .i64 p2, .int .i64 p3] 42)).alloc (.cells #[.int .i64 0, .int .i64 0] 46)).alloc (.cells #[.int .i64 0, .int .i64 0] 46)) (w.heap.size + 1 + 1) 46 #[.int .i64 0, .int .i64 0] := (at_new (by simp)).alloc _
  have hO : At ((((w.alloc (.cells #[.int .i64 l1, .int .i64 h1, .int .i64 l2, .int .i64 h2, .int .i64 l3, .int .i64 h3] 47)).alloc (.cells #[.int .i64 p1, .int .i64 p2, .int .i64 p3] 42)).alloc (.cells #[.int .i64 0, .int .i64 0] 46)).alloc (.cells #[.int .i64 0, .int .i64 0] 46)) (w.heap.size + 1 + 1 + 1) 46 #[.int .i64 0, .int .i64 0] := at_new (by simp)
  have hb1 : Below w.heap.size w ((((w.alloc (.cells #[.int .i64 l1, .int .i64 h1, .int .i64 l2, .int .i64 h2, .int .i64 l3, .int .i64 h3] 47)).alloc (.cells #[.int .i64 p1, .int .i64 p2, .int .i64 p3] 42)).alloc (.cells #[.int .i64 0, .int .i64 0] 46)).alloc (.cells #[.int .i64 0, .int .i64 0] 46)) := by
    repeat (first | (with_reducible exact Below.refl _ _) | (with_reducible refine below_new ?_ (by first | omega | (simp; done) | (simp; omega))))
  generalize hW1 : (((w.alloc (.cells #[.int .i64 l1, .int .i64 h1, .int .i64 l2, .int .i64 h2, .int .i64 l3, .int .i64 h3] 47)).alloc (.cells #[.int .i64 p1, .int .i64 p2, .int .i64 p3] 42)).alloc (.cells #[.int .i64 0, .int .i64 0] 46)).alloc (.cells #[.int .i64 0, .int .i64 0] 46) = W1 at hX hR hO hb1 ⊢
  clear hW1
  refine (refCoordinates_any p1 p2 p3 W1).mono ?_
  rintro e w2 ⟨rfl, hb2⟩
  have hX2 := hX.keep hb2
  have hR2 := hR.keep hb2
  have hO2 := hO.keep hb2
  have hB2 := hb1.trans (hb2.mono hb1.size)
  clear hX hR hO hb1 hb2
  go_wp2_with fail
  have hX3 := hX2.alloc (.cells #[.int .i64 p1, .int .i64 p2, .int .i64 p3] 84)
  have hR3 := hR2.alloc (.cells #[.int .i64 p1, .int .i64 p2, .int .i64 p3] 84)
  have hO3 := hO2.alloc (.cells #[.int .i64 p1, .int .i64 p2, .int .i64 p3] 84)
  have hP3 := At.new w2 84 #[.int .i64 p1, .int .i64 p2, .int .i64 p3]
  have hB3 := below_new hB2 hB2.size (o := .cells #[.int .i64 p1, .int .i64 p2, .int .i64 p3] 84)
  have z1 := hX2.lt
  have z2 := hR2.lt
  have z3 := hO2.lt
  generalize hW3 : w2.alloc (.cells #[.int .i64 p1, .int .i64 p2, .int .i64 p3] 84) = W3 at hX3 hR3 hO3 hP3 hB3 ⊢
  clear hW3 hX2 hR2 hO2 hB2
  have HX := Lib.hid hX3
  have HR := Lib.hid hR3
  have HO := Lib.hid hO3
  have HP := Lib.hid hP3
  have HB := Lib.hid hB3
  clear hX3 hR3 hO3 hP3 hB3
  go_loopw [7] (fun i wr => ∃ k : Nat, k ≤ 3 ∧ i = .int .i64 (k : Int) ∧ At wr (w.heap.size + 1 + 1 + 1) 46 #[.int .i64 (sqS (nF3 l1 h1 l2 h2 l3 h3 p1 p2 p3) k), .int .i64 (sqS (fF3 l1 h1 l2 h2 l3 h3 p1 p2 p3) k)] ∧ At wr w.heap.size 47 #[.int .i64 l1, .int .i64 h1, .int .i64 l2, .int .i64 h2, .int .i64 l3, .int .i64 h3] ∧ At wr (w.heap.size + 1 + 1) 46 #[.int .i64 0, .int .i64 0] ∧ At wr w2.heap.size 84 #[.int .i64 p1, .int .i64 p2, .int .i64 p3] ∧ Below w.heap.size w wr) (fun i _ => 3 - (intOf i).toNat)
  case atStart => exact ⟨0, by omega, rfl, HO.out, HX.out, HR.out, HP.out, HB.out⟩
  case round =>
    obtain ⟨k, hk, rfl, ho, hx, hr, hp, hbr⟩ := hrel
    by_cases hlt : k < 3
    · obtain ⟨⟨m1, m2, m3⟩, m4, m5⟩ := HK.out k hlt
      obtain ⟨r1, r2⟩ := HNR.out k (by omega)
      obtain ⟨r3, r4⟩ := HFR.out k (by omega)
      have e1 : wr.cell? ⟨w.heap.size, k * 2, none⟩ = some (.int .i64 (nth l1 l2 l3 k)) := (hx.cell (k * 2)).trans (six_lo l1 h1 l2 h2 l3 h3 hlt)
      have e2 : wr.cell? ⟨w.heap.size, k * 2 + 1, none⟩ = some (.int .i64 (nth h1 h2 h3 k)) := (hx.cell (k * 2 + 1)).trans (six_hi l1 h1 l2 h2 l3 h3 hlt)
      have e3 : wr.cell? ⟨w2.heap.size, k, none⟩ = some (.int .i64 (nth p1 p2 p3 k)) := (hp.cell k).trans (three_at p1 p2 p3 hlt)
      obtain ⟨l, hl⟩ : ∃ x, x = nth l1 l2 l3 k := ⟨_, rfl⟩
      obtain ⟨h, hh⟩ : ∃ x, x = nth h1 h2 h3 k := ⟨_, rfl⟩
      obtain ⟨a, ha⟩ : ∃ x, x = nth p1 p2 p3 k := ⟨_, rfl⟩
      have hf1 : nF3 l1 h1 l2 h2 l3 h3 p1 p2 p3 k = near l h a := by unfold nF3; rw [← hl, ← hh, ← ha]
      have hf2 : fF3 l1 h1 l2 h2 l3 h3 p1 p2 p3 k = far l h a := by unfold fF3; rw [← hl, ← hh, ← ha]
      have hs1 : sqS (nF3 l1 h1 l2 h2 l3 h3 p1 p2 p3) (k + 1) = sqS (nF3 l1 h1 l2 h2 l3 h3 p1 p2 p3) k + near l h a * near l h a := by rw [sqS, hf1]
      have hs2 : sqS (fF3 l1 h1 l2 h2 l3 h3 p1 p2 p3) (k + 1) = sqS (fF3 l1 h1 l2 h2 l3 h3 p1 p2 p3) k + far l h a * far l h a := by rw [sqS, hf2]
      rw [← hl] at e1 m1 m2
      rw [← hh] at e2 m2 m3
      rw [← ha] at e3 m4 m5
      obtain ⟨s1, hs1'⟩ : ∃ x, x = sqS (nF3 l1 h1 l2 h2 l3 h3 p1 p2 p3) k := ⟨_, rfl⟩
      obtain ⟨s2, hs2'⟩ : ∃ x, x = sqS (fF3 l1 h1 l2 h2 l3 h3 p1 p2 p3) k := ⟨_, rfl⟩
      rw [← hs1'] at hs1 r1 r2 ho
      rw [← hs2'] at hs2 r3 r4 ho
      have w1 : IntKind.i64.wrap (a - l) = a - l := IntWalk.i64_in _ (by omega)
      have w2' : IntKind.i64.wrap (a - h) = a - h := IntWalk.i64_in _ (by omega)
      have p1' := sq_nonneg (a - l)
      have p2' := sq_nonneg (a - h)
      have p3' := sq_le (a := a - l) (b := 300000000) (by omega) (by omega)
      have p4' := sq_le (a := a - h) (b := 300000000) (by omega) (by omega)
      have w5 : IntKind.i64.wrap ((a - l) * (a - l)) = (a - l) * (a - l) := IntWalk.i64_in _ (by omega)
      have w6 : IntKind.i64.wrap ((a - h) * (a - h)) = (a - h) * (a - h) := IntWalk.i64_in _ (by omega)
      have u0 : (0 : Int) ≤ (k : Int) := by omega
      have u1 : (k : Int) < 3 := by omega
      have HS1 := Lib.hid hs1
      have HS2 := Lib.hid hs2
      have HO1 := Lib.hid ho
      have HX1 := Lib.hid hx
      have HR1 := Lib.hid hr
      have HP1 := Lib.hid hp
      have HB1 := Lib.hid hbr
      have HMX : Hid ((if (a - l) * (a - l) < (a - h) * (a - h) then (a - h) * (a - h) else (a - l) * (a - l)) = far l h a * far l h a) := sq_max m2
      have hfb : 0 ≤ far l h a * far l h a ∧ far l h a * far l h a ≤ 90000000000000000 := by
        rw [← HMX.out]
        split <;> omega
      have hln : Hid (l ≤ h) := m2
      clear hs1 hs2 hs1' hs2' hf1 hf2 hl hh ha ho hx hr hp hbr
      by_cases hin : inB a l h = true
      · have hnr : near l h a * near l h a = 0 := by
          obtain ⟨g1, g2⟩ := inB_iff.1 hin
          rw [near_in g1 g2]; rfl
        have HNR2 := Lib.hid hnr
        have HW : Hid (∀ W : World, Calls Try.prog 21 #[.int .i64 a, .int .i64 l, .int .i64 h] W fun e w' => e = .returned (.bool true) ∧ W = w') := fun W => by rw [← hin]; exact baseWithin_any _ _ _ W
        clear hin hnr
        go_wp2_with fail
        go_quiet (fail)
        have hx : At (wr.drewN nq) w.heap.size 47 #[.int .i64 l1, .int .i64 h1, .int .i64 l2, .int .i64 h2, .int .i64 l3, .int .i64 h3] := HX1.out
        have e1 : (wr.drewN nq).cell? ⟨w.heap.size, k * 2, none⟩ = some (.int .i64 l) := e1
        have e2 : (wr.drewN nq).cell? ⟨w.heap.size, k * 2 + 1, none⟩ = some (.int .i64 h) := e2
        have e3 : (wr.drewN nq).cell? ⟨w2.heap.size, k, none⟩ = some (.int .i64 a) := e3
        have ho : At (wr.drewN nq) (w.heap.size + 1 + 1 + 1) 46 #[.int .i64 s1, .int .i64 s2] := HO1.out
        have hr : At (wr.drewN nq) (w.heap.size + 1 + 1) 46 #[.int .i64 0, .int .i64 0] := HR1.out
        have hp : At (wr.drewN nq) w2.heap.size 84 #[.int .i64 p1, .int .i64 p2, .int .i64 p3] := HP1.out
        have hbr := below_drewNs (n := nq) HB1.out
        generalize hwd : wr.drewN nq = wd at hx e1 e2 e3 ho hr hp hbr ⊢
        clear hwd
        go_wp2_with fail
        have k1 := cell_regrown e1
        have k2 := cell_regrown e2
        have k3 := cell_regrown e3
        refine wp_region_quiet_below (by kernel_rfl) (by kernel_rfl) ?_
        repeat (quiet_step (first | (with_reducible exact met_same HW.out _ _)))
        refine wpQuiet_nil ?_
        intro _ hw'
        obtain ⟨⟨dq, osq⟩, hw''⟩ := hw'
        subst hw''
        have hb3 := below_regrown wd dq osq
        generalize hX : Go.Sort.grow (redrawn wd dq) osq = X at hb3 ⊢
        clear hX k1 k2 k3 e1 e2 e3
        have HX2 := Lib.hid (hx.keep hb3)
        have ho2 := ho.keep hb3
        have HR2 := Lib.hid (hr.keep hb3)
        have HP2 := Lib.hid (hp.keep hb3)
        have HB2 := Lib.hid (hbr.trans (hb3.mono hbr.size))
        have c0 := ho2.cell 0
        have c1 := ho2.cell 1
        simp at c0 c1
        have f0 := ho2.free 0
        have f1 := ho2.free 1
        have HO2 := Lib.hid ho2
        clear hx ho hr hp hbr hb3 ho2
        have w8 : IntKind.i64.wrap (s2 + far l h a * far l h a) = s2 + far l h a * far l h a := IntWalk.i64_in _ (by omega)
        rw [← HMX.out] at w8
        go_wp2
        rw [HMX.out]
        go_roundw
        case rel =>
          refine ⟨k + 1, by omega, by go_num, ?_, ?_, ?_, ?_, ?_⟩
          · rw [HS1.out, HS2.out, HNR2.out, Int.add_zero]
            exact HO2.out.put 1 _
          · exact HX2.out.far (by simp; omega) _
          · exact HR2.out.far (by simp) _
          · exact HP2.out.far (by simp; omega) _
          · exact below_set HB2.out (by omega)
        case measure => simp [intOf]; omega
      · have hin : inB a l h = false := by simpa using hin
        have hno : ¬ (l ≤ a ∧ a ≤ h) := fun g => by
          have := inB_t g
          rw [hin] at this
          cases this
        have HMN : Hid ((if (a - h) * (a - h) < (a - l) * (a - l) then (a - h) * (a - h) else (a - l) * (a - l)) = near l h a * near l h a) := sq_min m2 hno
        have hnb : 0 ≤ near l h a * near l h a ∧ near l h a * near l h a ≤ 90000000000000000 := by
          rw [← HMN.out]
          split <;> omega
        have HW : Hid (∀ W : World, Calls Try.prog 21 #[.int .i64 a, .int .i64 l, .int .i64 h] W fun e w' => e = .returned (.bool false) ∧ W = w') := fun W => by rw [← hin]; exact baseWithin_any _ _ _ W
        clear hin hno
        go_wp2_with fail
        go_quiet (fail)
        have hx : At (wr.drewN nq) w.heap.size 47 #[.int .i64 l1, .int .i64 h1, .int .i64 l2, .int .i64 h2, .int .i64 l3, .int .i64 h3] := HX1.out
        have e1 : (wr.drewN nq).cell? ⟨w.heap.size, k * 2, none⟩ = some (.int .i64 l) := e1
        have e2 : (wr.drewN nq).cell? ⟨w.heap.size, k * 2 + 1, none⟩ = some (.int .i64 h) := e2
        have e3 : (wr.drewN nq).cell? ⟨w2.heap.size, k, none⟩ = some (.int .i64 a) := e3
        have ho : At (wr.drewN nq) (w.heap.size + 1 + 1 + 1) 46 #[.int .i64 s1, .int .i64 s2] := HO1.out
        have hr : At (wr.drewN nq) (w.heap.size + 1 + 1) 46 #[.int .i64 0, .int .i64 0] := HR1.out
        have hp : At (wr.drewN nq) w2.heap.size 84 #[.int .i64 p1, .int .i64 p2, .int .i64 p3] := HP1.out
        have hbr := below_drewNs (n := nq) HB1.out
        generalize hwd : wr.drewN nq = wd at hx e1 e2 e3 ho hr hp hbr ⊢
        clear hwd
        go_wp2_with fail
        have k1 := cell_regrown e1
        have k2 := cell_regrown e2
        have k3 := cell_regrown e3
        refine wp_region_quiet_below (by kernel_rfl) (by kernel_rfl) ?_
        repeat (quiet_step (first | (with_reducible exact met_same HW.out _ _)))
        refine wpQuiet_nil ?_
        intro _ hw'
        obtain ⟨⟨dq, osq⟩, hw''⟩ := hw'
        subst hw''
        have hb3 := below_regrown wd dq osq
        generalize hX : Go.Sort.grow (redrawn wd dq) osq = X at hb3 ⊢
        clear hX k1 k2 k3 e1 e2 e3
        have HX2 := Lib.hid (hx.keep hb3)
        have ho2 := ho.keep hb3
        have HR2 := Lib.hid (hr.keep hb3)
        have HP2 := Lib.hid (hp.keep hb3)
        have HB2 := Lib.hid (hbr.trans (hb3.mono hbr.size))
        have c0 := ho2.cell 0
        have c1 := ho2.cell 1
        simp at c0 c1
        have f0 := ho2.free 0
        have f1 := ho2.free 1
        have HO2 := Lib.hid ho2
        clear hx ho hr hp hbr hb3 ho2
        have w8 : IntKind.i64.wrap (s2 + far l h a * far l h a) = s2 + far l h a * far l h a := IntWalk.i64_in _ (by omega)
        rw [← HMX.out] at w8
        have w9 : IntKind.i64.wrap (s1 + near l h a * near l h a) = s1 + near l h a * near l h a := IntWalk.i64_in _ (by omega)
        rw [← HMN.out] at w9
        go_wp2
        rw [HMX.out, HMN.out]
        go_roundw
        case rel =>
          refine ⟨k + 1, by omega, by go_num, ?_, ?_, ?_, ?_, ?_⟩
          · rw [HS1.out, HS2.out]
            exact (HO2.out.put 0 _).put 1 _
          · exact (HX2.out.far (by simp; omega) _).far (by simp; omega) _
          · exact (HR2.out.far (by simp) _).far (by simp) _
          · exact (HP2.out.far (by simp; omega) _).far (by simp; omega) _
          · exact below_set (below_set HB2.out (by omega)) (by omega)
        case measure => simp [intOf]; omega
    · obtain rfl : k = 3 := by omega
      have c0 := ho.cell 0
      have c1 := ho.cell 1
      have d0 := hr.cell 0
      have d1 := hr.cell 1
      simp at c0 c1 d0 d1
      have f0 := hr.free 0
      have f1 := hr.free 1
      clear ho hx hr hp
      go_wp2
      refine bodyPost_ret (v := .agg #[.int .i64 (sqS (nF3 l1 h1 l2 h2 l3 h3 p1 p2 p3) 3), .int .i64 (sqS (fF3 l1 h1 l2 h2 l3 h3 p1 p2 p3) 3)]) ?h1 rfl ⟨rfl, ?_⟩
      case h1 => simp [results, Try.results33, go_sem, *]
      repeat (first | (with_reducible exact hbr) | (with_reducible refine below_set ?_ (by omega)))
end Go.Proofs.Ytegmjanpeaibcaa
