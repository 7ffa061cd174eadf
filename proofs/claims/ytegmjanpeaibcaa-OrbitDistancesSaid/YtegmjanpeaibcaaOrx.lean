/- Contracts of the reference: the box at a tick. -/
import Derived.Test.YtegmjanpeaibcaaOrn
import Derived.StillTailTactics
namespace Go.Proofs.Ytegmjanpeaibcaa
open Go.RowKit
set_option maxHeartbeats 1600000
set_option maxRecDepth 100000

def bF2 (i1 i2 i3 o d : Int) (k : Nat) : Int := (nth i1 i2 i3 k - o) / d
def bG2 (i1 i2 i3 o d : Int) (k : Nat) : Int := -(-(nth i1 i2 i3 k + o) / d)
theorem refBoxAt_any (s : ByteArray) (b : Int) (A : Option Addr) (n c : Nat) (S : Nat → Nat → Int) (t : Int) (w : World) (hS : St w A n S) (hR : Right S n b) (hT : Has S n t) (hn : n ≤ c) (hc : c ≤ maxLen) :
    Calls Try.prog 27 #[.agg #[.string s, .int .i64 b, .slice A n c], .int .i64 t] w fun e w' => e = .returned (boxV S n b t) ∧ Below w.heap.size w w' := by
  have HS := Lib.hid hS
  have HR := Lib.hid hR
  have HT := Lib.hid hT
  have HN := Lib.hid hn
  have HC := Lib.hid hc
  clear hS hR hT hn hc
  go_enter Try.func27, Try.ntmps27
  go_wp2_with fail
  have hP := at_new (w := w.alloc (.cells #[.string s, .int .i64 b, .slice A n c] 24)) (g := w.heap.size + 1) (t := 47) (cs := #[.int .i64 0, .int .i64 0, .int .i64 0, .int .i64 0, .int .i64 0, .int .i64 0]) (by simp)
  have hb1 : Below w.heap.size w ((w.alloc (.cells #[.string s, .int .i64 b, .slice A n c] 24)).alloc (.cells #[.int .i64 0, .int .i64 0, .int .i64 0, .int .i64 0, .int .i64 0, .int .i64 0] 47)) := below_new (below_new (Below.refl _ w) (Nat.le_refl _)) (by simp)
  generalize hW1 : (w.alloc (.cells #[.string s, .int .i64 b, .slice A n c] 24)).alloc (.cells #[.int .i64 0, .int .i64 0, .int .i64 0, .int .i64 0, .int .i64 0, .int .i64 0] 47) = W1 at hP hb1 ⊢
  clear hW1
  refine (pointAt_any s b A n c S t W1 (HS.out.below hb1) HR.out HT.out HN.out HC.out).mono ?_
  rintro e w1 ⟨j, hj, hin, rfl, hbm⟩
  obtain ⟨a1, a2⟩ := HR.out.arc HT.out
  have hsame : ∀ c, loJ S b j t c = lo S n b t c ∧ hiJ S b j t c = hi S n b t c := fun c => ⟨(same_of HR.out.2.2.2.2.1 hin a1 hj a2 b c).1, (same_of HR.out.2.2.2.2.1 hin a1 hj a2 b c).2.1⟩
  obtain ⟨m1, o1, _⟩ := arc_facts HR.out hj hin (c := 1) (by omega)
  obtain ⟨m2, _⟩ := arc_facts HR.out hj hin (c := 2) (by omega)
  obtain ⟨m3, _⟩ := arc_facts HR.out hj hin (c := 3) (by omega)
  obtain ⟨p1, p2⟩ := HR.out.spn hj
  have hn1 := hsame 1
  have hn2 := hsame 2
  have hn3 := hsame 3
  unfold loJ hiJ at hn1 hn2 hn3
  rw [← off_bnd] at hn1 hn2 hn3 o1
  unfold ptV
  obtain ⟨i1, hi1⟩ : ∃ m, m = mid S j t 1 := ⟨_, rfl⟩
  obtain ⟨i2, hi2⟩ : ∃ m, m = mid S j t 2 := ⟨_, rfl⟩
  obtain ⟨i3, hi3⟩ : ∃ m, m = mid S j t 3 := ⟨_, rfl⟩
  obtain ⟨i4, hi4⟩ : ∃ m, m = mid S j t 4 := ⟨_, rfl⟩
  obtain ⟨i5, hi5⟩ : ∃ m, m = bnd S b j t := ⟨_, rfl⟩
  obtain ⟨d, hd⟩ : ∃ m, m = Go.Proofs.Ytegmjanpeaibcaa.spn S j := ⟨_, rfl⟩
  rw [← hi1, ← hi2, ← hi3, ← hi4, ← hi5, ← hd]
  rw [← hi1] at m1 hn1
  rw [← hi2] at m2 hn2
  rw [← hi3] at m3 hn3
  rw [← hi4, ← hi5] at hn1 hn2 hn3 o1
  rw [← hd] at p1 p2 hn1 hn2 hn3
  obtain ⟨o, ho0⟩ : ∃ o, o = i4 + i5 := ⟨_, rfl⟩
  rw [← ho0] at hn1 hn2 hn3 o1
  have HO0 := Lib.hid ho0
  have ho9 : IntKind.i64.wrap (i4 + i5) = i4 + i5 := IntWalk.i64_in _ (by omega)
  clear ho0
  have HN1 := Lib.hid hn1
  have HN2 := Lib.hid hn2
  have HN3 := Lib.hid hn3
  have hP1 := hP.keep hbm
  have hB1 := hb1.trans (hbm.mono hb1.size)
  clear hn1 hn2 hn3 hi1 hi2 hi3 hi4 hi5 hd hsame a1 a2 hin hj hP hb1 hbm
  have HM : Hid (∀ k, k < 3 → -2000000000000 ≤ nth i1 i2 i3 k ∧ nth i1 i2 i3 k ≤ 2000000000000) := fun k hk => by
    match k, hk with
    | 0, _ => exact m1
    | 1, _ => exact m2
    | 2, _ => exact m3
  go_wp2_with fail
  have hG := (At.new w1 135 #[.int .i64 i1, .int .i64 i2, .int .i64 i3, .int .i64 i4, .int .i64 i5, .int .i64 d]).alloc (.cells #[.int .i64 0, .int .i64 0, .int .i64 0, .int .i64 0, .int .i64 0, .int .i64 0] 47)
  have hO := at_new (w := w1.alloc (.cells #[.int .i64 i1, .int .i64 i2, .int .i64 i3, .int .i64 i4, .int .i64 i5, .int .i64 d] 135)) (g := w1.heap.size + 1) (t := 47) (cs := #[.int .i64 0, .int .i64 0, .int .i64 0, .int .i64 0, .int .i64 0, .int .i64 0]) (by simp)
  have hB2 : Below w.heap.size w ((w1.alloc (.cells #[.int .i64 i1, .int .i64 i2, .int .i64 i3, .int .i64 i4, .int .i64 i5, .int .i64 d] 135)).alloc (.cells #[.int .i64 0, .int .i64 0, .int .i64 0, .int .i64 0, .int .i64 0, .int .i64 0] 47)) := below_new (below_new hB1 hB1.size) (by have := hB1.size; simp; omega)
  have hP2 := (hP1.alloc (.cells #[.int .i64 i1, .int .i64 i2, .int .i64 i3, .int .i64 i4, .int .i64 i5, .int .i64 d] 135)).alloc (.cells #[.int .i64 0, .int .i64 0, .int .i64 0, .int .i64 0, .int .i64 0, .int .i64 0] 47)
  generalize hW2 : (w1.alloc (.cells #[.int .i64 i1, .int .i64 i2, .int .i64 i3, .int .i64 i4, .int .i64 i5, .int .i64 d] 135)).alloc (.cells #[.int .i64 0, .int .i64 0, .int .i64 0, .int .i64 0, .int .i64 0, .int .i64 0] 47) = W2 at hG hO hB2 hP2 ⊢
  have hlP := hP1.lt
  have hlw := hB1.size
  clear hW2 hP1 hB1
  have HG := Lib.hid hG
  have HO := Lib.hid hO
  have HB2 := Lib.hid hB2
  have HP2 := Lib.hid hP2
  clear hG hO hB2 hP2
  go_loopw [7] (fun i wr => ∃ k : Nat, k ≤ 3 ∧ i = .int .i64 (k : Int) ∧ At wr (w1.heap.size + 1) 47 (bc (bF2 i1 i2 i3 o d) (bG2 i1 i2 i3 o d) k) ∧ At wr w1.heap.size 135 #[.int .i64 i1, .int .i64 i2, .int .i64 i3, .int .i64 i4, .int .i64 i5, .int .i64 d] ∧ At wr (w.heap.size + 1) 47 #[.int .i64 0, .int .i64 0, .int .i64 0, .int .i64 0, .int .i64 0, .int .i64 0] ∧ Below w.heap.size w wr) (fun i _ => 3 - (intOf i).toNat)
  case atStart => exact ⟨0, by omega, rfl, HO.out, HG.out, HP2.out, HB2.out⟩
  case round =>
    obtain ⟨k, hk, rfl, ho, hg, hp, hbr⟩ := hrel
    have HOR := Lib.hid ho
    have HGR := Lib.hid hg
    have HPR := Lib.hid hp
    have HBR := Lib.hid hbr
    by_cases hlt : k < 3
    · have e1 : wr.cell? ⟨w1.heap.size, k, none⟩ = some (.int .i64 (nth i1 i2 i3 k)) := by
        rw [hg.cell k]
        match k, hlt with
        | 0, _ => rfl
        | 1, _ => rfl
        | 2, _ => rfl
      have e2 := hg.cell 3
      have e5 := hg.cell 4
      have e6 := hg.cell 5
      have e3 := (ho.cell (k * 2)).trans (bc_get _ _ hlt).1
      have e3' := (ho.cell (k * 2 + 1)).trans (bc_get _ _ hlt).2
      have e4 := ho.free (k * 2)
      have e4' := ho.free (k * 2 + 1)
      simp at e2 e5 e6
      obtain ⟨n1, n2⟩ := HM.out k hlt
      obtain ⟨a, ha⟩ : ∃ a, a = nth i1 i2 i3 k := ⟨_, rfl⟩
      have hF : bF2 i1 i2 i3 o d k = (a - (i4 + i5)) / d ∧ bG2 i1 i2 i3 o d k = -(-(a + (i4 + i5)) / d) := by rw [ha, ← HO0.out]; exact ⟨rfl, rfl⟩
      have HF := Lib.hid hF
      rw [← ha] at e1 n1 n2
      have w0 : (0 : Int) ≤ (k : Int) := by omega
      have w3 : (k : Int) < 3 := by omega
      have ho8 := HO0.out
      rw [ho8] at o1
      clear ho8
      have x1 : IntKind.i64.wrap (a - (i4 + i5)) = a - (i4 + i5) := IntWalk.i64_in _ (by omega)
      have x2 : IntKind.i64.wrap (a + (i4 + i5)) = a + (i4 + i5) := IntWalk.i64_in _ (by omega)
      have hD1 : 0 < d := by omega
      have hD2 : d ≤ 4611686018427387904 := by omega
      have hD3 : -4611686018427387904 ≤ a - (i4 + i5) ∧ a - (i4 + i5) ≤ 4611686018427387904 := by omega
      have hD4 : -4611686018427387904 ≤ a + (i4 + i5) ∧ a + (i4 + i5) ≤ 4611686018427387904 := by omega
      clear ho hg hp hbr ha hF
      go_wp2_with fail
      refine wp_region_still_tail 21 (by kernel_rfl) (by kernel_rfl) ?_
      simp only [List.take_succ_cons, List.take_zero, List.drop_succ_cons, List.drop_zero]
      repeat (first | still_step | still_call ((floor_any _ _ _ hD1 hD2 hD3).mono fun _ _ ⟨he, hw⟩ => ⟨he, hw.symm⟩) | still_call ((ceil_any _ _ _ hD1 hD2 hD4).mono fun _ _ ⟨he, hw⟩ => ⟨he, hw.symm⟩))
      try refine wpStill_nil ?_
      change wpList _ _ _ _ _ wr.drew
      have ho : At wr.drew (w1.heap.size + 1) 47 (bc (bF2 i1 i2 i3 o d) (bG2 i1 i2 i3 o d) k) := HOR.out
      have hg : At wr.drew w1.heap.size 135 #[.int .i64 i1, .int .i64 i2, .int .i64 i3, .int .i64 i4, .int .i64 i5, .int .i64 d] := HGR.out
      have hp : At wr.drew (w.heap.size + 1) 47 #[.int .i64 0, .int .i64 0, .int .i64 0, .int .i64 0, .int .i64 0, .int .i64 0] := HPR.out
      have hbr : Below w.heap.size w wr.drew := HBR.out.drew
      generalize hwz : wr.drew = wz at ho hg hp hbr ⊢
      clear hwz e1 e2 e3 e3' e4 e4' e5 e6
      have e3 := (ho.cell (k * 2)).trans (bc_get _ _ hlt).1
      have e3' := (ho.cell (k * 2 + 1)).trans (bc_get _ _ hlt).2
      have e4 := ho.free (k * 2)
      have e4' := ho.free (k * 2 + 1)
      have HOR := Lib.hid ho
      have HGR := Lib.hid hg
      have HPR := Lib.hid hp
      have HBR := Lib.hid hbr
      clear ho hg hp hbr
      go_wp2
      go_roundw
      case rel =>
        refine ⟨k + 1, by omega, by go_num, ?_, ?_, ?_, ?_⟩
        · rw [← bc_put _ _ hlt, HF.out.1, HF.out.2]
          exact (HOR.out.put (k * 2) _).put (k * 2 + 1) _
        · exact (HGR.out.far (by simp) _).far (by simp) _
        · exact (HPR.out.far (by simp; omega) _).far (by simp; omega) _
        · exact below_set (below_set HBR.out (by omega)) (by omega)
      case measure => simp [intOf]; omega
    · obtain rfl : k = 3 := by omega
      have ho2 : At wr (w1.heap.size + 1) 47 #[.int .i64 (lo S n b t 1), .int .i64 (hi S n b t 1), .int .i64 (lo S n b t 2), .int .i64 (hi S n b t 2), .int .i64 (lo S n b t 3), .int .i64 (hi S n b t 3)] := by
        rw [← HN1.out.1, ← HN1.out.2, ← HN2.out.1, ← HN2.out.2, ← HN3.out.1, ← HN3.out.2]
        exact ho
      have e0 := ho2.cell 0
      have e1 := ho2.cell 1
      have e2 := ho2.cell 2
      have e3 := ho2.cell 3
      have e4 := ho2.cell 4
      have e5 := ho2.cell 5
      simp at e0 e1 e2 e3 e4 e5
      have y0 := hp.cell 0
      have y1 := hp.cell 1
      have y2 := hp.cell 2
      have y3 := hp.cell 3
      have y4 := hp.cell 4
      have y5 := hp.cell 5
      simp at y0 y1 y2 y3 y4 y5
      have f0 := hp.free 0
      have f1 := hp.free 1
      have f2 := hp.free 2
      have f3 := hp.free 3
      have f4 := hp.free 4
      have f5 := hp.free 5
      clear ho hg hp hbr ho2
      go_wp2
      refine bodyPost_ret (v := boxV S n b t) ?h1 rfl ⟨rfl, ?_⟩
      case h1 => simp [results, Try.results27, go_sem, boxV, *]
      have hbf := HBR.out
      repeat (first | (with_reducible exact hbf) | (with_reducible refine below_set ?_ (by omega)))
end Go.Proofs.Ytegmjanpeaibcaa
