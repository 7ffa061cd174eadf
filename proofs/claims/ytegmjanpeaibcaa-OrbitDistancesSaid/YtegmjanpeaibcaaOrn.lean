/- Contracts of the reference: the nominal place and the box at a tick. -/
import Derived.Test.YtegmjanpeaibcaaOpt
namespace Go.Proofs.Ytegmjanpeaibcaa
open Go.RowKit
set_option maxHeartbeats 1600000
set_option maxRecDepth 100000

theorem ceil_any (a b : Int) (w : World) (hb : 0 < b) (hb2 : b ≤ 4611686018427387904) (ha : -4611686018427387904 ≤ a ∧ a ≤ 4611686018427387904) :
    Calls Try.prog 88 #[.int .i64 a, .int .i64 b] w fun e w' => e = .returned (.int .i64 (-(-a / b))) ∧ w = w' := by
  have hr : -4611686018427387904 ≤ -a / b ∧ -a / b ≤ 4611686018427387904 := by
    have h1 := (ediv_range (a := -a) (l := -4611686018427387904) (m := 4611686018427387904) hb (by have := Int.mul_le_mul_of_nonneg_left (show (1 : Int) ≤ b by omega) (show (0 : Int) ≤ 4611686018427387904 by omega); omega) (by have := Int.mul_le_mul_of_nonneg_left (show (1 : Int) ≤ b by omega) (show (0 : Int) ≤ 4611686018427387904 by omega); omega))
    exact h1
  obtain ⟨h1, h2⟩ := hr
  obtain ⟨ha1, ha2⟩ := ha
  have wn : IntKind.i64.wrap (-a) = -a := IntWalk.i64_in _ (by omega)
  have wm : IntKind.i64.wrap (-(-a / b)) = -(-a / b) := IntWalk.i64_in _ (by omega)
  go_enter Try.func88, Try.ntmps88
  go_wp2_with fail
  refine (floor_any (-a) b _ hb hb2 (by omega)).mono ?_
  rintro e w1 ⟨rfl, rfl⟩
  go_wp2
  go_ret
  exact ⟨rfl, rfl⟩

theorem placeOf_any (x y z : Int) (w : World) : Calls Try.prog 87 #[.agg #[.int .i64 x, .int .i64 y, .int .i64 z]] w fun e w' => e = .returned (.agg #[.int .i64 x, .int .i64 y, .int .i64 z]) ∧ Below w.heap.size w w' := by
  go_enter Try.func87, Try.ntmps87
  go_wp2
  refine bodyPost_ret (v := .agg #[.int .i64 x, .int .i64 y, .int .i64 z]) (by simp [results, Try.results87, go_sem, *]) rfl ⟨rfl, ?_⟩
  repeat (first | (with_reducible exact Below.refl _ _) | (with_reducible refine Below.drew ?_) | (with_reducible refine below_set ?_ (by first | omega | (simp; omega))) | (with_reducible refine below_new ?_ (by first | omega | (simp; done) | (simp; omega))))

def nF2 (i1 i2 i3 d : Int) (k : Nat) : Int := (2 * nth i1 i2 i3 k + d) / (2 * d)
theorem refNominal_any (s : ByteArray) (b : Int) (A : Option Addr) (n c : Nat) (S : Nat → Nat → Int) (t : Int) (w : World) (hS : St w A n S) (hR : Right S n b) (hT : Has S n t) (hn : n ≤ c) (hc : c ≤ maxLen) :
    Calls Try.prog 26 #[.agg #[.string s, .int .i64 b, .slice A n c], .int .i64 t] w fun e w' => e = .returned (noV S n t) ∧ Below w.heap.size w w' := by
  have HS := Lib.hid hS
  have HR := Lib.hid hR
  have HT := Lib.hid hT
  have HN := Lib.hid hn
  have HC := Lib.hid hc
  clear hS hR hT hn hc
  go_enter Try.func26, Try.ntmps26
  go_wp2_with fail
  have hP := at_new (w := w.alloc (.cells #[.string s, .int .i64 b, .slice A n c] 24)) (g := w.heap.size + 1) (t := 42) (cs := #[.int .i64 0, .int .i64 0, .int .i64 0]) (by simp)
  have hb1 : Below w.heap.size w ((w.alloc (.cells #[.string s, .int .i64 b, .slice A n c] 24)).alloc (.cells #[.int .i64 0, .int .i64 0, .int .i64 0] 42)) := below_new (below_new (Below.refl _ w) (Nat.le_refl _)) (by simp)
  generalize hW1 : (w.alloc (.cells #[.string s, .int .i64 b, .slice A n c] 24)).alloc (.cells #[.int .i64 0, .int .i64 0, .int .i64 0] 42) = W1 at hP hb1 ⊢
  clear hW1
  refine (pointAt_any s b A n c S t W1 (HS.out.below hb1) HR.out HT.out HN.out HC.out).mono ?_
  rintro e w1 ⟨j, hj, hin, rfl, hbm⟩
  obtain ⟨a1, a2⟩ := HR.out.arc HT.out
  have hsame : ∀ c, noJ S j t c = no S n t c := fun c => (same_of HR.out.2.2.2.2.1 hin a1 hj a2 b c).2.2
  obtain ⟨m1, _⟩ := arc_facts HR.out hj hin (c := 1) (by omega)
  obtain ⟨m2, _⟩ := arc_facts HR.out hj hin (c := 2) (by omega)
  obtain ⟨m3, _⟩ := arc_facts HR.out hj hin (c := 3) (by omega)
  obtain ⟨p1, p2⟩ := HR.out.spn hj
  have hn1 := hsame 1
  have hn2 := hsame 2
  have hn3 := hsame 3
  unfold noJ at hn1 hn2 hn3
  unfold ptV
  obtain ⟨i1, hi1⟩ : ∃ m, m = mid S j t 1 := ⟨_, rfl⟩
  obtain ⟨i2, hi2⟩ : ∃ m, m = mid S j t 2 := ⟨_, rfl⟩
  obtain ⟨i3, hi3⟩ : ∃ m, m = mid S j t 3 := ⟨_, rfl⟩
  obtain ⟨i4, hi4⟩ : ∃ m, m = mid S j t 4 := ⟨_, rfl⟩
  obtain ⟨i5, hi5⟩ : ∃ m, m = bnd S b j t := ⟨_, rfl⟩
  obtain ⟨d, hd⟩ : ∃ m, m = Go.Proofs.Ytegmjanpeaibcaa.spn S j := ⟨_, rfl⟩
  rw [← hi1, ← hi2, ← hi3, ← hi4, ← hi5, ← hd]
  rw [← hi1] at m1 hn1
  rw [← hi2] at m2 hn2
  rw [← hi3] at m3 hn3
  rw [← hd] at p1 p2 hn1 hn2 hn3
  have HN1 := Lib.hid hn1
  have HN2 := Lib.hid hn2
  have HN3 := Lib.hid hn3
  have hP1 := hP.keep hbm
  have hB1 := hb1.trans (hbm.mono hb1.size)
  clear hn1 hn2 hn3 hi1 hi2 hi3 hi4 hi5 hd hsame a1 a2 hin hj hP hb1 hbm
  have HM : Hid (∀ k, k < 3 → -2000000000000 ≤ nth i1 i2 i3 k ∧ nth i1 i2 i3 k ≤ 2000000000000) := fun k hk => by
    match k, hk with
    | 0, _ => exact m1
    | 1, _ => exact m2
    | 2, _ => exact m3
  go_wp2_with fail
  have hG := (At.new w1 135 #[.int .i64 i1, .int .i64 i2, .int .i64 i3, .int .i64 i4, .int .i64 i5, .int .i64 d]).alloc (.cells #[.int .i64 0, .int .i64 0, .int .i64 0] 84)
  have hO := at_new (w := w1.alloc (.cells #[.int .i64 i1, .int .i64 i2, .int .i64 i3, .int .i64 i4, .int .i64 i5, .int .i64 d] 135)) (g := w1.heap.size + 1) (t := 84) (cs := #[.int .i64 0, .int .i64 0, .int .i64 0]) (by simp)
  have hB2 : Below w.heap.size w ((w1.alloc (.cells #[.int .i64 i1, .int .i64 i2, .int .i64 i3, .int .i64 i4, .int .i64 i5, .int .i64 d] 135)).alloc (.cells #[.int .i64 0, .int .i64 0, .int .i64 0] 84)) := below_new (below_new hB1 hB1.size) (by have := hB1.size; simp; omega)
  have hP2 := (hP1.alloc (.cells #[.int .i64 i1, .int .i64 i2, .int .i64 i3, .int .i64 i4, .int .i64 i5, .int .i64 d] 135)).alloc (.cells #[.int .i64 0, .int .i64 0, .int .i64 0] 84)
  generalize hW2 : (w1.alloc (.cells #[.int .i64 i1, .int .i64 i2, .int .i64 i3, .int .i64 i4, .int .i64 i5, .int .i64 d] 135)).alloc (.cells #[.int .i64 0, .int .i64 0, .int .i64 0] 84) = W2 at hG hO hB2 hP2 ⊢
  have hlP := hP1.lt
  have hlw := hB1.size
  clear hW2 hP1 hB1
  have HG := Lib.hid hG
  have HO := Lib.hid hO
  have HB2 := Lib.hid hB2
  have HP2 := Lib.hid hP2
  clear hG hO hB2 hP2
  go_loopw [7] (fun i wr => ∃ k : Nat, k ≤ 3 ∧ i = .int .i64 (k : Int) ∧ At wr (w1.heap.size + 1) 84 (nc (nF2 i1 i2 i3 d) k) ∧ At wr w1.heap.size 135 #[.int .i64 i1, .int .i64 i2, .int .i64 i3, .int .i64 i4, .int .i64 i5, .int .i64 d] ∧ At wr (w.heap.size + 1) 42 #[.int .i64 0, .int .i64 0, .int .i64 0] ∧ Below w.heap.size w wr) (fun i _ => 3 - (intOf i).toNat)
  case atStart => exact ⟨0, by omega, rfl, HO.out, HG.out, HP2.out, HB2.out⟩
  case round =>
    obtain ⟨k, hk, rfl, ho, hg, hp, hbr⟩ := hrel
    have HOR := Lib.hid ho
    have HGR := Lib.hid hg
    have HPR := Lib.hid hp
    have HBR := Lib.hid hbr
    by_cases hlt : k < 3
    · have e1 : wr.cell? ⟨w1.heap.size, k, none⟩ = some (.int .i64 (nth i1 i2 i3 k)) := by
        rw [hg.cell k]
        match k, hlt with
        | 0, _ => rfl
        | 1, _ => rfl
        | 2, _ => rfl
      have e2 := hg.cell 5
      have e3 := (ho.cell k).trans (nc_get _ hlt)
      have e4 := ho.free k
      simp at e2
      obtain ⟨n1, n2⟩ := HM.out k hlt
      obtain ⟨a, ha⟩ : ∃ a, a = nth i1 i2 i3 k := ⟨_, rfl⟩
      have hF : nF2 i1 i2 i3 d k = (2 * a + d) / (2 * d) := by rw [ha]; rfl
      have HF := Lib.hid hF
      rw [← ha] at e1 n1 n2
      have w0 : (0 : Int) ≤ (k : Int) := by omega
      have w3 : (k : Int) < 3 := by omega
      have x1 : IntKind.i64.wrap (2 * a) = 2 * a := IntWalk.i64_in _ (by omega)
      have x2 : IntKind.i64.wrap (2 * a + d) = 2 * a + d := IntWalk.i64_in _ (by omega)
      have x3 : IntKind.i64.wrap (2 * d) = 2 * d := IntWalk.i64_in _ (by omega)
      have hD1 : 0 < 2 * d := by omega
      have hD2 : 2 * d ≤ 4611686018427387904 := by omega
      have hD3 : -4611686018427387904 ≤ 2 * a + d ∧ 2 * a + d ≤ 4611686018427387904 := by omega
      clear ho hg hp hbr ha hF
      go_wp2_with fail
      go_region_with (go_at_call 48; (with_reducible refine (floor_any _ _ _ hD1 hD2 hD3).mono ?_); rintro e w' ⟨rfl, rfl⟩)
      all_goals
        go_wp2
        go_roundw
        case rel =>
          refine ⟨k + 1, by omega, by go_num, ?_, ?_, ?_, ?_⟩
          · rw [← HF.out, ← nc_put _ hlt]
            exact HOR.out.put k _
          · exact HGR.out.far (by simp) _
          · exact HPR.out.far (by simp; omega) _
          · exact below_set HBR.out.drew (by omega)
        case measure => simp [intOf]; omega
    · obtain rfl : k = 3 := by omega
      have ho2 : At wr (w1.heap.size + 1) 84 #[.int .i64 (no S n t 1), .int .i64 (no S n t 2), .int .i64 (no S n t 3)] := by
        rw [← HN1.out, ← HN2.out, ← HN3.out]
        exact ho
      have e0 := ho2.cell 0
      have e1 := ho2.cell 1
      have e2 := ho2.cell 2
      simp at e0 e1 e2
      clear ho hg hp hbr ho2
      go_wp2_with fail
      refine (placeOf_any _ _ _ wr).mono ?_
      rintro e w3 ⟨rfl, hb3⟩
      have hp3 := HPR.out.keep hb3
      have y0 := hp3.cell 0
      have y1 := hp3.cell 1
      have y2 := hp3.cell 2
      simp at y0 y1 y2
      have f0 := hp3.free 0
      have f1 := hp3.free 1
      have f2 := hp3.free 2
      have hbf := HBR.out.trans (hb3.mono HBR.out.size)
      have HBF := Lib.hid hbf
      clear hp3 hb3 hbf e0 e1 e2
      go_wp2
      refine bodyPost_ret (v := noV S n t) ?h1 rfl ⟨rfl, ?_⟩
      case h1 => simp [results, Try.results26, go_sem, noV, *]
      have hbf := HBF.out
      repeat (first | (with_reducible exact hbf) | (with_reducible refine below_set ?_ (by omega)))
end Go.Proofs.Ytegmjanpeaibcaa
