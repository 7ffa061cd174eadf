/- Contracts of package orbit: the nominal place at a tick. -/
import Derived.Test.YtnaanninmkplfaaObx
namespace Go.Proofs.Ytnaanninmkplfaa
open Go.RowKit
set_option maxHeartbeats 400000
set_option maxRecDepth 100000

def noV (S : Nat → Nat → Int) (n : Nat) (t : Int) : Value := .agg #[.int .i64 (no S n t 1), .int .i64 (no S n t 2), .int .i64 (no S n t 3)]
def nF (x0 x1 x2 x3 y0 y1 y2 y3 t : Int) (k : Nat) : Int := (2 * (nth x1 x2 x3 k * (y0 - x0) + (nth y1 y2 y3 k - nth x1 x2 x3 k) * (t - x0)) + (y0 - x0)) / (2 * (y0 - x0))
/-- a place of which the first k numbers are laid -/
def nc (F : Nat → Int) (k : Nat) : Array Value := #[.int .i64 (if 0 < k then F 0 else 0), .int .i64 (if 1 < k then F 1 else 0), .int .i64 (if 2 < k then F 2 else 0)]
theorem nc_get (F : Nat → Int) {k : Nat} (h : k < 3) : (nc F k)[k]? = some (.int .i64 0) := by
  match k, h with
  | 0, _ => rfl
  | 1, _ => rfl
  | 2, _ => rfl
theorem nc_put (F : Nat → Int) {k : Nat} (h : k < 3) : (nc F k).setIfInBounds k (.int .i64 (F k)) = nc F (k + 1) := by
  match k, h with
  | 0, _ => rfl
  | 1, _ => rfl
  | 2, _ => rfl

theorem no_nums {S : Nat → Nat → Int} {n j : Nat} {b t x0 x1 x2 x3 x4 y0 y1 y2 y3 y4 : Int} (hR : Right S n b) (hT : Has S n t) (hj : j + 1 < n) (hI : In S j t)
    (hX : (x0 = S j 0 ∧ x1 = S j 1 ∧ x2 = S j 2 ∧ x3 = S j 3 ∧ x4 = S j 4) ∧ y0 = S (j + 1) 0 ∧ y1 = S (j + 1) 1 ∧ y2 = S (j + 1) 2 ∧ y3 = S (j + 1) 3 ∧ y4 = S (j + 1) 4) :
    (∀ k, k < 3 → (-100000000 ≤ nth x1 x2 x3 k ∧ nth x1 x2 x3 k ≤ 100000000) ∧ (-100000000 ≤ nth y1 y2 y3 k ∧ nth y1 y2 y3 k ≤ 100000000) ∧
      (-2000000000000 ≤ nth x1 x2 x3 k * (y0 - x0) + (nth y1 y2 y3 k - nth x1 x2 x3 k) * (t - x0) ∧ nth x1 x2 x3 k * (y0 - x0) + (nth y1 y2 y3 k - nth x1 x2 x3 k) * (t - x0) ≤ 2000000000000) ∧ 0 < y0 - x0) ∧
    ∀ k, k < 3 → nF x0 x1 x2 x3 y0 y1 y2 y3 t k = no S n t (k + 1) := by
  obtain ⟨⟨h0, h1, h2, h3, h4⟩, f0, f1, f2, f3, f4⟩ := hX
  have hsp : Go.Proofs.Ytnaanninmkplfaa.spn S j = y0 - x0 := by rw [h0, f0]; rfl
  have hmid : ∀ k, k < 3 → mid S j t (k + 1) = nth x1 x2 x3 k * (y0 - x0) + (nth y1 y2 y3 k - nth x1 x2 x3 k) * (t - x0) := by
    intro k hk
    match k, hk with
    | 0, _ => rw [show nth x1 x2 x3 0 = x1 from rfl, show nth y1 y2 y3 0 = y1 from rfl, h1, f1, h0, f0]; rfl
    | 1, _ => rw [show nth x1 x2 x3 1 = x2 from rfl, show nth y1 y2 y3 1 = y2 from rfl, h2, f2, h0, f0]; rfl
    | 2, _ => rw [show nth x1 x2 x3 2 = x3 from rfl, show nth y1 y2 y3 2 = y3 from rfl, h3, f3, h0, f0]; rfl
  obtain ⟨a1, a2⟩ := hR.arc hT
  refine ⟨fun k hk => ?_, fun k hk => ?_⟩
  · obtain ⟨⟨m1, m2⟩, _⟩ := arc_facts hR hj hI (c := k + 1) (by omega)
    obtain ⟨s1, _⟩ := hR.st (j := j) (c := k + 1) (by omega) (by omega)
    obtain ⟨s2, _⟩ := hR.st (j := j + 1) (c := k + 1) hj (by omega)
    obtain ⟨p1, p2⟩ := hR.spn hj
    rw [hmid k hk] at m1 m2
    rw [hsp] at p1
    have e1 : nth x1 x2 x3 k = S j (k + 1) := by
      match k, hk with
      | 0, _ => exact h1
      | 1, _ => exact h2
      | 2, _ => exact h3
    have e2 : nth y1 y2 y3 k = S (j + 1) (k + 1) := by
      match k, hk with
      | 0, _ => exact f1
      | 1, _ => exact f2
      | 2, _ => exact f3
    exact ⟨e1 ▸ s1, e2 ▸ s2, ⟨m1, m2⟩, by omega⟩
  · obtain ⟨_, _, g3⟩ := same_of hR.2.2.2.2.1 hI a1 hj a2 b (k + 1)
    show _ = noJ S _ t (k + 1)
    rw [← g3]
    unfold noJ nF
    rw [hmid k hk, hsp]

theorem nominal_any (s : ByteArray) (b : Int) (A : Option Addr) (n c : Nat) (S : Nat → Nat → Int) (t : Int) (w : World) (hS : St w A n S) (hR : Right S n b) (hT : Has S n t) (hn : n ≤ c) (hc : c ≤ maxLen) :
    Calls Try.prog 87 #[.agg #[.string s, .int .i64 b, .slice A n c], .int .i64 t] w fun e w' => e = .returned (noV S n t) ∧ Below w.heap.size w w' := by
  have HS := Lib.hid hS
  have HR := Lib.hid hR
  have HT := Lib.hid hT
  have HN := Lib.hid hn
  have HC := Lib.hid hc
  clear hS hR hT hn hc
  go_enter Try.func87, Try.ntmps87
  go_wp2_with fail
  have hA1 := (At.new w 126 #[.string s, .int .i64 b, .slice A n c]).alloc (.cells #[.int .i64 0, .int .i64 0, .int .i64 0] 42)
  have hA2 := at_new (w := w.alloc (.cells #[.string s, .int .i64 b, .slice A n c] 126)) (g := w.heap.size + 1) (t := 42) (cs := #[.int .i64 0, .int .i64 0, .int .i64 0]) (by simp)
  have hb1 : Below w.heap.size w ((w.alloc (.cells #[.string s, .int .i64 b, .slice A n c] 126)).alloc (.cells #[.int .i64 0, .int .i64 0, .int .i64 0] 42)) := below_new (below_new (Below.refl _ w) (Nat.le_refl _)) (by simp)
  generalize hW1 : (w.alloc (.cells #[.string s, .int .i64 b, .slice A n c] 126)).alloc (.cells #[.int .i64 0, .int .i64 0, .int .i64 0] 42) = W1 at hA1 hA2 hb1 ⊢
  clear hW1
  refine (moment_any s b b A n c S t W1 (HS.out.below hb1) HR.out HT.out HN.out HC.out).mono ?_
  rintro e w1 ⟨j, hj, hin, rfl, hbm⟩
  obtain ⟨x0, hx0⟩ : ∃ x, x = S j 0 := ⟨_, rfl⟩
  obtain ⟨x1, hx1⟩ : ∃ x, x = S j 1 := ⟨_, rfl⟩
  obtain ⟨x2, hx2⟩ : ∃ x, x = S j 2 := ⟨_, rfl⟩
  obtain ⟨x3, hx3⟩ : ∃ x, x = S j 3 := ⟨_, rfl⟩
  obtain ⟨x4, hx4⟩ : ∃ x, x = S j 4 := ⟨_, rfl⟩
  obtain ⟨y0, hy0⟩ : ∃ x, x = S (j + 1) 0 := ⟨_, rfl⟩
  obtain ⟨y1, hy1⟩ : ∃ x, x = S (j + 1) 1 := ⟨_, rfl⟩
  obtain ⟨y2, hy2⟩ : ∃ x, x = S (j + 1) 2 := ⟨_, rfl⟩
  obtain ⟨y3, hy3⟩ : ∃ x, x = S (j + 1) 3 := ⟨_, rfl⟩
  obtain ⟨y4, hy4⟩ : ∃ x, x = S (j + 1) 4 := ⟨_, rfl⟩
  have hm : mV S j t = .agg #[.int .i64 x0, .int .i64 x1, .int .i64 x2, .int .i64 x3, .int .i64 x4, .int .i64 y0, .int .i64 y1, .int .i64 y2, .int .i64 y3, .int .i64 y4, .int .i64 t] := by
    rw [mV, ← hx0, ← hx1, ← hx2, ← hx3, ← hx4, ← hy0, ← hy1, ← hy2, ← hy3, ← hy4]
  rw [hm]
  have HX : Hid ((x0 = S j 0 ∧ x1 = S j 1 ∧ x2 = S j 2 ∧ x3 = S j 3 ∧ x4 = S j 4) ∧ y0 = S (j + 1) 0 ∧ y1 = S (j + 1) 1 ∧ y2 = S (j + 1) 2 ∧ y3 = S (j + 1) 3 ∧ y4 = S (j + 1) 4) := ⟨⟨hx0, hx1, hx2, hx3, hx4⟩, hy0, hy1, hy2, hy3, hy4⟩
  have HI := Lib.hid hin
  clear hm hx0 hx1 hx2 hx3 hx4 hy0 hy1 hy2 hy3 hy4 hin
  have hA1' := hA1.keep hbm
  have hA2' := hA2.keep hbm
  have hb1' : Below w.heap.size w w1 := hb1.trans (hbm.mono hb1.size)
  have hz1 : w.heap.size < W1.heap.size := hA1.lt
  have hz2 : w.heap.size + 1 < W1.heap.size := hA2.lt
  have hz3 : w.heap.size + 1 < w1.heap.size := hA2'.lt
  clear hA1 hA2 hb1 hbm
  have HA1 := Lib.hid hA1'
  have HA2 := Lib.hid hA2'
  have HB1 := Lib.hid hb1'
  clear hA1' hA2' hb1'
  go_wp2_with fail
  have hA3 := At.new w1 162 #[.int .i64 x0, .int .i64 x1, .int .i64 x2, .int .i64 x3, .int .i64 x4, .int .i64 y0, .int .i64 y1, .int .i64 y2, .int .i64 y3, .int .i64 y4, .int .i64 t]
  have hb2 : Below w1.heap.size w1 _ := below_new (Below.refl _ w1) (Nat.le_refl _) (o := .cells #[.int .i64 x0, .int .i64 x1, .int .i64 x2, .int .i64 x3, .int .i64 x4, .int .i64 y0, .int .i64 y1, .int .i64 y2, .int .i64 y3, .int .i64 y4, .int .i64 t] 162)
  generalize hW2 : w1.alloc (.cells #[.int .i64 x0, .int .i64 x1, .int .i64 x2, .int .i64 x3, .int .i64 x4, .int .i64 y0, .int .i64 y1, .int .i64 y2, .int .i64 y3, .int .i64 y4, .int .i64 t] 162) = W2 at hA3 hb2 ⊢
  clear hW2
  have hz4 : w1.heap.size < W2.heap.size := hA3.lt
  have hz4a : w1.heap.size < W2.heap.size + 1 := by omega
  have hz4b : w1.heap.size < W2.heap.size + 1 + 1 := by omega
  have hz4c : w1.heap.size < W2.heap.size + 1 + 1 + 1 := by omega
  have hz4d : w1.heap.size < W2.heap.size + 1 + 1 + 1 + 1 := by omega
  have hz4e : w1.heap.size < W2.heap.size + 1 + 1 + 1 + 1 + 1 := by omega
  have hz4f : w1.heap.size < W2.heap.size + 1 + 1 + 1 + 1 + 1 + 1 := by omega
  have r1 := hA3.cell 1
  have r2 := hA3.cell 2
  have r3 := hA3.cell 3
  have r6 := hA3.cell 6
  have r7 := hA3.cell 7
  have r8 := hA3.cell 8
  simp at r1 r2 r3 r6 r7 r8
  have hSS : ∀ w', Below W2.heap.size W2 w' → w'.cell? ⟨w1.heap.size, 1, none⟩ = some (.int .i64 x1) ∧ w'.cell? ⟨w1.heap.size, 2, none⟩ = some (.int .i64 x2) ∧ w'.cell? ⟨w1.heap.size, 3, none⟩ = some (.int .i64 x3) ∧ w'.cell? ⟨w1.heap.size, 6, none⟩ = some (.int .i64 y1) ∧ w'.cell? ⟨w1.heap.size, 7, none⟩ = some (.int .i64 y2) ∧ w'.cell? ⟨w1.heap.size, 8, none⟩ = some (.int .i64 y3) := fun w' hW => by
    have q := hA3.keep hW
    exact ⟨q.cell 1, q.cell 2, q.cell 3, q.cell 6, q.cell 7, q.cell 8⟩
  have HSS := Lib.hid hSS
  clear hSS
  have HB2 := Lib.hid hb2
  have HA3 := Lib.hid hA3
  clear hb2 hA3
  go_upto_region 2 with fail
  go_cut [6, 7] (fun s6 s7 wx => ∃ g6 g7 : Nat, s6 = .pointer (some ⟨g6, 0, none⟩) ∧ s7 = .pointer (some ⟨g7, 0, none⟩) ∧ V3 wx g6 x1 x2 x3 ∧ V3 wx g7 y1 y2 y3 ∧ Below W2.heap.size W2 wx)
  case first =>
    go_region_held3 (fun w' => w'.cell? ⟨w1.heap.size, 1, none⟩ = some (.int .i64 x1) ∧ w'.cell? ⟨w1.heap.size, 2, none⟩ = some (.int .i64 x2) ∧ w'.cell? ⟨w1.heap.size, 3, none⟩ = some (.int .i64 x3) ∧ w'.cell? ⟨w1.heap.size, 6, none⟩ = some (.int .i64 y1) ∧ w'.cell? ⟨w1.heap.size, 7, none⟩ = some (.int .i64 y2) ∧ w'.cell? ⟨w1.heap.size, 8, none⟩ = some (.int .i64 y3)) (first | (refine HSS.out _ ?_; (repeat (first | (with_reducible exact Below.refl _ _) | (with_reducible refine Below.drew ?_) | (with_reducible refine below_drewNs ?_) | (with_reducible refine below_set ?_ (by first | omega | (simp; omega))) | (with_reducible refine below_new ?_ (by first | omega | (simp; done) | (simp; omega))))); done) | go_keep)
      (first
        | (go_at_call 128; (with_reducible refine (coordinates_eq _ _ _ _).mono ?_); rintro e w' ⟨rfl, rfl⟩))
    all_goals
      go_wp2_with fail
      go_meet
      refine ⟨_, _, rfl, rfl, v3_drew ?_, v3_drew ?_, ?_⟩
      · repeat (first | ((refine v3_new ?_); simp; done) | refine v3_alloc ?_)
      · repeat (first | ((refine v3_new ?_); simp; done) | refine v3_alloc ?_)
      · repeat (first | (with_reducible exact Below.refl _ _) | (with_reducible refine Below.drew ?_) | (with_reducible refine below_new ?_ (by first | omega | (simp; done) | (simp; omega))))
  case rest =>
    obtain ⟨g6, g7, rfl, rfl, hv6, hv7, hbx⟩ := hcut
    have hAm := HA3.out.keep hbx
    have hw1 : Below w1.heap.size w1 wc := HB2.out.trans (hbx.mono HB2.out.size)
    have q0 := hAm.cell 0
    have q1 := hAm.cell 1
    have q2 := hAm.cell 2
    have q3 := hAm.cell 3
    have q4 := hAm.cell 4
    have q5 := hAm.cell 5
    have q6 := hAm.cell 6
    have q7 := hAm.cell 7
    have q8 := hAm.cell 8
    have q9 := hAm.cell 9
    have q10 := hAm.cell 10
    simp at q0 q1 q2 q3 q4 q5 q6 q7 q8 q9 q10
    have HV6 := Lib.hid hv6
    have HV7 := Lib.hid hv7
    have HAM := Lib.hid hAm
    have HW1 := Lib.hid hw1
    clear hv6 hv7 hAm hw1 hbx r1 r2 r3 r6 r7 r8
    have hF := box_nums HR.out hj HI.out HX.out
    obtain ⟨d1, d2, _, _⟩ := hF
    have hlo := no_nums HR.out HT.out hj HI.out HX.out
    have HLO := Lib.hid hlo
    have hA28 := HA2.out.keep HW1.out
    have HA28 := Lib.hid hA28
    have HB8 := Lib.hid (HB1.out.trans (HW1.out.mono HB1.out.size))
    have hz8 : w.heap.size + 1 < wc.heap.size := hA28.lt
    have hz8' : w1.heap.size < wc.heap.size := HAM.out.lt
    clear hlo hA28 q0 q1 q2 q3 q4 q5 q6 q7 q8 q9 q10
    go_wp2_with fail
    go_loopw [21] (fun i wr => ∃ k : Nat, k ≤ 3 ∧ i = .int .i64 (k : Int) ∧ At wr wc.heap.size 84 (nc (nF x0 x1 x2 x3 y0 y1 y2 y3 t) k) ∧ Below wc.heap.size wc wr) (fun i _ => 3 - (intOf i).toNat)
    case atStart => exact ⟨0, by omega, rfl, at_new rfl, below_new (Below.refl _ _) (Nat.le_refl _)⟩
    case round =>
      obtain ⟨k, hk, rfl, hAr, hwr⟩ := hrel
      have HAR := Lib.hid hAr
      have HWR := Lib.hid hwr
      have hzr : wc.heap.size < wr.heap.size := hAr.lt
      by_cases hlt : k < 3
      · have hAm := HAM.out.keep hwr
        have e6 := v3_nth (v3_below HV6.out hwr) hlt
        have e7 := v3_nth (v3_below HV7.out hwr) hlt
        have hnum := (HLO.out.1 k hlt)
        obtain ⟨a, ha⟩ : ∃ a, a = nth x1 x2 x3 k := ⟨_, rfl⟩
        obtain ⟨a', ha'⟩ : ∃ a, a = nth y1 y2 y3 k := ⟨_, rfl⟩
        rw [← ha] at e6 hnum
        rw [← ha'] at e7 hnum
        obtain ⟨n1, n2, ⟨n3, n4⟩, n7⟩ := hnum
        obtain ⟨m, hm⟩ : ∃ m, m = a * (y0 - x0) + (a' - a) * (t - x0) := ⟨_, rfl⟩
        have hFk : Hid (nF x0 x1 x2 x3 y0 y1 y2 y3 t k = (2 * m + (y0 - x0)) / (2 * (y0 - x0))) := by
          unfold nF; rw [← ha, ← ha', ← hm]; rfl
        rw [← hm] at n3 n4
        have q0 := hAm.cell 0
        have q1 := hAm.cell 1
        have q2 := hAm.cell 2
        have q3 := hAm.cell 3
        have q4 := hAm.cell 4
        have q5 := hAm.cell 5
        have q6 := hAm.cell 6
        have q7 := hAm.cell 7
        have q8 := hAm.cell 8
        have q9 := hAm.cell 9
        have q10 := hAm.cell 10
        simp at q0 q1 q2 q3 q4 q5 q6 q7 q8 q9 q10
        have u0 : (0 : Int) ≤ (k : Int) := by omega
        have u1 : (k : Int) < 3 := by omega
        have HAM9 := Lib.hid hAm
        have b1 := nc_get (nF x0 x1 x2 x3 y0 y1 y2 y3 t) hlt
        have hSS9 : ∀ w', Below wr.heap.size wr w' → w'.cell? ⟨w1.heap.size, 0, none⟩ = some (.int .i64 x0) ∧ w'.cell? ⟨w1.heap.size, 1, none⟩ = some (.int .i64 x1) ∧ w'.cell? ⟨w1.heap.size, 2, none⟩ = some (.int .i64 x2) ∧ w'.cell? ⟨w1.heap.size, 3, none⟩ = some (.int .i64 x3) ∧ w'.cell? ⟨w1.heap.size, 4, none⟩ = some (.int .i64 x4) ∧ w'.cell? ⟨w1.heap.size, 5, none⟩ = some (.int .i64 y0) ∧ w'.cell? ⟨w1.heap.size, 6, none⟩ = some (.int .i64 y1) ∧ w'.cell? ⟨w1.heap.size, 7, none⟩ = some (.int .i64 y2) ∧ w'.cell? ⟨w1.heap.size, 8, none⟩ = some (.int .i64 y3) ∧ w'.cell? ⟨w1.heap.size, 9, none⟩ = some (.int .i64 y4) ∧ w'.cell? ⟨w1.heap.size, 10, none⟩ = some (.int .i64 t) ∧ w'.cell? ⟨g6, k, none⟩ = some (.int .i64 a) ∧ w'.cell? ⟨g7, k, none⟩ = some (.int .i64 a') := fun w' hW => by
          have q := HAM9.out.keep hW
          exact ⟨q.cell 0, q.cell 1, q.cell 2, q.cell 3, q.cell 4, q.cell 5, q.cell 6, q.cell 7, q.cell 8, q.cell 9, q.cell 10, (hW.cell (p := ⟨g6, k, none⟩) (lt_cell e6)).trans e6, (hW.cell (p := ⟨g7, k, none⟩) (lt_cell e7)).trans e7⟩
        have hSZ : ∀ w', Below wr.heap.size wr w' → w'.cell? ⟨wc.heap.size, k, none⟩ = some (.int .i64 0) ∧ w'.frozen? ⟨wc.heap.size, k, none⟩ = false := fun w' hW => by
          have r := HAR.out.keep hW
          exact ⟨(r.cell _).trans b1, r.free _⟩
        have hP9 : ∀ W : World, Below wr.heap.size wr W → Calls Try.prog 130 #[.agg #[.int .i64 x0, .int .i64 x1, .int .i64 x2, .int .i64 x3, .int .i64 x4, .int .i64 y0, .int .i64 y1, .int .i64 y2, .int .i64 y3, .int .i64 y4, .int .i64 t], .int .i64 a, .int .i64 a'] W fun e w' => e = .returned (.int .i64 m) ∧ Below wr.heap.size wr w' ∧ (w'.cell? ⟨wc.heap.size, k, none⟩ = some (.int .i64 0) ∧ w'.frozen? ⟨wc.heap.size, k, none⟩ = false) ∧ w'.cell? ⟨w1.heap.size, 0, none⟩ = some (.int .i64 x0) ∧ w'.cell? ⟨w1.heap.size, 1, none⟩ = some (.int .i64 x1) ∧ w'.cell? ⟨w1.heap.size, 2, none⟩ = some (.int .i64 x2) ∧ w'.cell? ⟨w1.heap.size, 3, none⟩ = some (.int .i64 x3) ∧ w'.cell? ⟨w1.heap.size, 4, none⟩ = some (.int .i64 x4) ∧ w'.cell? ⟨w1.heap.size, 5, none⟩ = some (.int .i64 y0) ∧ w'.cell? ⟨w1.heap.size, 6, none⟩ = some (.int .i64 y1) ∧ w'.cell? ⟨w1.heap.size, 7, none⟩ = some (.int .i64 y2) ∧ w'.cell? ⟨w1.heap.size, 8, none⟩ = some (.int .i64 y3) ∧ w'.cell? ⟨w1.heap.size, 9, none⟩ = some (.int .i64 y4) ∧ w'.cell? ⟨w1.heap.size, 10, none⟩ = some (.int .i64 t) ∧ w'.cell? ⟨g6, k, none⟩ = some (.int .i64 a) ∧ w'.cell? ⟨g7, k, none⟩ = some (.int .i64 a') := by
          intro W hW
          refine (between_any x0 x1 x2 x3 x4 y0 y1 y2 y3 y4 t a a' W d1 d2 n1 n2).mono ?_
          rw [← hm]
          rintro e w' ⟨rfl, hb⟩
          have hB := hW.trans (hb.mono hW.size)
          exact ⟨rfl, hB, hSZ _ hB, hSS9 _ hB⟩
        have hP10 : ∀ W : World, Below wr.heap.size wr W → Calls Try.prog 131 #[.agg #[.int .i64 x0, .int .i64 x1, .int .i64 x2, .int .i64 x3, .int .i64 x4, .int .i64 y0, .int .i64 y1, .int .i64 y2, .int .i64 y3, .int .i64 y4, .int .i64 t]] W fun e w' => e = .returned (.int .i64 (y0 - x0)) ∧ Below wr.heap.size wr w' ∧ (w'.cell? ⟨wc.heap.size, k, none⟩ = some (.int .i64 0) ∧ w'.frozen? ⟨wc.heap.size, k, none⟩ = false) ∧ w'.cell? ⟨w1.heap.size, 0, none⟩ = some (.int .i64 x0) ∧ w'.cell? ⟨w1.heap.size, 1, none⟩ = some (.int .i64 x1) ∧ w'.cell? ⟨w1.heap.size, 2, none⟩ = some (.int .i64 x2) ∧ w'.cell? ⟨w1.heap.size, 3, none⟩ = some (.int .i64 x3) ∧ w'.cell? ⟨w1.heap.size, 4, none⟩ = some (.int .i64 x4) ∧ w'.cell? ⟨w1.heap.size, 5, none⟩ = some (.int .i64 y0) ∧ w'.cell? ⟨w1.heap.size, 6, none⟩ = some (.int .i64 y1) ∧ w'.cell? ⟨w1.heap.size, 7, none⟩ = some (.int .i64 y2) ∧ w'.cell? ⟨w1.heap.size, 8, none⟩ = some (.int .i64 y3) ∧ w'.cell? ⟨w1.heap.size, 9, none⟩ = some (.int .i64 y4) ∧ w'.cell? ⟨w1.heap.size, 10, none⟩ = some (.int .i64 t) ∧ w'.cell? ⟨g6, k, none⟩ = some (.int .i64 a) ∧ w'.cell? ⟨g7, k, none⟩ = some (.int .i64 a') := by
          intro W hW
          refine (span_any x0 x1 x2 x3 x4 y0 y1 y2 y3 y4 t W ⟨d1.1, by omega⟩).mono ?_
          rintro e w' ⟨rfl, hb⟩
          have hB := hW.trans (hb.mono hW.size)
          exact ⟨rfl, hB, hSZ _ hB, hSS9 _ hB⟩
        have v1 : IntKind.i64.wrap (2 * m) = 2 * m := IntWalk.i64_in _ (by omega)
        have v2 : IntKind.i64.wrap (2 * (y0 - x0)) = 2 * (y0 - x0) := IntWalk.i64_in _ (by omega)
        have v3 : IntKind.i64.wrap (2 * m + (y0 - x0)) = 2 * m + (y0 - x0) := IntWalk.i64_in _ (by omega)
        have hD1 : 0 < 2 * (y0 - x0) := by omega
        have hD2 : 2 * (y0 - x0) ≤ 4611686018427387904 := by omega
        have hD3 : -4611686018427387904 ≤ 2 * m + (y0 - x0) ∧ 2 * m + (y0 - x0) ≤ 4611686018427387904 := by omega
        have HP9 := Lib.hid hP9
        have HP10 := Lib.hid hP10
        have HM := Lib.hid hm
        clear hP9 hP10 hSS9 hSZ hAr hwr hAm ha ha' hm b1
        have HFAR : Hid (∀ (W : World) (i j g : Nat) (u v : Value), g < wc.heap.size → W.cell? ⟨g, j, none⟩ = some v → (W.setCell ⟨wc.heap.size, i, none⟩ u).cell? ⟨g, j, none⟩ = some v) := fun W i j g u v hg hv =>
          (World.cell?_setCell_other _ _ _ _ (by intro e; injection e with e1; omega)).trans hv
        have l6 := lt_cell (HV6.out.1)
        have l7 := lt_cell (HV7.out.1)
        go_wp2_with fail
        go_region_held3 (fun w' => w'.cell? ⟨w1.heap.size, 0, none⟩ = some (.int .i64 x0) ∧ w'.cell? ⟨w1.heap.size, 1, none⟩ = some (.int .i64 x1) ∧ w'.cell? ⟨w1.heap.size, 2, none⟩ = some (.int .i64 x2) ∧ w'.cell? ⟨w1.heap.size, 3, none⟩ = some (.int .i64 x3) ∧ w'.cell? ⟨w1.heap.size, 4, none⟩ = some (.int .i64 x4) ∧ w'.cell? ⟨w1.heap.size, 5, none⟩ = some (.int .i64 y0) ∧ w'.cell? ⟨w1.heap.size, 6, none⟩ = some (.int .i64 y1) ∧ w'.cell? ⟨w1.heap.size, 7, none⟩ = some (.int .i64 y2) ∧ w'.cell? ⟨w1.heap.size, 8, none⟩ = some (.int .i64 y3) ∧ w'.cell? ⟨w1.heap.size, 9, none⟩ = some (.int .i64 y4) ∧ w'.cell? ⟨w1.heap.size, 10, none⟩ = some (.int .i64 t) ∧ w'.cell? ⟨g6, k, none⟩ = some (.int .i64 a) ∧ w'.cell? ⟨g7, k, none⟩ = some (.int .i64 a')) (first | go_keep | (refine ⟨?_, ?_, ?_, ?_, ?_, ?_, ?_, ?_, ?_, ?_, ?_, ?_, ?_⟩ <;> (refine HFAR.out _ _ _ _ _ _ ?_ ?_ <;> assumption)))
          (first
            | (go_at_call 130; (with_reducible refine (HP9.out _ ?_).mono ?_); (repeat (first | assumption | (with_reducible exact Below.refl _ _) | (with_reducible refine Below.drew ?_) | (with_reducible refine below_drewNs ?_))); rintro e w9 ⟨rfl, hb9, ⟨k0, k1⟩, z0, z1, z2, z3, z4, z5, z6, z7, z8, z9, z10, z11, z12⟩)
            | (go_at_call 131; (with_reducible refine (HP10.out _ ?_).mono ?_); (repeat (first | assumption | (with_reducible exact Below.refl _ _) | (with_reducible refine Below.drew ?_) | (with_reducible refine below_drewNs ?_))); rintro e w10 ⟨rfl, hb10, ⟨k0, k1⟩, z0, z1, z2, z3, z4, z5, z6, z7, z8, z9, z10, z11, z12⟩)
            | (go_at_call 129; (with_reducible refine (divideDown_any _ _ _ hD1 hD2 hD3).mono ?_); rintro e w' ⟨rfl, rfl⟩))
        rw [← hFk.out]
        have hE1 := HAR.out.keep hb10
        have hE2 := hE1.put k (.int .i64 (nF x0 x1 x2 x3 y0 y1 y2 y3 t k))
        rw [nc_put _ hlt] at hE2
        have hE3 := below_set (g := wc.heap.size) (i := k) (u := .int .i64 (nF x0 x1 x2 x3 y0 y1 y2 y3 t k)) (HWR.out.trans (hb10.mono HWR.out.size)) (Nat.le_refl _)
        have HE2 := Lib.hid hE2
        have HE3 := Lib.hid hE3
        clear hE1 hE2 hE3 hb10 z0 z1 z2 z3 z4 z5 z6 z7 z8 z9 z10 z11 z12 k0 k1 q0 q1 q2 q3 q4 q5 q6 q7 q8 q9 q10
        go_wp2
        go_roundw
        case rel => exact ⟨k + 1, by omega, by go_num, HE2.out, by first | exact HE3.out | exact HE3.out.drew⟩
        case measure => simp [intOf]; omega
      · obtain rfl : k = 3 := by omega
        have hfin := HLO.out.2
        have v1 := hfin 0 (by omega)
        have v2 := hfin 1 (by omega)
        have v3 := hfin 2 (by omega)
        have hbc : nc (nF x0 x1 x2 x3 y0 y1 y2 y3 t) 3 = #[.int .i64 (no S n t 1), .int .i64 (no S n t 2), .int .i64 (no S n t 3)] := by
          rw [← v1, ← v2, ← v3]; rfl
        have hA := HAR.out
        rw [hbc] at hA
        have q0 := hA.cell 0
        have q1 := hA.cell 1
        have q2 := hA.cell 2
        simp at q0 q1 q2
        have hR2 := HA28.out.keep HWR.out
        have t0 := hR2.cell 0
        have t1 := hR2.cell 1
        have t2 := hR2.cell 2
        simp at t0 t1 t2
        have f0 := hR2.free 0
        have f1 := hR2.free 1
        have f2 := hR2.free 2
        have HBf := Lib.hid (HB8.out.trans (HWR.out.mono HB8.out.size))
        clear hA hR2 hbc hfin v1 v2 v3 hAr hwr
        go_wp2
        refine bodyPost_ret (v := noV S n t) ?h1 rfl ⟨rfl, ?_⟩
        case h1 => simp [results, Try.results87, go_sem, noV, *]
        have HBB := HBf.out
        repeat (first | (with_reducible exact HBB) | (with_reducible refine below_set ?_ (by omega)))
end Go.Proofs.Ytnaanninmkplfaa
