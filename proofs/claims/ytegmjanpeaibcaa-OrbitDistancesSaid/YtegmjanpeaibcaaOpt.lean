/- Contracts of the reference: the point of an orbit at a tick. -/
import Derived.Test.YtegmjanpeaibcaaOrf
import Derived.Test.YtegmjanpeaibcaaObn
import Derived.Test.YtegmjanpeaibcaaOlf
namespace Go.Proofs.Ytegmjanpeaibcaa
open Go.RowKit
set_option maxHeartbeats 1600000
set_option maxRecDepth 100000

theorem refCoordinates_eq (x y z : Int) (w : World) : Calls Try.prog 81 #[.agg #[.int .i64 x, .int .i64 y, .int .i64 z]] w fun e w' => e = .returned (.agg #[.int .i64 x, .int .i64 y, .int .i64 z]) ∧ (w.alloc (.cells #[.int .i64 x, .int .i64 y, .int .i64 z] 42)).alloc (.cells #[.int .i64 x, .int .i64 y, .int .i64 z] 84) = w' := by
  go_enter Try.func81, Try.ntmps81
  go_wp2
  refine bodyPost_ret (v := .agg #[.int .i64 x, .int .i64 y, .int .i64 z]) (by simp [results, Try.results81, go_sem, *]) rfl ⟨rfl, ?_⟩
  rfl

/-- the bend at a tick of an arc, times its span -/
def bnd (S : Nat → Nat → Int) (b : Int) (j : Nat) (t : Int) : Int := if t = S j 0 ∨ t = S (j + 1) 0 then 0 else b * spn S j
theorem off_bnd (S : Nat → Nat → Int) (b : Int) (j : Nat) (t : Int) : mid S j t 4 + bnd S b j t = off S b j t := by
  unfold off bnd
  split <;> omega
def ptV (S : Nat → Nat → Int) (b : Int) (j : Nat) (t : Int) : Value := .agg #[.int .i64 (mid S j t 1), .int .i64 (mid S j t 2), .int .i64 (mid S j t 3), .int .i64 (mid S j t 4), .int .i64 (bnd S b j t), .int .i64 (spn S j)]

theorem pt_nums {S : Nat → Nat → Int} {n j : Nat} {b t x0 x1 x2 x3 x4 y0 y1 y2 y3 y4 : Int} (hR : Right S n b) (hj : j + 1 < n) (hI : In S j t)
    (hX : (x0 = S j 0 ∧ x1 = S j 1 ∧ x2 = S j 2 ∧ x3 = S j 3 ∧ x4 = S j 4) ∧ y0 = S (j + 1) 0 ∧ y1 = S (j + 1) 1 ∧ y2 = S (j + 1) 2 ∧ y3 = S (j + 1) 3 ∧ y4 = S (j + 1) 4) :
    IntKind.i64.wrap (y0 - x0) = y0 - x0 ∧ IntKind.i64.wrap (t - x0) = t - x0 ∧ IntKind.i64.wrap (y0 - x0 - (t - x0)) = y0 - x0 - (t - x0) ∧ IntKind.i64.wrap (x4 * (y0 - x0 - (t - x0))) = x4 * (y0 - x0 - (t - x0)) ∧ IntKind.i64.wrap (y4 * (t - x0)) = y4 * (t - x0) ∧
    IntKind.i64.wrap (x4 * (y0 - x0 - (t - x0)) + y4 * (t - x0)) = x4 * (y0 - x0 - (t - x0)) + y4 * (t - x0) ∧ IntKind.i64.wrap (b * (y0 - x0)) = b * (y0 - x0) ∧
    (∀ k, k < 3 → IntKind.i64.wrap (nth x1 x2 x3 k * (y0 - x0 - (t - x0))) = nth x1 x2 x3 k * (y0 - x0 - (t - x0)) ∧ IntKind.i64.wrap (nth y1 y2 y3 k * (t - x0)) = nth y1 y2 y3 k * (t - x0) ∧ IntKind.i64.wrap (nth x1 x2 x3 k * (y0 - x0 - (t - x0)) + nth y1 y2 y3 k * (t - x0)) = nth x1 x2 x3 k * (y0 - x0 - (t - x0)) + nth y1 y2 y3 k * (t - x0)) ∧
    ((∀ k, k < 3 → nth x1 x2 x3 k * (y0 - x0 - (t - x0)) + nth y1 y2 y3 k * (t - x0) = mid S j t (k + 1)) ∧ x4 * (y0 - x0 - (t - x0)) + y4 * (t - x0) = mid S j t 4 ∧ y0 - x0 = Go.Proofs.Ytegmjanpeaibcaa.spn S j) := by
  obtain ⟨⟨h0, h1, h2, h3, h4⟩, f0, f1, f2, f3, f4⟩ := hX
  obtain ⟨i1, i2, i3⟩ := hI
  obtain ⟨s1, s2⟩ := hR.spn hj
  have a1 := hR.2.2.2.1 j (by omega)
  have a2 := hR.2.2.2.1 (j + 1) hj
  have hb := hR.2.2.1
  have hsp : Go.Proofs.Ytegmjanpeaibcaa.spn S j = y0 - x0 := by rw [h0, f0]; rfl
  rw [hsp] at s1 s2
  obtain ⟨⟨p0, p0'⟩, p1, p2, p3, p4⟩ := a1
  obtain ⟨⟨g0, g0'⟩, g1, g2, g3, g4⟩ := a2
  rw [← h0] at i1 p0 p0'
  rw [← f0] at i2 g0 g0'
  have k1 : ∀ k, k < 3 → (-100000000 ≤ nth x1 x2 x3 k ∧ nth x1 x2 x3 k ≤ 100000000) ∧ (-100000000 ≤ nth y1 y2 y3 k ∧ nth y1 y2 y3 k ≤ 100000000) := by
    intro k hk
    match k, hk with
    | 0, _ => exact ⟨by rw [show nth x1 x2 x3 0 = x1 from rfl, h1]; exact p1, by rw [show nth y1 y2 y3 0 = y1 from rfl, f1]; exact g1⟩
    | 1, _ => exact ⟨by rw [show nth x1 x2 x3 1 = x2 from rfl, h2]; exact p2, by rw [show nth y1 y2 y3 1 = y2 from rfl, f2]; exact g2⟩
    | 2, _ => exact ⟨by rw [show nth x1 x2 x3 2 = x3 from rfl, h3]; exact p3, by rw [show nth y1 y2 y3 2 = y3 from rfl, f3]; exact g3⟩
  have m1 : ∀ x d : Int, -100000000 ≤ x → x ≤ 100000000 → 0 ≤ d → d ≤ 20000 → -2000000000000 ≤ x * d ∧ x * d ≤ 2000000000000 := fun x d h1 h2 h3 h4 => by
    have := mul_range (x := x) (d := d) (m := 100000000) (D := 20000) h1 h2 h3 h4 (by omega)
    omega
  obtain ⟨H, hH⟩ : ∃ H, H = y0 - x0 - (t - x0) := ⟨_, rfl⟩
  obtain ⟨G, hG⟩ : ∃ G, G = t - x0 := ⟨_, rfl⟩
  have hH1 : 0 ≤ H ∧ H ≤ 20000 := by omega
  have hG1 : 0 ≤ G ∧ G ≤ 20000 := by omega
  have e4 := m1 x4 H (by omega) (by omega) hH1.1 hH1.2
  have e5 := m1 y4 G (by omega) (by omega) hG1.1 hG1.2
  have e6 := m1 b (y0 - x0) (by omega) (by omega) (by omega) (by omega)
  rw [← hH, ← hG]
  refine ⟨IntWalk.i64_in _ (by omega), IntWalk.i64_in _ (by omega), IntWalk.i64_in _ (by omega), IntWalk.i64_in _ (by omega), IntWalk.i64_in _ (by omega), IntWalk.i64_in _ (by omega), IntWalk.i64_in _ (by omega), ?_, ?_, ?_, hsp.symm⟩
  · intro k hk
    obtain ⟨b1, b2⟩ := k1 k hk
    have c1 := m1 _ H b1.1 b1.2 hH1.1 hH1.2
    have c2 := m1 _ G b2.1 b2.2 hG1.1 hG1.2
    exact ⟨IntWalk.i64_in _ (by omega), IntWalk.i64_in _ (by omega), IntWalk.i64_in _ (by omega)⟩
  · intro k hk
    have e : mid S j t (k + 1) = S j (k + 1) * H + S (j + 1) (k + 1) * G := by rw [← mid_other, hsp, ← h0, hH, hG]
    rw [e]
    match k, hk with
    | 0, _ => rw [show nth x1 x2 x3 0 = x1 from rfl, show nth y1 y2 y3 0 = y1 from rfl, h1, f1]
    | 1, _ => rw [show nth x1 x2 x3 1 = x2 from rfl, show nth y1 y2 y3 1 = y2 from rfl, h2, f2]
    | 2, _ => rw [show nth x1 x2 x3 2 = x3 from rfl, show nth y1 y2 y3 2 = y3 from rfl, h3, f3]
  · rw [← mid_other, hsp, ← h0, ← h4, ← f4, hH, hG]

def pF (x1 x2 x3 y1 y2 y3 d g : Int) (k : Nat) : Int := nth x1 x2 x3 k * (d - g) + nth y1 y2 y3 k * g
/-- a point of which the first k numbers are laid -/
def pc (F : Nat → Int) (k : Nat) (m d : Int) : Array Value := #[.int .i64 (if 0 < k then F 0 else 0), .int .i64 (if 1 < k then F 1 else 0), .int .i64 (if 2 < k then F 2 else 0), .int .i64 m, .int .i64 0, .int .i64 d]
theorem pc_get (F : Nat → Int) {k : Nat} (m d : Int) (h : k < 3) : (pc F k m d)[k]? = some (.int .i64 0) := by
  match k, h with
  | 0, _ => rfl
  | 1, _ => rfl
  | 2, _ => rfl
theorem pc_put (F : Nat → Int) {k : Nat} (m d : Int) (h : k < 3) : (pc F k m d).setIfInBounds k (.int .i64 (F k)) = pc F (k + 1) m d := by
  match k, h with
  | 0, _ => rfl
  | 1, _ => rfl
  | 2, _ => rfl

theorem pointAt_any (s : ByteArray) (b : Int) (A : Option Addr) (n c : Nat) (S : Nat → Nat → Int) (t : Int) (w : World) (hS : St w A n S) (hR : Right S n b) (hT : Has S n t) (hn : n ≤ c) (hc : c ≤ maxLen) :
    Calls Try.prog 86 #[.agg #[.string s, .int .i64 b, .slice A n c], .int .i64 t] w fun e w' => ∃ j, j + 1 < n ∧ In S j t ∧ e = .returned (ptV S b j t) ∧ Below w.heap.size w w' := by
  have h2 := hR.1
  have h40 := hR.2.1
  obtain ⟨bk, off, rfl, hbk, hcc⟩ := hS.at (by omega)
  have HCC := Lib.hid hcc
  have HR := Lib.hid hR
  have HT := Lib.hid hT
  have HN := Lib.hid hn
  have HC := Lib.hid hc
  have ht0 := hT.1
  have hcn : (n : Int) ≤ 9223372036854775807 := by omega
  clear hcc hS hR hT hn hc
  go_enter Try.func86, Try.ntmps86
  go_wp2_with fail
  have hA := (At.new w 24 #[.string s, .int .i64 b, .slice (some ⟨bk, off, none⟩) n c]).alloc (.cells #[.int .i64 0, .int .i64 0, .int .i64 0, .int .i64 0, .int .i64 0, .int .i64 0] 135)
  have hP := at_new (w := w.alloc (.cells #[.string s, .int .i64 b, .slice (some ⟨bk, off, none⟩) n c] 24)) (g := w.heap.size + 1) (t := 135) (cs := #[.int .i64 0, .int .i64 0, .int .i64 0, .int .i64 0, .int .i64 0, .int .i64 0]) (by simp)
  have hb1 : Below w.heap.size w ((w.alloc (.cells #[.string s, .int .i64 b, .slice (some ⟨bk, off, none⟩) n c] 24)).alloc (.cells #[.int .i64 0, .int .i64 0, .int .i64 0, .int .i64 0, .int .i64 0, .int .i64 0] 135)) := below_new (below_new (Below.refl _ w) (Nat.le_refl _)) (by simp)
  generalize hW1 : (w.alloc (.cells #[.string s, .int .i64 b, .slice (some ⟨bk, off, none⟩) n c] 24)).alloc (.cells #[.int .i64 0, .int .i64 0, .int .i64 0, .int .i64 0, .int .i64 0, .int .i64 0] 135) = W1 at hA hP hb1 ⊢
  clear hW1
  have a2 := hA.cell 2
  simp at a2
  have HA := Lib.hid hA
  have HP := Lib.hid hP
  have HB1 := Lib.hid hb1
  have hz1 : w.heap.size + 1 < W1.heap.size := hP.lt
  clear hA hP hb1
  go_loop [5] (fun i => ∃ k : Nat, k + 2 ≤ n ∧ i = .int .i64 (k : Int) ∧ S k 0 ≤ t) (fun i => n - (intOf i).toNat)
  case atStart => exact ⟨0, by omega, rfl, ht0⟩
  case round =>
    obtain ⟨k, hk, rfl, hkt⟩ := hrel
    have cl (i : Nat) (hi : i < n) : W1.cell? ⟨bk, off + i * 5, none⟩ = some (.int .i64 (S i 0)) ∧ W1.cell? ⟨bk, off + i * 5 + 1, none⟩ = some (.int .i64 (S i 1)) ∧ W1.cell? ⟨bk, off + i * 5 + 2, none⟩ = some (.int .i64 (S i 2)) ∧ W1.cell? ⟨bk, off + i * 5 + 3, none⟩ = some (.int .i64 (S i 3)) ∧ W1.cell? ⟨bk, off + i * 5 + 4, none⟩ = some (.int .i64 (S i 4)) := by
      obtain ⟨e0, e1, e2, e3, e4⟩ := HCC.out i hi
      have q (o : Nat) (v : Value) (h : w.cell? ⟨bk, o, none⟩ = some v) : W1.cell? ⟨bk, o, none⟩ = some v := (HB1.out.cell (p := ⟨bk, o, none⟩) hbk).trans h
      exact ⟨q _ _ e0, q _ _ e1, q _ _ e2, q _ _ e3, q _ _ e4⟩
    obtain ⟨r0, r1, r2, r3, r4⟩ := cl k (by omega)
    obtain ⟨q0, q1, q2, q3, q4⟩ := cl (k + 1) (by omega)
    obtain ⟨x0, hx0⟩ : ∃ x, x = S k 0 := ⟨_, rfl⟩
    rw [← hx0] at r0
    obtain ⟨x1, hx1⟩ : ∃ x, x = S k 1 := ⟨_, rfl⟩
    rw [← hx1] at r1
    obtain ⟨x2, hx2⟩ : ∃ x, x = S k 2 := ⟨_, rfl⟩
    rw [← hx2] at r2
    obtain ⟨x3, hx3⟩ : ∃ x, x = S k 3 := ⟨_, rfl⟩
    rw [← hx3] at r3
    obtain ⟨x4, hx4⟩ : ∃ x, x = S k 4 := ⟨_, rfl⟩
    rw [← hx4] at r4
    obtain ⟨y0, hy0⟩ : ∃ x, x = S (k + 1) 0 := ⟨_, rfl⟩
    rw [← hy0] at q0
    obtain ⟨y1, hy1⟩ : ∃ x, x = S (k + 1) 1 := ⟨_, rfl⟩
    rw [← hy1] at q1
    obtain ⟨y2, hy2⟩ : ∃ x, x = S (k + 1) 2 := ⟨_, rfl⟩
    rw [← hy2] at q2
    obtain ⟨y3, hy3⟩ : ∃ x, x = S (k + 1) 3 := ⟨_, rfl⟩
    rw [← hy3] at q3
    obtain ⟨y4, hy4⟩ : ∃ x, x = S (k + 1) 4 := ⟨_, rfl⟩
    rw [← hy4] at q4
    rw [← hx0] at hkt
    have HX : Hid ((x0 = S k 0 ∧ x1 = S k 1 ∧ x2 = S k 2 ∧ x3 = S k 3 ∧ x4 = S k 4) ∧ y0 = S (k + 1) 0 ∧ y1 = S (k + 1) 1 ∧ y2 = S (k + 1) 2 ∧ y3 = S (k + 1) 3 ∧ y4 = S (k + 1) 4) := ⟨⟨hx0, hx1, hx2, hx3, hx4⟩, hy0, hy1, hy2, hy3, hy4⟩
    clear cl hx0 hx1 hx2 hx3 hx4 hy1 hy2 hy3 hy4
    have u0 : (0 : Int) ≤ (k : Int) := by omega
    have u1 : (k : Int) < (n : Int) := by omega
    have u2 : (k : Int) + 1 < (n : Int) := by omega
    have u3 : (0 : Int) ≤ (k : Int) + 1 := by omega
    have u4 : ((k : Int) + 1).toNat = k + 1 := by omega
    have u5 : IntKind.i64.wrap ((k : Int) + 1) = (k : Int) + 1 := IntWalk.i64_in _ (by omega)
    have u6 : IntKind.i64.wrap ((k : Int) + 2) = (k : Int) + 2 := IntWalk.i64_in _ (by omega)
    by_cases hgo : k + 2 < n ∧ y0 ≤ t
    · obtain ⟨g1, g2⟩ := hgo
      have d1 : (k : Int) + 2 < (n : Int) := by omega
      have HY0 := Lib.hid hy0
      clear hy0
      go_wp2
      go_round
      case rel => exact ⟨k + 1, by omega, by go_num, by rw [← HY0.out]; exact g2⟩
      case measure => simp [intOf]; omega
    · have hIn : In S k t := by
        refine ⟨by rw [← HX.out.1.1]; exact hkt, ?_, HR.out.2.2.2.2.1 k (by omega)⟩
        rcases Nat.lt_or_ge (k + 2) n with g | g
        · have : ¬ y0 ≤ t := fun h => hgo ⟨g, h⟩
          rw [← hy0]
          omega
        · have := HT.out.2
          rw [show n - 1 = k + 1 by omega] at this
          exact this
      have HIN := Lib.hid hIn
      have hex : ¬ k + 2 < n ∨ (k + 2 < n ∧ ¬ y0 ≤ t) := by
        rcases Nat.lt_or_ge (k + 2) n with g | g
        · exact .inr ⟨g, fun h => hgo ⟨g, h⟩⟩
        · exact .inl (by omega)
      have HSS : Hid (∀ w', Below W1.heap.size W1 w' → w'.cell? ⟨w.heap.size, 2, none⟩ = some (.slice (some ⟨bk, off, none⟩) n c) ∧ w'.cell? ⟨bk, off + k * 5, none⟩ = some (.int .i64 x0) ∧ w'.cell? ⟨bk, off + k * 5 + 1, none⟩ = some (.int .i64 x1) ∧ w'.cell? ⟨bk, off + k * 5 + 2, none⟩ = some (.int .i64 x2) ∧ w'.cell? ⟨bk, off + k * 5 + 3, none⟩ = some (.int .i64 x3) ∧ w'.cell? ⟨bk, off + k * 5 + 4, none⟩ = some (.int .i64 x4) ∧ w'.cell? ⟨bk, off + (k + 1) * 5, none⟩ = some (.int .i64 y0) ∧ w'.cell? ⟨bk, off + (k + 1) * 5 + 1, none⟩ = some (.int .i64 y1) ∧ w'.cell? ⟨bk, off + (k + 1) * 5 + 2, none⟩ = some (.int .i64 y2) ∧ w'.cell? ⟨bk, off + (k + 1) * 5 + 3, none⟩ = some (.int .i64 y3) ∧ w'.cell? ⟨bk, off + (k + 1) * 5 + 4, none⟩ = some (.int .i64 y4)) := fun w' hW => by
        have q (o : Nat) (v : Value) (h : W1.cell? ⟨bk, o, none⟩ = some v) : w'.cell? ⟨bk, o, none⟩ = some v := (hW.cell (p := ⟨bk, o, none⟩) (by show bk < W1.heap.size; omega)).trans h
        exact ⟨(hW.cell (p := ⟨w.heap.size, 2, none⟩) (by show w.heap.size < W1.heap.size; omega)).trans a2, q _ _ r0, q _ _ r1, q _ _ r2, q _ _ r3, q _ _ r4, q _ _ q0, q _ _ q1, q _ _ q2, q _ _ q3, q _ _ q4⟩
      clear hIn hgo hy0
      rcases hex with d1 | ⟨d1, d2⟩
      all_goals
        go_upto_region 4 with fail
        go_cut [6, 7] (fun s6 s7 wx => ∃ g6 g7 : Nat, s6 = .pointer (some ⟨g6, 0, none⟩) ∧ s7 = .pointer (some ⟨g7, 0, none⟩) ∧ At wx g6 56 #[.int .i64 x0, .int .i64 x1, .int .i64 x2, .int .i64 x3, .int .i64 x4] ∧ At wx g7 56 #[.int .i64 y0, .int .i64 y1, .int .i64 y2, .int .i64 y3, .int .i64 y4] ∧ Below W1.heap.size W1 wx)
        case first =>
          go_region_held3 (fun w' => w'.cell? ⟨w.heap.size, 2, none⟩ = some (.slice (some ⟨bk, off, none⟩) n c) ∧ w'.cell? ⟨bk, off + k * 5, none⟩ = some (.int .i64 x0) ∧ w'.cell? ⟨bk, off + k * 5 + 1, none⟩ = some (.int .i64 x1) ∧ w'.cell? ⟨bk, off + k * 5 + 2, none⟩ = some (.int .i64 x2) ∧ w'.cell? ⟨bk, off + k * 5 + 3, none⟩ = some (.int .i64 x3) ∧ w'.cell? ⟨bk, off + k * 5 + 4, none⟩ = some (.int .i64 x4) ∧ w'.cell? ⟨bk, off + (k + 1) * 5, none⟩ = some (.int .i64 y0) ∧ w'.cell? ⟨bk, off + (k + 1) * 5 + 1, none⟩ = some (.int .i64 y1) ∧ w'.cell? ⟨bk, off + (k + 1) * 5 + 2, none⟩ = some (.int .i64 y2) ∧ w'.cell? ⟨bk, off + (k + 1) * 5 + 3, none⟩ = some (.int .i64 y3) ∧ w'.cell? ⟨bk, off + (k + 1) * 5 + 4, none⟩ = some (.int .i64 y4)) (first | (refine HSS.out _ ?_; (repeat (first | (with_reducible exact Below.refl _ _) | (with_reducible refine Below.drew ?_) | (with_reducible refine below_drewNs ?_) | (with_reducible refine below_set ?_ (by first | omega | (simp; omega))) | (with_reducible refine below_new ?_ (by first | omega | (simp; done) | (simp; omega))))); done) | go_keep) (fail)
          all_goals
            go_wp2_with fail
            go_meet
            refine ⟨_, _, rfl, rfl, ?_, ?_, ?_⟩
            · repeat (first | (with_reducible assumption) | (with_reducible refine at_drew ?_) | ((with_reducible refine at_new ?_); first | omega | (simp; done)) | (with_reducible refine At.alloc ?_ _) | ((with_reducible refine at_farB ?_ ?_); rotate_left; (focus first | omega | (simp; omega))))
            · repeat (first | (with_reducible assumption) | (with_reducible refine at_drew ?_) | ((with_reducible refine at_new ?_); first | omega | (simp; done)) | (with_reducible refine At.alloc ?_ _) | ((with_reducible refine at_farB ?_ ?_); rotate_left; (focus first | omega | (simp; omega))))
            · repeat (first | (with_reducible assumption) | (with_reducible exact Below.refl _ _) | (with_reducible refine Below.drew ?_) | (with_reducible refine below_drewNs ?_) | (with_reducible refine below_set ?_ (by first | omega | (simp; omega))) | (with_reducible refine below_new ?_ (by first | omega | (simp; done) | (simp; omega))))
        case rest =>
          obtain ⟨g6, g7, rfl, rfl, hX6, hY7, hbx⟩ := hcut
          have hnum := pt_nums HR.out (by omega) HIN.out HX.out
          have hX6' := hX6
          have hY7' := hY7
          have r0 := hX6.cell 0
          have r1 := hX6.cell 1
          have r2 := hX6.cell 2
          have r3 := hX6.cell 3
          have r4 := hX6.cell 4
          have q0 := hY7.cell 0
          have q1 := hY7.cell 1
          have q2 := hY7.cell 2
          have q3 := hY7.cell 3
          have q4 := hY7.cell 4
          simp at r0 r1 r2 r3 r4 q0 q1 q2 q3 q4
          obtain ⟨v1, v2, v3, v4, v5, v6, v7x, v8, v9⟩ := hnum
          have HX6 := Lib.hid hX6
          have HY7 := Lib.hid hY7
          have HBX := Lib.hid hbx
          have HV8 := Lib.hid v8
          have HV9 := Lib.hid v9
          have hl6 := hX6.lt
          have hl7 := hY7.lt
          clear hX6 hY7 hbx hX6' hY7' v8 v9 a2
          go_wp2_with fail
          go_quiet (fail)
          have hx6 : At (wc.drewN nq) g6 56 #[.int .i64 x0, .int .i64 x1, .int .i64 x2, .int .i64 x3, .int .i64 x4] := HX6.out
          have hy7 : At (wc.drewN nq) g7 56 #[.int .i64 y0, .int .i64 y1, .int .i64 y2, .int .i64 y3, .int .i64 y4] := HY7.out
          have hbd := below_drewNs (n := nq) HBX.out
          generalize hwd : wc.drewN nq = wd at hx6 hy7 hbd ⊢
          clear hwd r0 r1 r2 r3 r4 q0 q1 q2 q3 q4 hl6 hl7 HX6 HY7 HBX
          have r0 := hx6.cell 0
          have r1 := hx6.cell 1
          have r2 := hx6.cell 2
          have r3 := hx6.cell 3
          have r4 := hx6.cell 4
          have q0 := hy7.cell 0
          have q1 := hy7.cell 1
          have q2 := hy7.cell 2
          have q3 := hy7.cell 3
          have q4 := hy7.cell 4
          simp at r0 r1 r2 r3 r4 q0 q1 q2 q3 q4
          have hl6 := hx6.lt
          have hl7 := hy7.lt
          have HX6 := Lib.hid hx6
          have HY7 := Lib.hid hy7
          have HBD := Lib.hid hbd
          clear hx6 hy7 hbd
          go_upto_region 7 with fail
          obtain ⟨m4, hm4⟩ : ∃ m, m = x4 * (y0 - x0 - (t - x0)) + y4 * (t - x0) := ⟨_, rfl⟩
          rw [← hm4]
          have HM4 := Lib.hid hm4
          clear hm4 v4 v5 v6
          have hG := At.new wd 135 #[.int .i64 0, .int .i64 0, .int .i64 0, .int .i64 m4, .int .i64 0, .int .i64 (y0 - x0)]
          have hx6 := HX6.out.alloc (.cells #[.int .i64 0, .int .i64 0, .int .i64 0, .int .i64 m4, .int .i64 0, .int .i64 (y0 - x0)] 135)
          have hy7 := HY7.out.alloc (.cells #[.int .i64 0, .int .i64 0, .int .i64 0, .int .i64 m4, .int .i64 0, .int .i64 (y0 - x0)] 135)
          have hzd := HBD.out.size
          have hbe := below_new HBD.out HBD.out.size (o := .cells #[.int .i64 0, .int .i64 0, .int .i64 0, .int .i64 m4, .int .i64 0, .int .i64 (y0 - x0)] 135)
          generalize hwe : wd.alloc (.cells #[.int .i64 0, .int .i64 0, .int .i64 0, .int .i64 m4, .int .i64 0, .int .i64 (y0 - x0)] 135) = we at hG hx6 hy7 hbe ⊢
          clear hwe r0 r1 r2 r3 r4 q0 q1 q2 q3 q4 hl6 hl7 HX6 HY7 HBD
          have r1 := hx6.cell 1
          have r2 := hx6.cell 2
          have r3 := hx6.cell 3
          have q1 := hy7.cell 1
          have q2 := hy7.cell 2
          have q3 := hy7.cell 3
          simp at r1 r2 r3 q1 q2 q3
          have hl6 := hx6.lt
          have hl7 := hy7.lt
          have hlG := hG.lt
          have HSS2 : Hid (∀ w', Below we.heap.size we w' → w'.cell? ⟨g6, 1, none⟩ = some (.int .i64 x1) ∧ w'.cell? ⟨g6, 2, none⟩ = some (.int .i64 x2) ∧ w'.cell? ⟨g6, 3, none⟩ = some (.int .i64 x3) ∧ w'.cell? ⟨g7, 1, none⟩ = some (.int .i64 y1) ∧ w'.cell? ⟨g7, 2, none⟩ = some (.int .i64 y2) ∧ w'.cell? ⟨g7, 3, none⟩ = some (.int .i64 y3)) := fun w' hW => by
            have p := hx6.keep hW
            have q := hy7.keep hW
            exact ⟨p.cell 1, p.cell 2, p.cell 3, q.cell 1, q.cell 2, q.cell 3⟩
          have HG := Lib.hid hG
          have HBE := Lib.hid hbe
          clear hx6 hy7 hG hbe
          go_cut [11, 12] (fun s11 s12 wx => ∃ g11 g12 : Nat, s11 = .pointer (some ⟨g11, 0, none⟩) ∧ s12 = .pointer (some ⟨g12, 0, none⟩) ∧ V3 wx g11 x1 x2 x3 ∧ V3 wx g12 y1 y2 y3 ∧ we.heap.size ≤ g11 ∧ we.heap.size ≤ g12 ∧ Below we.heap.size we wx)
          case first =>
            go_region_held3 (fun w' => w'.cell? ⟨g6, 1, none⟩ = some (.int .i64 x1) ∧ w'.cell? ⟨g6, 2, none⟩ = some (.int .i64 x2) ∧ w'.cell? ⟨g6, 3, none⟩ = some (.int .i64 x3) ∧ w'.cell? ⟨g7, 1, none⟩ = some (.int .i64 y1) ∧ w'.cell? ⟨g7, 2, none⟩ = some (.int .i64 y2) ∧ w'.cell? ⟨g7, 3, none⟩ = some (.int .i64 y3)) (first | (refine HSS2.out _ ?_; (repeat (first | (with_reducible exact Below.refl _ _) | (with_reducible refine Below.drew ?_) | (with_reducible refine below_drewNs ?_) | (with_reducible refine below_set ?_ (by first | omega | (simp; omega))) | (with_reducible refine below_new ?_ (by first | omega | (simp; done) | (simp; omega))))); done) | go_keep)
              (first | (go_at_call 81; (with_reducible refine (refCoordinates_eq _ _ _ _).mono ?_); rintro e w' ⟨rfl, rfl⟩))
            all_goals
              go_wp2_with fail
              go_meet
              refine ⟨_, _, rfl, rfl, v3_drew ?_, v3_drew ?_, by first | omega | (simp; done) | (simp; omega), by first | omega | (simp; done) | (simp; omega), ?_⟩
              · repeat (first | ((refine v3_new ?_); simp; done) | refine v3_alloc ?_)
              · repeat (first | ((refine v3_new ?_); simp; done) | refine v3_alloc ?_)
              · repeat (first | (with_reducible exact Below.refl _ _) | (with_reducible refine Below.drew ?_) | (with_reducible refine below_new ?_ (by first | omega | (simp; done) | (simp; omega))))
          case rest =>
            obtain ⟨g11, g12, rfl, rfl, hv11, hv12, hg11, hg12, hbx⟩ := hcut
            have hg := HG.out.keep hbx
            have HG2 := Lib.hid hg
            have HV11 := Lib.hid hv11
            have HV12 := Lib.hid hv12
            have HBX2 : Hid (Below W1.heap.size W1 wc) := HBE.out.trans (hbx.mono HBE.out.size)
            have hlg : wd.heap.size < wc.heap.size := hg.lt
            have hl11 := lt_cell hv11.1
            have hl12 := lt_cell hv12.1
            have hlW : W1.heap.size ≤ wd.heap.size := hzd
            have hn11 : g11 ≠ wd.heap.size := by omega
            have hn12 : g12 ≠ wd.heap.size := by omega
            clear hg hv11 hv12 hbx r1 r2 r3 q1 q2 q3
            go_wp2_with fail
            go_loopw [13] (fun i wr => ∃ j : Nat, j ≤ 3 ∧ i = .int .i64 (j : Int) ∧ At wr wd.heap.size 135 (pc (pF x1 x2 x3 y1 y2 y3 (y0 - x0) (t - x0)) j m4 (y0 - x0)) ∧ (∀ q, wr.cell? ⟨g11, q, none⟩ = wc.cell? ⟨g11, q, none⟩) ∧ (∀ q, wr.cell? ⟨g12, q, none⟩ = wc.cell? ⟨g12, q, none⟩) ∧ Below W1.heap.size W1 wr) (fun i _ => 3 - (intOf i).toNat)
            case atStart => exact ⟨0, by omega, rfl, HG2.out, fun _ => rfl, fun _ => rfl, HBX2.out⟩
            case round =>
              obtain ⟨j, hj, rfl, hgr, he11, he12, hbr⟩ := hrel
              have HGR := Lib.hid hgr
              have HE11 := Lib.hid he11
              have HE12 := Lib.hid he12
              have HBR := Lib.hid hbr
              have hlr := hgr.lt
              by_cases hlt : j < 3
              · have e1 := (he11 j).trans (v3_nth HV11.out hlt)
                have e2 := (he12 j).trans (v3_nth HV12.out hlt)
                have e3 := (hgr.cell j).trans (pc_get _ _ _ hlt)
                have e4 := hgr.free j
                obtain ⟨k1, k2, k3⟩ := HV8.out j hlt
                obtain ⟨p, hp⟩ : ∃ p, p = nth x1 x2 x3 j := ⟨_, rfl⟩
                obtain ⟨q, hq⟩ : ∃ p, p = nth y1 y2 y3 j := ⟨_, rfl⟩
                rw [← hp] at e1 k1 k3
                rw [← hq] at e2 k2 k3
                have HF : Hid (p * (y0 - x0 - (t - x0)) + q * (t - x0) = pF x1 x2 x3 y1 y2 y3 (y0 - x0) (t - x0) j) := by rw [hp, hq]; rfl
                have w0 : (0 : Int) ≤ (j : Int) := by omega
                have w1 : (j : Int) < 3 := by omega
                clear hgr he11 he12 hbr hp hq
                go_wp2
                go_region
                all_goals
                  go_wp2
                  go_roundw
                  case rel =>
                    refine ⟨j + 1, by omega, by go_num, ?_, ?_, ?_, ?_⟩
                    · rw [HF.out, ← pc_put _ _ _ hlt]
                      exact HGR.out.put j _
                    · intro q
                      exact (World.cell?_setCell_other _ _ _ _ (by intro e; cases e; exact hn11 rfl)).trans (HE11.out q)
                    · intro q
                      exact (World.cell?_setCell_other _ _ _ _ (by intro e; cases e; exact hn12 rfl)).trans (HE12.out q)
                    · exact below_set HBR.out.drew (by omega)
                  case measure => simp [intOf]; omega
              · obtain rfl : j = 3 := by omega
                have HMID := Lib.hid HV9.out
                obtain ⟨f1, f2, f3⟩ := HMID.out
                have f10 : pF x1 x2 x3 y1 y2 y3 (y0 - x0) (t - x0) 0 = mid S k t 1 := f1 0 (by omega)
                have f11 : pF x1 x2 x3 y1 y2 y3 (y0 - x0) (t - x0) 1 = mid S k t 2 := f1 1 (by omega)
                have f12 : pF x1 x2 x3 y1 y2 y3 (y0 - x0) (t - x0) 2 = mid S k t 3 := f1 2 (by omega)
                have hgr : At wr wd.heap.size 135 #[.int .i64 (mid S k t 1), .int .i64 (mid S k t 2), .int .i64 (mid S k t 3), .int .i64 (mid S k t 4), .int .i64 0, .int .i64 (y0 - x0)] := by
                  rw [← f10, ← f11, ← f12, ← f2, ← HM4.out]
                  exact HGR.out
                have hAr := HA.out.keep HBR.out
                have hPr := HP.out.keep HBR.out
                have b1 := hAr.cell 1
                simp at b1
                have hbn : bnd S b k t = if t - x0 ≠ 0 ∧ t - x0 ≠ y0 - x0 then b * (y0 - x0) else 0 := by
                  unfold bnd
                  rw [← f3, ← HX.out.1.1, ← HX.out.2.1]
                  by_cases h : t = x0 ∨ t = y0
                  · rw [if_pos h, if_neg (by omega)]
                  · rw [if_neg h, if_pos (by omega)]
                have HBN := Lib.hid hbn
                have HF3 := Lib.hid f3
                have z0 := hgr.cell 0
                have z1 := hgr.cell 1
                have z2 := hgr.cell 2
                have z3 := hgr.cell 3
                have z4 := hgr.cell 4
                have z5 := hgr.cell 5
                have y10 := hPr.cell 0
                have y11 := hPr.cell 1
                have y12 := hPr.cell 2
                have y13 := hPr.cell 3
                have y14 := hPr.cell 4
                have y15 := hPr.cell 5
                simp at z0 z1 z2 z3 z4 z5 y10 y11 y12 y13 y14 y15
                have o0 := hgr.free 4
                have o10 := hPr.free 0
                have o11 := hPr.free 1
                have o12 := hPr.free 2
                have o13 := hPr.free 3
                have o14 := hPr.free 4
                have o15 := hPr.free 5
                have HBF := Lib.hid (HB1.out.trans (HBR.out.mono HB1.out.size))
                obtain ⟨i1, hi1⟩ : ∃ m, m = mid S k t 1 := ⟨_, rfl⟩
                obtain ⟨i2, hi2⟩ : ∃ m, m = mid S k t 2 := ⟨_, rfl⟩
                obtain ⟨i3, hi3⟩ : ∃ m, m = mid S k t 3 := ⟨_, rfl⟩
                obtain ⟨i4, hi4⟩ : ∃ m, m = mid S k t 4 := ⟨_, rfl⟩
                rw [← hi1] at z0
                rw [← hi2] at z1
                rw [← hi3] at z2
                rw [← hi4] at z3
                have HII : Hid (i1 = mid S k t 1 ∧ i2 = mid S k t 2 ∧ i3 = mid S k t 3 ∧ i4 = mid S k t 4) := ⟨hi1, hi2, hi3, hi4⟩
                have v7' := v7x
                clear hgr hAr hPr f1 f2 f3 f10 f11 f12 hi1 hi2 hi3 hi4 hbn he11 he12 hbr hlt v1 v2 v7x
                by_cases hc : t - x0 ≠ 0 ∧ t - x0 ≠ y0 - x0
                · have HCC2 := Lib.hid hc
                  obtain ⟨c1, c2⟩ := hc
                  have c3 : (t - x0 != 0) = true := by simpa using c1
                  have c4 : (t - x0 != y0 - x0) = true := by simpa using c2
                  clear c1 c2
                  go_wp2
                  refine bodyPost_ret (v := .agg #[.int .i64 i1, .int .i64 i2, .int .i64 i3, .int .i64 i4, .int .i64 (b * (y0 - x0)), .int .i64 (y0 - x0)]) ?h1 rfl ⟨k, by omega, HIN.out, ?_, ?_⟩
                  case h1 => simp [results, Try.results86, go_sem, *]
                  · unfold ptV
                    obtain ⟨e1, e2, e3, e4⟩ := HII.out
                    rw [HBN.out, if_pos HCC2.out, ← HF3.out, e1, e2, e3, e4]
                  · have hbf := HBF.out
                    repeat (first | (with_reducible exact hbf) | (with_reducible refine below_set ?_ (by omega)) | (with_reducible refine Below.drew ?_))
                · have HCC2 := Lib.hid hc
                  have hd : (t - x0 != 0) = false ∨ ((t - x0 != 0) = true ∧ (t - x0 != y0 - x0) = false) := by
                    by_cases h : t - x0 = 0
                    · exact .inl (by simpa using h)
                    · exact .inr ⟨by simpa using h, by simp; omega⟩
                  clear hc
                  rcases hd with c3 | ⟨c3, c4⟩
                  all_goals
                    go_wp2
                    refine bodyPost_ret (v := .agg #[.int .i64 i1, .int .i64 i2, .int .i64 i3, .int .i64 i4, .int .i64 0, .int .i64 (y0 - x0)]) ?h1 rfl ⟨k, by omega, HIN.out, ?_, ?_⟩
                    case h1 => simp [results, Try.results86, go_sem, *]
                    · unfold ptV
                      obtain ⟨e1, e2, e3, e4⟩ := HII.out
                      rw [HBN.out, if_neg HCC2.out, ← HF3.out, e1, e2, e3, e4]
                    · have hbf := HBF.out
                      repeat (first | (with_reducible exact hbf) | (with_reducible refine below_set ?_ (by omega)) | (with_reducible refine Below.drew ?_))
end Go.Proofs.Ytegmjanpeaibcaa
