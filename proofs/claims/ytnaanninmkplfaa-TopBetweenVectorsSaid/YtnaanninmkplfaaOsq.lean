/- Contracts of package orbit: the squares from a place to a box. -/
import Derived.Test.YtnaanninmkplfaaObx
namespace Go.Proofs.Ytnaanninmkplfaa
open Go.RowKit
set_option maxHeartbeats 800000
set_option maxRecDepth 100000

theorem idxR (l1 h1 l2 h2 l3 h3 : Int) (k : Nat) (hk : k < 3) (w : World) : (Instr.index 47 (.agg #[.int .i64 l1, .int .i64 h1, .int .i64 l2, .int .i64 h2, .int .i64 l3, .int .i64 h3]) (.int .i64 (k : Int))).run Try.prog w =
    .ok (.agg #[.int .i64 (nth l1 l2 l3 k), .int .i64 (nth h1 h2 h3 k)]) w := by
  match k, hk with
  | 0, _ => simp [Instr.index, run_underlying Try.underlying47, asIntOf, go_sem, nth]
  | 1, _ => simp [Instr.index, run_underlying Try.underlying47, asIntOf, go_sem, nth]
  | 2, _ => simp [Instr.index, run_underlying Try.underlying47, asIntOf, go_sem, nth]

def sqV (S : Nat → Nat → Int) (n : Nat) (b t : Int) (P : Nat → Int) : Value := .agg #[.int .i64 (sqL S n b t P), .int .i64 (sqH S n b t P)]

def sqS (F : Nat → Int) : Nat → Int
  | 0 => 0
  | k + 1 => sqS F k + F k * F k
def nF3 (l1 h1 l2 h2 l3 h3 p1 p2 p3 : Int) (k : Nat) : Int := near (nth l1 l2 l3 k) (nth h1 h2 h3 k) (nth p1 p2 p3 k)
def fF3 (l1 h1 l2 h2 l3 h3 p1 p2 p3 : Int) (k : Nat) : Int := far (nth l1 l2 l3 k) (nth h1 h2 h3 k) (nth p1 p2 p3 k)
theorem sqS_range {F : Nat → Int} (h : ∀ k, k < 3 → 0 ≤ F k ∧ F k ≤ 300000000) : ∀ k, k ≤ 3 → 0 ≤ sqS F k ∧ sqS F k ≤ k * 90000000000000000
  | 0, _ => by simp [sqS]
  | k + 1, hk => by
    obtain ⟨a, b⟩ := sqS_range h k (by omega)
    obtain ⟨c, d⟩ := h k (by omega)
    have e := Int.mul_nonneg c c
    have f := Int.mul_le_mul d d c (by omega)
    rw [sqS]
    omega
/-- the numbers of the three sides, and their squares -/
theorem sq_nums {l1 h1 l2 h2 l3 h3 p1 p2 p3 : Int} (b1 : -100200000 ≤ l1 ∧ l1 ≤ h1 ∧ h1 ≤ 100200000) (b2 : -100200000 ≤ l2 ∧ l2 ≤ h2 ∧ h2 ≤ 100200000) (b3 : -100200000 ≤ l3 ∧ l3 ≤ h3 ∧ h3 ≤ 100200000)
    (q1 : -100000000 ≤ p1 ∧ p1 ≤ 100000000) (q2 : -100000000 ≤ p2 ∧ p2 ≤ 100000000) (q3 : -100000000 ≤ p3 ∧ p3 ≤ 100000000) :
    (∀ k, k < 3 → (-100200000 ≤ nth l1 l2 l3 k ∧ nth l1 l2 l3 k ≤ nth h1 h2 h3 k ∧ nth h1 h2 h3 k ≤ 100200000) ∧ (-100000000 ≤ nth p1 p2 p3 k ∧ nth p1 p2 p3 k ≤ 100000000)) ∧
    (∀ k, k < 3 → 0 ≤ nF3 l1 h1 l2 h2 l3 h3 p1 p2 p3 k ∧ nF3 l1 h1 l2 h2 l3 h3 p1 p2 p3 k ≤ 300000000) ∧ (∀ k, k < 3 → 0 ≤ fF3 l1 h1 l2 h2 l3 h3 p1 p2 p3 k ∧ fF3 l1 h1 l2 h2 l3 h3 p1 p2 p3 k ≤ 300000000) := by
  have base : ∀ k, k < 3 → (-100200000 ≤ nth l1 l2 l3 k ∧ nth l1 l2 l3 k ≤ nth h1 h2 h3 k ∧ nth h1 h2 h3 k ≤ 100200000) ∧ (-100000000 ≤ nth p1 p2 p3 k ∧ nth p1 p2 p3 k ≤ 100000000) := by
    intro k hk
    match k, hk with
    | 0, _ => exact ⟨b1, q1⟩
    | 1, _ => exact ⟨b2, q2⟩
    | 2, _ => exact ⟨b3, q3⟩
  refine ⟨base, fun k hk => ?_, fun k hk => ?_⟩
  · have := base k hk
    unfold nF3 near
    omega
  · have := base k hk
    unfold fF3 far
    omega

theorem squares_any (s : ByteArray) (b : Int) (A : Option Addr) (n c : Nat) (S : Nat → Nat → Int) (t p1 p2 p3 : Int) (P : Nat → Int) (w : World) (hS : St w A n S) (hR : Right S n b) (hT : Has S n t) (hn : n ≤ c) (hc : c ≤ maxLen) (hP : Pl P) (hp : P 1 = p1 ∧ P 2 = p2 ∧ P 3 = p3) :
    Calls Try.prog 93 #[.agg #[.string s, .int .i64 b, .slice A n c], .int .i64 t, .agg #[.int .i64 p1, .int .i64 p2, .int .i64 p3]] w fun e w' => e = .returned (sqV S n b t P) ∧ Below w.heap.size w w' := by
  have HS := Lib.hid hS
  have HR := Lib.hid hR
  have HT := Lib.hid hT
  have HN := Lib.hid hn
  have HC := Lib.hid hc
  have HP := Lib.hid hP
  have HPP := Lib.hid hp
  clear hS hR hT hn hc hP hp
  go_enter Try.func93, Try.ntmps93
  go_wp2_with fail
  refine (coordinates_eq p1 p2 p3 _).mono ?_
  rintro e w1 ⟨rfl, rfl⟩
  go_wp2_with fail
  have hR1 : At (((((((w.alloc (.cells #[.string s, .int .i64 b, .slice A n c] 126)).alloc (.cells #[.int .i64 p1, .int .i64 p2, .int .i64 p3] 42)).alloc (.cells #[.int .i64 0, .int .i64 0] 46)).alloc (.cells #[.int .i64 p1, .int .i64 p2, .int .i64 p3] 42)).alloc (.cells #[.int .i64 p1, .int .i64 p2, .int .i64 p3] 84)).alloc (.cells #[.int .i64 p1, .int .i64 p2, .int .i64 p3] 84)).alloc (.cells #[.int .i64 0, .int .i64 0] 46)) (w.heap.size + 1 + 1) 46 #[.int .i64 0, .int .i64 0] :=
    ((((at_new (by simp)).alloc _).alloc _).alloc _).alloc _
  have hV1 : V3 (((((((w.alloc (.cells #[.string s, .int .i64 b, .slice A n c] 126)).alloc (.cells #[.int .i64 p1, .int .i64 p2, .int .i64 p3] 42)).alloc (.cells #[.int .i64 0, .int .i64 0] 46)).alloc (.cells #[.int .i64 p1, .int .i64 p2, .int .i64 p3] 42)).alloc (.cells #[.int .i64 p1, .int .i64 p2, .int .i64 p3] 84)).alloc (.cells #[.int .i64 p1, .int .i64 p2, .int .i64 p3] 84)).alloc (.cells #[.int .i64 0, .int .i64 0] 46)) (w.heap.size + 1 + 1 + 1 + 1 + 1) p1 p2 p3 := v3_alloc (v3_new (by simp))
  have hQ1 : At (((((((w.alloc (.cells #[.string s, .int .i64 b, .slice A n c] 126)).alloc (.cells #[.int .i64 p1, .int .i64 p2, .int .i64 p3] 42)).alloc (.cells #[.int .i64 0, .int .i64 0] 46)).alloc (.cells #[.int .i64 p1, .int .i64 p2, .int .i64 p3] 42)).alloc (.cells #[.int .i64 p1, .int .i64 p2, .int .i64 p3] 84)).alloc (.cells #[.int .i64 p1, .int .i64 p2, .int .i64 p3] 84)).alloc (.cells #[.int .i64 0, .int .i64 0] 46)) (w.heap.size + 1 + 1 + 1 + 1 + 1 + 1) 46 #[.int .i64 0, .int .i64 0] := at_new (by simp)
  have hb1 : Below w.heap.size w (((((((w.alloc (.cells #[.string s, .int .i64 b, .slice A n c] 126)).alloc (.cells #[.int .i64 p1, .int .i64 p2, .int .i64 p3] 42)).alloc (.cells #[.int .i64 0, .int .i64 0] 46)).alloc (.cells #[.int .i64 p1, .int .i64 p2, .int .i64 p3] 42)).alloc (.cells #[.int .i64 p1, .int .i64 p2, .int .i64 p3] 84)).alloc (.cells #[.int .i64 p1, .int .i64 p2, .int .i64 p3] 84)).alloc (.cells #[.int .i64 0, .int .i64 0] 46)) := by
    repeat (first | (with_reducible exact Below.refl _ _) | (with_reducible refine below_new ?_ (by first | omega | (simp; done) | (simp; omega))))
  generalize hW1 : (((((((w.alloc (.cells #[.string s, .int .i64 b, .slice A n c] 126)).alloc (.cells #[.int .i64 p1, .int .i64 p2, .int .i64 p3] 42)).alloc (.cells #[.int .i64 0, .int .i64 0] 46)).alloc (.cells #[.int .i64 p1, .int .i64 p2, .int .i64 p3] 42)).alloc (.cells #[.int .i64 p1, .int .i64 p2, .int .i64 p3] 84)).alloc (.cells #[.int .i64 p1, .int .i64 p2, .int .i64 p3] 84)).alloc (.cells #[.int .i64 0, .int .i64 0] 46)) = W1 at hR1 hV1 hQ1 hb1 ⊢
  clear hW1
  refine (box_any s b A n c S t W1 (HS.out.below hb1) HR.out HT.out HN.out HC.out).mono ?_
  rintro e w2 ⟨rfl, hb2⟩
  obtain ⟨c1, -, -, -⟩ := box_facts HR.out HT.out (c := 1) (by omega)
  obtain ⟨c2, -, -, -⟩ := box_facts HR.out HT.out (c := 2) (by omega)
  obtain ⟨c3, -, -, -⟩ := box_facts HR.out HT.out (c := 3) (by omega)
  obtain ⟨l1, el1⟩ : ∃ x, x = lo S n b t 1 := ⟨_, rfl⟩
  obtain ⟨h1, eh1⟩ : ∃ x, x = hi S n b t 1 := ⟨_, rfl⟩
  obtain ⟨l2, el2⟩ : ∃ x, x = lo S n b t 2 := ⟨_, rfl⟩
  obtain ⟨h2, eh2⟩ : ∃ x, x = hi S n b t 2 := ⟨_, rfl⟩
  obtain ⟨l3, el3⟩ : ∃ x, x = lo S n b t 3 := ⟨_, rfl⟩
  obtain ⟨h3, eh3⟩ : ∃ x, x = hi S n b t 3 := ⟨_, rfl⟩
  have hbv : boxV S n b t = .agg #[.int .i64 l1, .int .i64 h1, .int .i64 l2, .int .i64 h2, .int .i64 l3, .int .i64 h3] := by unfold boxV; rw [← el1, ← eh1, ← el2, ← eh2, ← el3, ← eh3]
  rw [← el1, ← eh1] at c1
  rw [← el2, ← eh2] at c2
  rw [← el3, ← eh3] at c3
  have hPl := HP.out
  unfold Pl at hPl
  rw [HPP.out.1, HPP.out.2.1, HPP.out.2.2] at hPl
  obtain ⟨hk, hNF, hFF⟩ := sq_nums c1 c2 c3 hPl.1 hPl.2.1 hPl.2.2
  have hres : sqL S n b t P = sqS (nF3 l1 h1 l2 h2 l3 h3 p1 p2 p3) 3 ∧ sqH S n b t P = sqS (fF3 l1 h1 l2 h2 l3 h3 p1 p2 p3) 3 := by
    unfold sqL sqH
    rw [← el1, ← eh1, ← el2, ← eh2, ← el3, ← eh3, HPP.out.1, HPP.out.2.1, HPP.out.2.2]
    simp [sqS, nF3, fF3, nth]
  rw [hbv]
  have HK := Lib.hid hk
  have HNR := Lib.hid (sqS_range hNF)
  have HFR := Lib.hid (sqS_range hFF)
  have HNF := Lib.hid hNF
  have HFF := Lib.hid hFF
  have HRES := Lib.hid hres
  have hz1 : w.heap.size + 1 + 1 + 1 + 1 + 1 + 1 < W1.heap.size := hQ1.lt
  have hz2 : w.heap.size + 1 + 1 + 1 + 1 + 1 + 1 < w2.heap.size := (hQ1.keep hb2).lt
  have HR1 := Lib.hid (hR1.keep hb2)
  have HV1 := Lib.hid (v3_below hV1 hb2)
  have HQ1 := Lib.hid (hQ1.keep hb2)
  have HB2 := Lib.hid (hb1.trans (hb2.mono hb1.size))
  have HIX := Lib.hid (fun k hk w => idxR l1 h1 l2 h2 l3 h3 k hk w)
  clear hbv el1 eh1 el2 eh2 el3 eh3 c1 c2 c3 hPl hk hNF hFF hres hR1 hV1 hQ1 hb1 hb2
  go_wp2_with fail
  go_loopw [18] (fun i wr => ∃ k : Nat, k ≤ 3 ∧ i = .int .i64 (k : Int) ∧ At wr (w.heap.size + 1 + 1 + 1 + 1 + 1 + 1) 46 #[.int .i64 (sqS (nF3 l1 h1 l2 h2 l3 h3 p1 p2 p3) k), .int .i64 (sqS (fF3 l1 h1 l2 h2 l3 h3 p1 p2 p3) k)] ∧ Below (w.heap.size + 1 + 1 + 1 + 1 + 1 + 1) w2 wr) (fun i _ => 3 - (intOf i).toNat)
  case atStart => exact ⟨0, by omega, rfl, HQ1.out, Below.refl _ _⟩
  case round =>
    obtain ⟨k, hk, rfl, hAr, hwr⟩ := hrel
    have HAR := Lib.hid hAr
    have HWR := Lib.hid hwr
    have hzr := hwr.size
    have hzr' : w.heap.size + 1 + 1 + 1 + 1 + 1 + 1 ≤ wr.heap.size := by omega
    by_cases hlt : k < 3
    · obtain ⟨⟨m1, m2, m3⟩, m4, m5⟩ := HK.out k hlt
      obtain ⟨r1, r2⟩ := HNR.out k (by omega)
      obtain ⟨r3, r4⟩ := HFR.out k (by omega)
      obtain ⟨t1, t2⟩ := HNF.out k hlt
      obtain ⟨t3, t4⟩ := HFF.out k hlt
      have hidx := HIX.out k hlt
      obtain ⟨l, hl⟩ : ∃ x, x = nth l1 l2 l3 k := ⟨_, rfl⟩
      obtain ⟨h, hh⟩ : ∃ x, x = nth h1 h2 h3 k := ⟨_, rfl⟩
      obtain ⟨a, ha⟩ : ∃ x, x = nth p1 p2 p3 k := ⟨_, rfl⟩
      have hf1 : nF3 l1 h1 l2 h2 l3 h3 p1 p2 p3 k = near l h a := by unfold nF3; rw [← hl, ← hh, ← ha]
      have hf2 : fF3 l1 h1 l2 h2 l3 h3 p1 p2 p3 k = far l h a := by unfold fF3; rw [← hl, ← hh, ← ha]
      have hs1 : sqS (nF3 l1 h1 l2 h2 l3 h3 p1 p2 p3) (k + 1) = sqS (nF3 l1 h1 l2 h2 l3 h3 p1 p2 p3) k + near l h a * near l h a := by rw [sqS, hf1]
      have hs2 : sqS (fF3 l1 h1 l2 h2 l3 h3 p1 p2 p3) (k + 1) = sqS (fF3 l1 h1 l2 h2 l3 h3 p1 p2 p3) k + far l h a * far l h a := by rw [sqS, hf2]
      have e5 := (hwr.cell (p := ⟨w.heap.size + 1 + 1 + 1 + 1 + 1, k, none⟩) (by show w.heap.size + 1 + 1 + 1 + 1 + 1 < _; omega)).trans (v3_nth HV1.out hlt)
      rw [hf1] at t1 t2
      rw [hf2] at t3 t4
      rw [← hl, ← hh] at hidx
      rw [← hl, ← hh] at m2
      rw [← hl] at m1
      rw [← hh] at m3
      rw [← ha] at m4 m5 e5
      obtain ⟨s1, hs1'⟩ : ∃ x, x = sqS (nF3 l1 h1 l2 h2 l3 h3 p1 p2 p3) k := ⟨_, rfl⟩
      obtain ⟨s2, hs2'⟩ : ∃ x, x = sqS (fF3 l1 h1 l2 h2 l3 h3 p1 p2 p3) k := ⟨_, rfl⟩
      rw [← hs1'] at hs1 r1 r2 hAr
      rw [← hs2'] at hs2 r3 r4 hAr
      have q0 := hAr.cell 0
      have q1 := hAr.cell 1
      simp at q0 q1
      have f0 := hAr.free 0
      have f1 := hAr.free 1
      have u0 : (0 : Int) ≤ (k : Int) := by omega
      have u1 : (k : Int) < 3 := by omega
      have HS1 := Lib.hid hs1
      have HS2 := Lib.hid hs2
      have HA1 := Lib.hid hAr
      have w1 : IntKind.i64.wrap (l - a) = l - a := IntWalk.i64_in _ (by omega)
      have w2' : IntKind.i64.wrap (a - h) = a - h := IntWalk.i64_in _ (by omega)
      have w3 : IntKind.i64.wrap (h - a) = h - a := IntWalk.i64_in _ (by omega)
      have w4 : IntKind.i64.wrap (a - l) = a - l := IntWalk.i64_in _ (by omega)
      clear hs1 hs2 hs1' hs2' hf1 hf2 hl hh ha hAr hwr
      go_wp2_with fail
      have hN := At.new wr 46 #[.int .i64 l, .int .i64 h]
      have hbN : Below wr.heap.size wr (wr.alloc (.cells #[.int .i64 l, .int .i64 h] 46)) := below_new (Below.refl _ _) (Nat.le_refl _)
      generalize hW5 : wr.alloc (.cells #[.int .i64 l, .int .i64 h] 46) = W5 at hN hbN ⊢
      clear hW5
      have n0 := hN.cell 0
      have n1 := hN.cell 1
      simp at n0 n1
      have e5' := (hbN.cell (p := ⟨w.heap.size + 1 + 1 + 1 + 1 + 1, k, none⟩) (lt_cell e5)).trans e5
      have hA5 := HA1.out.keep hbN
      have HN5 := Lib.hid hbN
      have HA5 := Lib.hid hA5
      clear e5 q0 q1 f0 f1 hN hbN hA5
      have mx1 : (if (if l - a < a - h then a - h else l - a) < 0 then 0 else (if l - a < a - h then a - h else l - a)) = near l h a := by
        unfold near; split <;> split <;> omega
      have mx2 : (if h - a < a - l then a - l else h - a) = far l h a := by
        unfold far; split <;> omega
      have MX1 := Lib.hid mx1
      have MX2 := Lib.hid mx2
      clear mx1 mx2
      go_quiet (fail)
      rw [MX1.out]
      obtain ⟨x, hx⟩ : ∃ x, x = near l h a := ⟨_, rfl⟩
      obtain ⟨y, hy⟩ : ∃ x, x = far l h a := ⟨_, rfl⟩
      rw [← hx] at t1 t2 ⊢
      rw [← hy] at t3 t4
      have x1 := Int.mul_nonneg t1 t1
      have x2 := Int.mul_le_mul t2 t2 t1 (by omega)
      have y1 := Int.mul_nonneg t3 t3
      have y2 := Int.mul_le_mul t4 t4 t3 (by omega)
      have w5 : IntKind.i64.wrap (x * x) = x * x := IntWalk.i64_in _ (by omega)
      have w6 : IntKind.i64.wrap (y * y) = y * y := IntWalk.i64_in _ (by omega)
      have w7 : IntKind.i64.wrap (s1 + x * x) = s1 + x * x := IntWalk.i64_in _ (by omega)
      have w8 : IntKind.i64.wrap (s2 + y * y) = s2 + y * y := IntWalk.i64_in _ (by omega)
      have HX := Lib.hid hx
      have HY := Lib.hid hy
      clear hx hy
      go_wp2_with fail
      go_quiet (fail)
      rw [MX2.out, ← HY.out]
      clear n0 n1 e5'
      have hB7 : ∀ i j, Below (w.heap.size + 1 + 1 + 1 + 1 + 1 + 1) w2 ((W5.drewN i).drewN j) := fun i j => below_drewNs (below_drewNs (HWR.out.trans (HN5.out.mono hzr')))
      have hA7 : ∀ i j, At ((W5.drewN i).drewN j) (w.heap.size + 1 + 1 + 1 + 1 + 1 + 1) 46 #[.int .i64 s1, .int .i64 s2] := fun i j => HA5.out
      have hBA : ∀ W, (∃ i j, W = (W5.drewN i).drewN j) → Below (w.heap.size + 1 + 1 + 1 + 1 + 1 + 1) w2 W ∧ At W (w.heap.size + 1 + 1 + 1 + 1 + 1 + 1) 46 #[.int .i64 s1, .int .i64 s2] := by
        rintro W ⟨i, j, rfl⟩
        exact ⟨hB7 i j, hA7 i j⟩
      generalize hi7 : World.drewN W5 _ = W6
      generalize hj7 : World.drewN W6 _ = W7
      obtain ⟨hB, hA⟩ := hBA W7 ⟨_, _, by rw [hi7]; exact hj7.symm⟩
      have q0 := hA.cell 0
      have q1 := hA.cell 1
      simp at q0 q1
      have f0 := hA.free 0
      have f1 := hA.free 1
      have hE2 := (hA.put 0 (.int .i64 (s1 + x * x))).put 1 (.int .i64 (s2 + y * y))
      have hE3 := below_set (g := w.heap.size + 1 + 1 + 1 + 1 + 1 + 1) (i := 1) (u := .int .i64 (s2 + y * y)) (below_set (g := w.heap.size + 1 + 1 + 1 + 1 + 1 + 1) (i := 0) (u := .int .i64 (s1 + x * x)) hB (Nat.le_refl _)) (Nat.le_refl _)
      have hE4 : #[Value.int .i64 (sqS (nF3 l1 h1 l2 h2 l3 h3 p1 p2 p3) (k + 1)), Value.int .i64 (sqS (fF3 l1 h1 l2 h2 l3 h3 p1 p2 p3) (k + 1))] = (#[Value.int .i64 s1, .int .i64 s2].setIfInBounds 0 (.int .i64 (s1 + x * x))).setIfInBounds 1 (.int .i64 (s2 + y * y)) := by
        rw [HS1.out, HS2.out, ← HX.out, ← HY.out]; rfl
      rw [← hE4] at hE2
      have HE2 := Lib.hid hE2
      have HE3 := Lib.hid hE3
      clear hE2 hE3 hE4 hB7 hA7 hBA hi7 hj7 hB hA
      go_wp2
      go_roundw
      case rel => exact ⟨k + 1, by omega, by go_num, HE2.out, HE3.out⟩
      case measure => simp [intOf]; omega
    · obtain rfl : k = 3 := by omega
      have hA := HAR.out
      rw [← HRES.out.1, ← HRES.out.2] at hA
      have q0 := hA.cell 0
      have q1 := hA.cell 1
      simp at q0 q1
      have hR2 : At wr (w.heap.size + 1 + 1) 46 #[.int .i64 0, .int .i64 0] := HR1.out.below hwr (by omega)
      have t0 := hR2.cell 0
      have t1 := hR2.cell 1
      simp at t0 t1
      have f0 := hR2.free 0
      have f1 := hR2.free 1
      have HBf := Lib.hid (HB2.out.trans (hwr.mono (by omega)))
      clear hA hR2 hAr hwr
      go_wp2
      refine bodyPost_ret (v := sqV S n b t P) ?h1 rfl ⟨rfl, ?_⟩
      case h1 => simp [results, Try.results93, go_sem, sqV, *]
      have HBB := HBf.out
      repeat (first | (with_reducible exact HBB) | (with_reducible refine below_set ?_ (by omega)))
end Go.Proofs.Ytnaanninmkplfaa
