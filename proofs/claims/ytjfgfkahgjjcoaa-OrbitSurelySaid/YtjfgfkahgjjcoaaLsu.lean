/- The law: wherever in its boxes the satellite is, a tick at which it is nearest lies among ticks that are accepted. -/
import Derived.Test.YtjfgfkahgjjcoaaOin
import Derived.Test.YtjfgfkahgjjcoaaLpr
import Derived.Test.YtjfgfkahgjjcoaaOsu
import Derived.StillTailTactics
namespace Go.Proofs.Ytjfgfkahgjjcoaa
open Go.RowKit
set_option maxHeartbeats 3200000
set_option maxRecDepth 100000

/-- parts in memory -/
def Pt (w : World) (A : Option Addr) (m : Nat) (Q : Nat → Nat → Int) : Prop :=
  0 < m → ∃ b off, A = some ⟨b, off, none⟩ ∧ b < w.heap.size ∧ ∀ i, i < m → ∀ j, j < 3 → w.cell? ⟨b, off + (i * 3 + j), none⟩ = some (.int .i64 (Q i j))
theorem Pt.below {w w' : World} {A : Option Addr} {n : Nat} {S : Nat → Nat → Int} (h : Pt w A n S) (hb : Below w.heap.size w w') : Pt w' A n S := fun hn => by
  obtain ⟨b, off, e, hl, hc⟩ := h hn
  exact ⟨b, off, e, Nat.lt_of_lt_of_le hl hb.size, fun i hi j hj => (hb.cell (p := ⟨b, _, none⟩) hl).trans (hc i hi j hj)⟩
theorem sqS_nonneg (F : Nat → Int) : ∀ k, 0 ≤ sqS F k
  | 0 => by simp [sqS]
  | k + 1 => by
    have a := sqS_nonneg F k
    have e := sq_nonneg (F k)
    rw [sqS]
    omega
theorem CN_split {nm : Bool} {b : Int} {n : Nat} {S : Nat → Nat → Int} {p1 p2 p3 xl xh xw x y : Int} (h : CN nm b n S p1 p2 p3 xl xh xw (.returned (.tuple #[.int .i64 x, .int .i64 y]))) :
    ¬ y = 0 ∨ (y = 0 ∧ 0 < x ∧ Has S n xw ∧ ∀ t, Has S n t → okT S n b (P3 p1 p2 p3) xl xh xw t) := by
  rcases h with ⟨h1, h⟩ | ⟨_, _, h⟩ | ⟨h1, h2, h⟩
  · simp at h
    exact .inl (by omega)
  · simp at h
    exact .inl (by omega)
  · simp at h
    obtain ⟨_, _, _, _, _, h3, h4⟩ := eC_zero h1
    exact .inr ⟨by omega, by omega, h3, h2⟩

theorem surely_all {w : World} {s : ByteArray} {b : Int} {A AP : Option Addr} {n c m cm : Nat} {S Q : Nat → Nat → Int} {p1 p2 p3 xl xh xw : Int} (h : OrbIn w s b A n c S) (hq : Pt w AP m Q) (hmc : m ≤ cm) (hcm : cm ≤ maxLen) (_hp : I64 p1 ∧ I64 p2 ∧ I64 p3) (_hx : I64 xl ∧ I64 xh ∧ I64 xw) :
    Calls Try.prog 10 #[.agg #[.string s, .int .i64 b, .slice A n c, .slice AP m cm], .agg #[.int .i64 p1, .int .i64 p2, .int .i64 p3], .agg #[.int .i64 xl, .int .i64 xh, .int .i64 xw]] w fun e w' => e = .returned (.bool true) ∧ Below w.heap.size w w' := by
  obtain ⟨hs, hn, hc, _, hS, _, hA0⟩ := h
  have H1 := Lib.hid hs
  have HN := Lib.hid hn
  have HC := Lib.hid hc
  have HA0 := Lib.hid hA0
  have HS := Lib.hid hS
  have HQ := Lib.hid hq
  have HM := Lib.hid (Nat.le_trans hmc hcm)
  clear hs hn hc hS hA0 hq hmc hcm
  go_enter Try.func10, Try.ntmps10
  go_wp2_with fail
  have hF0 : At (((w.alloc (.cells #[.string s, .int .i64 b, .slice A n c, .slice AP m cm] 83)).alloc (.cells #[.int .i64 p1, .int .i64 p2, .int .i64 p3] 42)).alloc (.cells #[.int .i64 xl, .int .i64 xh, .int .i64 xw] 77)) (w.heap.size) 83 #[.string s, .int .i64 b, .slice A n c, .slice AP m cm] := ((At.new w _ _).alloc _).alloc _
  have hL0 : At (((w.alloc (.cells #[.string s, .int .i64 b, .slice A n c, .slice AP m cm] 83)).alloc (.cells #[.int .i64 p1, .int .i64 p2, .int .i64 p3] 42)).alloc (.cells #[.int .i64 xl, .int .i64 xh, .int .i64 xw] 77)) (w.heap.size + 1) 42 #[.int .i64 p1, .int .i64 p2, .int .i64 p3] := (at_new (by simp)).alloc _
  have hX0 : At (((w.alloc (.cells #[.string s, .int .i64 b, .slice A n c, .slice AP m cm] 83)).alloc (.cells #[.int .i64 p1, .int .i64 p2, .int .i64 p3] 42)).alloc (.cells #[.int .i64 xl, .int .i64 xh, .int .i64 xw] 77)) (w.heap.size + 1 + 1) 77 #[.int .i64 xl, .int .i64 xh, .int .i64 xw] := at_new (by simp)
  have hb0 : Below w.heap.size w (((w.alloc (.cells #[.string s, .int .i64 b, .slice A n c, .slice AP m cm] 83)).alloc (.cells #[.int .i64 p1, .int .i64 p2, .int .i64 p3] 42)).alloc (.cells #[.int .i64 xl, .int .i64 xh, .int .i64 xw] 77)) := by
    repeat (first | (with_reducible exact Below.refl _ _) | (with_reducible refine below_new ?_ (by first | omega | (simp; done) | (simp; omega))))
  refine (awake_ok _).mono ?_
  rintro e w1 ⟨rfl, hb1⟩
  have hF1 := hF0.keep hb1
  have hL1 := hL0.keep hb1
  have hX1 := hX0.keep hb1
  have hB1 := below_two hb0 hb1
  have a0 := hF1.cell 0
  have a1 := hF1.cell 1
  have a2 := hF1.cell 2
  simp at a0 a1 a2
  have hF2 := hF1.alloc (.cells #[.string s, .int .i64 b, .slice A n c] 24)
  have hL2 := hL1.alloc (.cells #[.string s, .int .i64 b, .slice A n c] 24)
  have hX2 := hX1.alloc (.cells #[.string s, .int .i64 b, .slice A n c] 24)
  have hO2 := At.new w1 24 #[.string s, .int .i64 b, .slice A n c]
  have hB2 := below_new hB1 hB1.size (o := .cells #[.string s, .int .i64 b, .slice A n c] 24)
  have hO2c0 := hO2.cell 0
  have hO2c1 := hO2.cell 1
  have hO2c2 := hO2.cell 2
  simp at hO2c0 hO2c1 hO2c2
  clear hF0 hL0 hX0 hb0 hb1 hF1 hL1 hX1 hB1
  have HF2 := Lib.hid hF2
  have HL2 := Lib.hid hL2
  have HX2 := Lib.hid hX2
  have HO2 := Lib.hid hO2
  have HB2 := Lib.hid hB2
  clear hF2 hL2 hX2 hO2 hB2
  go_wp2_with fail
  generalize hW2 : w1.alloc (.cells #[.string s, .int .i64 b, .slice A n c] 24) = w2 at HF2 HL2 HX2 HO2 HB2 hO2c0 hO2c1 hO2c2 ⊢
  clear hW2 hO2c0 hO2c1 hO2c2 a0 a1 a2
  refine (brief_any s b A n c S w2 (HS.out.below HB2.out) H1.out HN.out HC.out).mono ?_
  rintro e w3 ⟨rfl, hb3⟩
  have hF3 := HF2.out.keep hb3
  have hL3 := HL2.out.keep hb3
  have hX3 := HX2.out.keep hb3
  have hO3 := HO2.out.keep hb3
  have HB3 := Lib.hid (HB2.out.trans (hb3.mono HB2.out.size))
  clear hb3
  have a0 := hF3.cell 0
  have a1 := hF3.cell 1
  have a2 := hF3.cell 2
  have a3 := hF3.cell 3
  have b0 := hL3.cell 0
  have b1 := hL3.cell 1
  have b2 := hL3.cell 2
  have c0 := hX3.cell 0
  have c1 := hX3.cell 1
  have c2 := hX3.cell 2
  have o0 := hO3.cell 0
  have o1 := hO3.cell 1
  have o2 := hO3.cell 2
  simp at a0 a1 a2 a3 b0 b1 b2 c0 c1 c2 o0 o1 o2
  have HF3 := Lib.hid hF3
  have HL3 := Lib.hid hL3
  have HX3 := Lib.hid hX3
  have HO3 := Lib.hid hO3
  clear hF3 hL3 hX3 hO3
  cases hf : briefB s b n S
  case false =>
    go_wp2
    go_ret
    exact ⟨rfl, HB3.out⟩
  case true =>
    have hfew : fewB s n = true := by
      unfold briefB at hf
      rw [Bool.and_eq_true] at hf
      exact hf.1
    have HFW := Lib.hid hfew
    clear hf hfew
    go_wp2_with fail
    refine (refErr_any s b A n c S w3 (HS.out.below HB3.out) H1.out HN.out HC.out).mono ?_
    rintro e w4 ⟨rfl, hb4⟩
    have hF4 := HF3.out.keep hb4
    have hL4 := HL3.out.keep hb4
    have hX4 := HX3.out.keep hb4
    have hO4 := HO3.out.keep hb4
    have HB4 := Lib.hid (HB3.out.trans (hb4.mono HB3.out.size))
    clear a0 a1 a2 a3 b0 b1 b2 c0 c1 c2 o0 o1 o2 hb4
    have a0 := hF4.cell 0
    have a1 := hF4.cell 1
    have a2 := hF4.cell 2
    have a3 := hF4.cell 3
    have b0 := hL4.cell 0
    have b1 := hL4.cell 1
    have b2 := hL4.cell 2
    have c0 := hX4.cell 0
    have c1 := hX4.cell 1
    have c2 := hX4.cell 2
    have o0 := hO4.cell 0
    have o1 := hO4.cell 1
    have o2 := hO4.cell 2
    simp at a0 a1 a2 a3 b0 b1 b2 c0 c1 c2 o0 o1 o2
    have HF4 := Lib.hid hF4
    have HL4 := Lib.hid hL4
    have HX4 := Lib.hid hX4
    have HO4 := Lib.hid hO4
    clear hF4 hL4 hX4 hO4
    by_cases h0 : (oce (nmB s) b n S).2 = 0
    case neg =>
      have d0 : ((oce (nmB s) b n S).2 != 0) = true := by simpa using h0
      go_wp2
      go_ret
      exact ⟨rfl, HB4.out⟩
    case pos =>
      have hR := (oce_zero h0).2
      have hnm := (oce_zero h0).1
      have HR := Lib.hid hR
      have HNM := Lib.hid hnm
      clear hR hnm
      rw [h0]
      clear h0
      go_wp2_with fail
      refine (refIsPlace_any p1 p2 p3 _).mono ?_
      rintro e w5 ⟨rfl, hw5⟩
      have hb5 : Below w4.heap.size w4 w5 := by rw [← hw5]; exact below_new (Below.refl _ w4) (Nat.le_refl _)
      clear hw5
      have hF5 := HF4.out.keep hb5
      have hL5 := HL4.out.keep hb5
      have hX5 := HX4.out.keep hb5
      have hO5 := HO4.out.keep hb5
      have HB5 := Lib.hid (HB4.out.trans (hb5.mono HB4.out.size))
      clear a0 a1 a2 a3 b0 b1 b2 c0 c1 c2 o0 o1 o2 hb5
      have a0 := hF5.cell 0
      have a1 := hF5.cell 1
      have a2 := hF5.cell 2
      have a3 := hF5.cell 3
      have b0 := hL5.cell 0
      have b1 := hL5.cell 1
      have b2 := hL5.cell 2
      have c0 := hX5.cell 0
      have c1 := hX5.cell 1
      have c2 := hX5.cell 2
      have o0 := hO5.cell 0
      have o1 := hO5.cell 1
      have o2 := hO5.cell 2
      simp at a0 a1 a2 a3 b0 b1 b2 c0 c1 c2 o0 o1 o2
      have HF5 := Lib.hid hF5
      have HL5 := Lib.hid hL5
      have HX5 := Lib.hid hX5
      have HO5 := Lib.hid hO5
      clear hF5 hL5 hX5 hO5
      rw [pl_pe]
      by_cases hp : pe p1 p2 p3 = 0
      case neg =>
        rw [decide_eq_false hp]
        clear hp
        go_wp2
        go_ret
        exact ⟨rfl, HB5.out⟩
      case pos =>
        rw [decide_eq_true hp]
        have HPL := Lib.hid (pe_zero hp)
        clear hp
        by_cases hm0 : m = 0
        case pos =>
          subst hm0
          go_wp2
          go_ret
          exact ⟨rfl, HB5.out⟩
        case neg =>
          have g0 : ¬ (m : Int) = 0 := by omega
          by_cases hm1 : 250 < m
          case pos =>
            have g1 : (250 : Int) < (m : Int) := by omega
            go_wp2
            go_ret
            exact ⟨rfl, HB5.out⟩
          case neg =>
            have g1 : ¬ (250 : Int) < (m : Int) := by omega
            have HSS : Hid (∀ w', Below w5.heap.size w5 w' → w'.cell? ⟨w1.heap.size, 0, none⟩ = some (.string s) ∧ w'.cell? ⟨w1.heap.size, 1, none⟩ = some (.int .i64 b) ∧ w'.cell? ⟨w1.heap.size, 2, none⟩ = some (.slice A n c) ∧ w'.cell? ⟨w.heap.size + 1, 0, none⟩ = some (.int .i64 p1) ∧ w'.cell? ⟨w.heap.size + 1, 1, none⟩ = some (.int .i64 p2) ∧ w'.cell? ⟨w.heap.size + 1, 2, none⟩ = some (.int .i64 p3) ∧ w'.cell? ⟨w.heap.size + 1 + 1, 0, none⟩ = some (.int .i64 xl) ∧ w'.cell? ⟨w.heap.size + 1 + 1, 1, none⟩ = some (.int .i64 xh) ∧ w'.cell? ⟨w.heap.size + 1 + 1, 2, none⟩ = some (.int .i64 xw)) := fun w' hW => by
              have q := HO5.out.keep hW
              have r := HL5.out.keep hW
              have u := HX5.out.keep hW
              exact ⟨q.cell 0, q.cell 1, q.cell 2, r.cell 0, r.cell 1, r.cell 2, u.cell 0, u.cell 1, u.cell 2⟩
            have HP1 : Hid (∀ W : World, Below w5.heap.size w5 W → Calls Try.prog 18 #[.agg #[.string s, .int .i64 b, .slice A n c]] W fun e w' => (∃ A' c', e = .returned (.agg #[.string s, .int .i64 b, .slice A' n c']) ∧ St w' A' n S ∧ n ≤ c' ∧ c' ≤ maxLen) ∧ Below w5.heap.size w5 w' ∧ w'.cell? ⟨w1.heap.size, 0, none⟩ = some (.string s) ∧ w'.cell? ⟨w1.heap.size, 1, none⟩ = some (.int .i64 b) ∧ w'.cell? ⟨w1.heap.size, 2, none⟩ = some (.slice A n c) ∧ w'.cell? ⟨w.heap.size + 1, 0, none⟩ = some (.int .i64 p1) ∧ w'.cell? ⟨w.heap.size + 1, 1, none⟩ = some (.int .i64 p2) ∧ w'.cell? ⟨w.heap.size + 1, 2, none⟩ = some (.int .i64 p3) ∧ w'.cell? ⟨w.heap.size + 1 + 1, 0, none⟩ = some (.int .i64 xl) ∧ w'.cell? ⟨w.heap.size + 1 + 1, 1, none⟩ = some (.int .i64 xh) ∧ w'.cell? ⟨w.heap.size + 1 + 1, 2, none⟩ = some (.int .i64 xw)) := by
              intro W hW
              refine (copy_any s b A n c S W (HS.out.below (HB5.out.trans (hW.mono HB5.out.size))) (by have := few_size HFW.out; omega) HA0.out).mono ?_
              rintro e w' ⟨A', c', rfl, hst, h1, h2, _, _, hb⟩
              have hB := hW.trans (hb.mono hW.size)
              exact ⟨⟨A', c', rfl, hst, h1, h2⟩, hB, HSS.out _ hB⟩
            have HP2 : Hid (∀ (W V : World) (A' : Option Addr) (c' : Nat), St V A' n S → n ≤ c' → c' ≤ maxLen → Below w5.heap.size w5 V → Below V.heap.size V W → Calls Try.prog 43 #[.agg #[.string s, .int .i64 b, .slice A' n c'], .agg #[.int .i64 p1, .int .i64 p2, .int .i64 p3], .agg #[.int .i64 xl, .int .i64 xh, .int .i64 xw]] W fun e w' => (∃ x y : Int, e = .returned (.tuple #[.int .i64 x, .int .i64 y]) ∧ CN (nmB s) b n S p1 p2 p3 xl xh xw (.returned (.tuple #[.int .i64 x, .int .i64 y]))) ∧ Below w5.heap.size w5 w' ∧ w'.cell? ⟨w1.heap.size, 0, none⟩ = some (.string s) ∧ w'.cell? ⟨w1.heap.size, 1, none⟩ = some (.int .i64 b) ∧ w'.cell? ⟨w1.heap.size, 2, none⟩ = some (.slice A n c) ∧ w'.cell? ⟨w.heap.size + 1, 0, none⟩ = some (.int .i64 p1) ∧ w'.cell? ⟨w.heap.size + 1, 1, none⟩ = some (.int .i64 p2) ∧ w'.cell? ⟨w.heap.size + 1, 2, none⟩ = some (.int .i64 p3) ∧ w'.cell? ⟨w.heap.size + 1 + 1, 0, none⟩ = some (.int .i64 xl) ∧ w'.cell? ⟨w.heap.size + 1 + 1, 1, none⟩ = some (.int .i64 xh) ∧ w'.cell? ⟨w.heap.size + 1 + 1, 2, none⟩ = some (.int .i64 xw)) := by
              intro W V A' c' hst h1 h2 hV hW
              refine (checkNearest_any s b A' n c' S p1 p2 p3 xl xh xw W (hst.below hW) H1.out h1 h2).mono ?_
              rintro e w' ⟨hcn, hb⟩
              obtain ⟨x, y, rfl⟩ := CN_form hcn
              have hB := below_two hV (hW.trans (hb.mono hW.size))
              exact ⟨⟨x, y, rfl, hcn⟩, hB, HSS.out _ hB⟩
            clear a0 a1 a2 a3 b0 b1 b2 c0 c1 c2 o0 o1 o2
            obtain ⟨s0, s1, s2, s3, s4, s5, s6, s7, s8⟩ := HSS.out w5 (Below.refl _ _)
            have a3 := HF5.out.cell 3
            simp at a3
            have e0 : ((m : Int) == 0) = false := by simpa using g0
            have e1 : decide ((250 : Int) < (m : Int)) = false := decide_eq_false g1
            go_wp2_with fail
            clear a3
            go_region_held3 (fun w' => w'.cell? ⟨w1.heap.size, 0, none⟩ = some (.string s) ∧ w'.cell? ⟨w1.heap.size, 1, none⟩ = some (.int .i64 b) ∧ w'.cell? ⟨w1.heap.size, 2, none⟩ = some (.slice A n c) ∧ w'.cell? ⟨w.heap.size + 1, 0, none⟩ = some (.int .i64 p1) ∧ w'.cell? ⟨w.heap.size + 1, 1, none⟩ = some (.int .i64 p2) ∧ w'.cell? ⟨w.heap.size + 1, 2, none⟩ = some (.int .i64 p3) ∧ w'.cell? ⟨w.heap.size + 1 + 1, 0, none⟩ = some (.int .i64 xl) ∧ w'.cell? ⟨w.heap.size + 1 + 1, 1, none⟩ = some (.int .i64 xh) ∧ w'.cell? ⟨w.heap.size + 1 + 1, 2, none⟩ = some (.int .i64 xw)) (go_keep)
              (first
                | (go_at_call 18; (with_reducible refine (HP1.out _ ?_).mono ?_); (repeat (first | assumption | (with_reducible exact Below.refl _ _) | (with_reducible refine Below.drew ?_) | (with_reducible refine below_drewNs ?_))); rintro e w6 ⟨⟨A6, c6, rfl, hst6, hn6, hc6⟩, hb6, ha0, ha1, ha2, ha3, ha4, ha5, ha6, ha7, ha8⟩)
                | (go_at_call 43; (with_reducible refine (HP2.out _ w6 A6 c6 hst6 hn6 hc6 hb6 ?_).mono ?_); (repeat (first | assumption | (with_reducible exact Below.refl _ _) | (with_reducible refine Below.drew ?_) | (with_reducible refine below_drewNs ?_))); rintro e w7 ⟨⟨x, y, rfl, hcn⟩, hb7, hd0, hd1, hd2, hd3, hd4, hd5, hd6, hd7, hd8⟩))
            clear hd0 hd1 hd2 hd3 hd4 hd5 hd6 hd7 hd8 s0 s1 s2 s3 s4 s5 s6 s7 s8 HSS HP1 HP2
            have hF7 := HF5.out.keep hb7
            have hL7 := HL5.out.keep hb7
            have hX7 := HX5.out.keep hb7
            have hO7 := HO5.out.keep hb7
            have HB7 := Lib.hid (HB5.out.trans (hb7.mono HB5.out.size))
            clear hb7
            have a0 := hF7.cell 0
            have a1 := hF7.cell 1
            have a2 := hF7.cell 2
            have a3 := hF7.cell 3
            have b0 := hL7.cell 0
            have b1 := hL7.cell 1
            have b2 := hL7.cell 2
            have c0 := hX7.cell 0
            have c1 := hX7.cell 1
            have c2 := hX7.cell 2
            have o0 := hO7.cell 0
            have o1 := hO7.cell 1
            have o2 := hO7.cell 2
            simp at a0 a1 a2 a3 b0 b1 b2 c0 c1 c2 o0 o1 o2
            have HF7 := Lib.hid hF7
            have HL7 := Lib.hid hL7
            have HX7 := Lib.hid hX7
            have HO7 := Lib.hid hO7
            clear hF7 hL7 hX7 hO7
            rcases CN_split hcn with hy | ⟨rfl, hx, hxw, hall⟩
            case inl =>
              have d0 : (y != 0) = true := by simpa using hy
              go_wp2
              go_ret
              exact ⟨rfl, HB7.out⟩
            case inr =>
              have g2 : ¬ x ≤ 0 := by omega
              have HALL := Lib.hid hall
              have HXW := Lib.hid hxw
              clear hx hxw hall hcn
              go_wp2_with fail
              have hn0 : 0 < n := by have := HR.out.1; omega
              have hmn := Nat.le_trans HN.out HC.out
              have F4 : Hid (∀ X : World, St X A n S → Calls Try.prog 45 #[.agg #[.string s, .int .i64 b, .slice A n c]] X fun e w' => e = .returned (.int .i64 (S 0 0)) ∧ Below X.heap.size X w') := fun X hX => refFirst_any s b A n c S X hX hn0
              have F5 : Hid (∀ X : World, St X A n S → Calls Try.prog 46 #[.agg #[.string s, .int .i64 b, .slice A n c]] X fun e w' => e = .returned (.int .i64 (S (n - 1) 0)) ∧ Below X.heap.size X w') := fun X hX => refLast_any s b A n c S X hX hn0 hmn
              have z1 := (HR.out.2.2.2.1 0 hn0).1
              have z2 := (HR.out.2.2.2.1 (n - 1) (by omega)).1
              have HHS : Hid (∀ t, S 0 0 ≤ t → t ≤ S (n - 1) 0 → Go.Proofs.Ytjfgfkahgjjcoaa.Has S n t) := fun t h1 h2 => ⟨h1, h2⟩
              have hxw2 : S 0 0 ≤ xw ∧ xw ≤ S (n - 1) 0 := HXW.out
              generalize S (n - 1) 0 = y at *
              generalize S 0 0 = z at *
              clear hn0 hmn
              refine (F4.out _ (HS.out.below HB7.out)).mono ?_
              rintro e w8 ⟨rfl, hb8⟩
              have hF8 := HF7.out.keep hb8
              have hL8 := HL7.out.keep hb8
              have hX8 := HX7.out.keep hb8
              have hO8 := HO7.out.keep hb8
              have HB8 := Lib.hid (HB7.out.trans (hb8.mono HB7.out.size))
              clear a0 a1 a2 a3 b0 b1 b2 c0 c1 c2 o0 o1 o2 hb8
              have a0 := hF8.cell 0
              have a1 := hF8.cell 1
              have a2 := hF8.cell 2
              have a3 := hF8.cell 3
              have b0 := hL8.cell 0
              have b1 := hL8.cell 1
              have b2 := hL8.cell 2
              have c0 := hX8.cell 0
              have c1 := hX8.cell 1
              have c2 := hX8.cell 2
              have o0 := hO8.cell 0
              have o1 := hO8.cell 1
              have o2 := hO8.cell 2
              simp at a0 a1 a2 a3 b0 b1 b2 c0 c1 c2 o0 o1 o2
              have HF8 := Lib.hid hF8
              have HL8 := Lib.hid hL8
              have HX8 := Lib.hid hX8
              have HO8 := Lib.hid hO8
              clear hF8 hL8 hX8 hO8
              go_wp2_with fail
              go_loopw [10, 11, 12] (fun i10 i11 i12 wr => ∃ t : Int, i12 = .int .i64 t ∧ z ≤ t ∧ t ≤ y + 1 ∧ Below w8.heap.size w8 wr ∧ ((t = z ∧ i10 = .int .i64 0 ∧ i11 = .int .i64 (-1)) ∨ ∃ bt : Int, i10 = .int .i64 bt ∧ i11 = .int .i64 (sT S n b Q m p1 p2 p3 bt) ∧ z ≤ bt ∧ bt < t ∧ ∀ u, z ≤ u → u < t → sT S n b Q m p1 p2 p3 bt ≤ sT S n b Q m p1 p2 p3 u)) (fun _ _ i _ => (y + 1 - intOf i).toNat)
              case atStart => exact ⟨z, rfl, Int.le_refl _, by omega, Below.refl _ _, .inl ⟨rfl, rfl, rfl⟩⟩
              case round =>
                obtain ⟨t, rfl, ht1, ht2, hwr, hst⟩ := hrel
                have HST := Lib.hid hst
                have HWR := Lib.hid hwr
                clear hst
                have hF9 := HF8.out.keep hwr
                have hL9 := HL8.out.keep hwr
                have hX9 := HX8.out.keep hwr
                have hO9 := HO8.out.keep hwr
                have HB9 := Lib.hid (HB8.out.trans (hwr.mono HB8.out.size))
                clear a0 a1 a2 a3 b0 b1 b2 c0 c1 c2 o0 o1 o2 hwr
                have a0 := hF9.cell 0
                have a1 := hF9.cell 1
                have a2 := hF9.cell 2
                have a3 := hF9.cell 3
                have b0 := hL9.cell 0
                have b1 := hL9.cell 1
                have b2 := hL9.cell 2
                have c0 := hX9.cell 0
                have c1 := hX9.cell 1
                have c2 := hX9.cell 2
                have o0 := hO9.cell 0
                have o1 := hO9.cell 1
                have o2 := hO9.cell 2
                simp at a0 a1 a2 a3 b0 b1 b2 c0 c1 c2 o0 o1 o2
                have HF9 := Lib.hid hF9
                have HL9 := Lib.hid hL9
                have HX9 := Lib.hid hX9
                have HO9 := Lib.hid hO9
                clear hF9 hL9 hX9 hO9
                go_wp2_with fail
                refine (F5.out _ (HS.out.below HB9.out)).mono ?_
                rintro e w10 ⟨rfl, hb10⟩
                have HWR10 := Lib.hid (HWR.out.trans (hb10.mono HWR.out.size))
                have hF10 := HF9.out.keep hb10
                have hL10 := HL9.out.keep hb10
                have hX10 := HX9.out.keep hb10
                have hO10 := HO9.out.keep hb10
                have HB10 := Lib.hid (HB9.out.trans (hb10.mono HB9.out.size))
                clear a0 a1 a2 a3 b0 b1 b2 c0 c1 c2 o0 o1 o2 hb10
                have a0 := hF10.cell 0
                have a1 := hF10.cell 1
                have a2 := hF10.cell 2
                have a3 := hF10.cell 3
                have b0 := hL10.cell 0
                have b1 := hL10.cell 1
                have b2 := hL10.cell 2
                have c0 := hX10.cell 0
                have c1 := hX10.cell 1
                have c2 := hX10.cell 2
                have o0 := hO10.cell 0
                have o1 := hO10.cell 1
                have o2 := hO10.cell 2
                simp at a0 a1 a2 a3 b0 b1 b2 c0 c1 c2 o0 o1 o2
                have HF10 := Lib.hid hF10
                have HL10 := Lib.hid hL10
                have HX10 := Lib.hid hX10
                have HO10 := Lib.hid hO10
                clear hF10 hL10 hX10 hO10
                by_cases hlt : t ≤ y
                case neg =>
                  rcases HST.out with ⟨htz, _, _⟩ | ⟨bt, rfl, rfl, hb1, hb2, hmin⟩
                  case inl => exact absurd (show t ≤ y by omega) hlt
                  case inr =>
                    have hbin := best_in HR.out HXW.out (HHS.out bt hb1 (by omega)) (HALL.out bt (HHS.out bt hb1 (by omega))) (hmin xw hxw2.1 (by omega))
                    have HW : Hid (∀ W : World, Calls Try.prog 21 #[.int .i64 bt, .int .i64 xl, .int .i64 xh] W fun e w' => e = .returned (.bool true) ∧ W = w') := fun W => by rw [← inB_t hbin]; exact baseWithin_any _ _ _ W
                    clear hmin hbin
                    go_wp2_with (go_at_call 21; refine (HW.out _).mono ?_; rintro e w' ⟨rfl, rfl⟩)
                    go_ret
                    exact ⟨rfl, HB10.out⟩
                case pos =>
                  have hT := HHS.out t ht1 hlt
                  have HT := Lib.hid hT
                  have he2 : e2 (nmB s) b n S t = 0 := by rw [HNM.out]; exact e2_right HR.out hT
                  have hbox : boxR (nmB s) b n S t = .tuple #[boxV S n b t, .int .i64 0] := if_pos he2
                  have HBOX := Lib.hid hbox
                  clear hT he2 hbox
                  go_wp2_with fail
                  refine (copy_any s b A n c S w10 (HS.out.below HB10.out) (by have := few_size HFW.out; omega) HA0.out).mono ?_
                  rintro e w11 ⟨A11, c11, rfl, hst11, hn11, hc11, _, _, hb11⟩
                  go_wp2_with fail
                  refine (boxAt_any s b A11 n c11 S t w11 hst11 H1.out hn11 hc11).mono ?_
                  rw [HBOX.out]
                  rintro e w12 ⟨rfl, hb12⟩
                  have hb1012 := below_two hb11 hb12
                  have HWR12 := Lib.hid (HWR10.out.trans (hb1012.mono HWR10.out.size))
                  clear hb11 hb12 hst11 hn11 hc11
                  have hF12 := HF10.out.keep hb1012
                  have hL12 := HL10.out.keep hb1012
                  have hX12 := HX10.out.keep hb1012
                  have hO12 := HO10.out.keep hb1012
                  have HB12 := Lib.hid (HB10.out.trans (hb1012.mono HB10.out.size))
                  clear a0 a1 a2 a3 b0 b1 b2 c0 c1 c2 o0 o1 o2 hb1012
                  have a0 := hF12.cell 0
                  have a1 := hF12.cell 1
                  have a2 := hF12.cell 2
                  have a3 := hF12.cell 3
                  have b0 := hL12.cell 0
                  have b1 := hL12.cell 1
                  have b2 := hL12.cell 2
                  have c0 := hX12.cell 0
                  have c1 := hX12.cell 1
                  have c2 := hX12.cell 2
                  have o0 := hO12.cell 0
                  have o1 := hO12.cell 1
                  have o2 := hO12.cell 2
                  simp at a0 a1 a2 a3 b0 b1 b2 c0 c1 c2 o0 o1 o2
                  have HF12 := Lib.hid hF12
                  have HL12 := Lib.hid hL12
                  have HX12 := Lib.hid hX12
                  have HO12 := Lib.hid hO12
                  clear hF12 hL12 hX12 hO12
                  unfold boxV
                  have hnums := dT_nums (Q := Q) (m := m) HR.out HT.out HPL.out
                  have HDT : Hid (dT S n b Q m p1 p2 p3 t = dT S n b Q m p1 p2 p3 t) := rfl
                  have hmo := Mo_range (a := t) (m := (m : Int)) (by omega)
                  obtain ⟨j, hj⟩ : ∃ j : Nat, Mo t m = (j : Int) := ⟨(Mo t m).toNat, by omega⟩
                  have hjm : j < m := by omega
                  have hF0 : ∀ k, dT S n b Q m p1 p2 p3 t k = spot (nth (lo S n b t 1) (lo S n b t 2) (lo S n b t 3) k) (nth (hi S n b t 1) (hi S n b t 2) (hi S n b t 3) k) (nth (Q j 0) (Q j 1) (Q j 2) k) - nth p1 p2 p3 k := fun k => by
                    unfold dT
                    rw [hj]
                    rfl
                  have hsT : sT S n b Q m p1 p2 p3 t = sqS (dT S n b Q m p1 p2 p3 t) 3 := rfl
                  have HSTT := Lib.hid hsT
                  have hss := sqS_small (fun k hk => (hnums k hk).2.2)
                  obtain ⟨F, hFF⟩ : ∃ F, F = dT S n b Q m p1 p2 p3 t := ⟨_, rfl⟩
                  rw [← hFF] at hF0 hss HSTT
                  have hnums2 : ∀ k, k < 3 → (-100200000 ≤ nth (lo S n b t 1) (lo S n b t 2) (lo S n b t 3) k ∧ nth (lo S n b t 1) (lo S n b t 2) (lo S n b t 3) k ≤ nth (hi S n b t 1) (hi S n b t 2) (hi S n b t 3) k ∧ nth (hi S n b t 1) (hi S n b t 2) (hi S n b t 3) k ≤ 100200000) ∧ (-100000000 ≤ nth p1 p2 p3 k ∧ nth p1 p2 p3 k ≤ 100000000) ∧ (-300000000 ≤ F k ∧ F k ≤ 300000000) := fun k hk => by rw [hFF]; exact hnums k hk
                  clear hnums HDT hsT hmo hFF
                  generalize lo S n b t 1 = l1 at *
                  generalize lo S n b t 2 = l2 at *
                  generalize lo S n b t 3 = l3 at *
                  generalize hi S n b t 1 = h1 at *
                  generalize hi S n b t 2 = h2 at *
                  generalize hi S n b t 3 = h3 at *
                  have HF0 := Lib.hid hF0
                  have HNU := Lib.hid hnums2
                  have HSM := Lib.hid hss
                  clear hF0 hnums2 hss HBOX
                  obtain ⟨bq, oq, hAP, hbq, hcq⟩ := (HQ.out.below HB12.out) (by omega)
                  have HCQ := Lib.hid hcq
                  have hbx := below_new (Below.refl _ w12) (Nat.le_refl _) (o := .cells #[.int .i64 l1, .int .i64 h1, .int .i64 l2, .int .i64 h2, .int .i64 l3, .int .i64 h3] 47)
                  have hV13 := At.new w12 47 #[.int .i64 l1, .int .i64 h1, .int .i64 l2, .int .i64 h2, .int .i64 l3, .int .i64 h3]
                  go_wp2_with fail
                  subst hAP
                  generalize hW13 : w12.alloc (.cells #[.int .i64 l1, .int .i64 h1, .int .i64 l2, .int .i64 h2, .int .i64 l3, .int .i64 h3] 47) = w13 at hV13 hbx ⊢
                  clear hW13
                  have q0 := (hbx.cell (p := ⟨bq, oq + j * 3, none⟩) hbq).trans (hcq j hjm 0 (by omega))
                  have q1 := (hbx.cell (p := ⟨bq, oq + j * 3 + 1, none⟩) hbq).trans (hcq j hjm 1 (by omega))
                  have q2 := (hbx.cell (p := ⟨bq, oq + j * 3 + 2, none⟩) hbq).trans (hcq j hjm 2 (by omega))
                  have hbq13 : bq < w13.heap.size := Nat.lt_of_lt_of_le hbq hbx.size
                  have HWR13 := Lib.hid (HWR12.out.trans (hbx.mono HWR12.out.size))
                  have HV13 := Lib.hid hV13
                  have hjj := hj
                  have HM1 : Hid (∀ W : World, Calls Try.prog 47 #[.int .i64 t, .int .i64 (m : Int)] W fun e w' => e = .returned (.int .i64 (j : Int)) ∧ W = w') := fun W => by rw [← hjj]; exact mod_any t m W (by omega) (by omega)
                  clear hV13 hcq hj hjj hbq
                  have hF13 := HF12.out.keep hbx
                  have hL13 := HL12.out.keep hbx
                  have hX13 := HX12.out.keep hbx
                  have hO13 := HO12.out.keep hbx
                  have HB13 := Lib.hid (HB12.out.trans (hbx.mono HB12.out.size))
                  clear a0 a1 a2 a3 b0 b1 b2 c0 c1 c2 o0 o1 o2 hbx
                  have a0 := hF13.cell 0
                  have a1 := hF13.cell 1
                  have a2 := hF13.cell 2
                  have a3 := hF13.cell 3
                  have b0 := hL13.cell 0
                  have b1 := hL13.cell 1
                  have b2 := hL13.cell 2
                  have c0 := hX13.cell 0
                  have c1 := hX13.cell 1
                  have c2 := hX13.cell 2
                  have o0 := hO13.cell 0
                  have o1 := hO13.cell 1
                  have o2 := hO13.cell 2
                  simp at a0 a1 a2 a3 b0 b1 b2 c0 c1 c2 o0 o1 o2
                  have HF13 := Lib.hid hF13
                  have HL13 := Lib.hid hL13
                  have HX13 := Lib.hid hX13
                  have HO13 := Lib.hid hO13
                  clear hF13 hL13 hX13 hO13
                  have HSQ : Hid (∀ w', Below w13.heap.size w13 w' → w'.cell? ⟨w.heap.size, 3, none⟩ = some (.slice (some ⟨bq, oq, none⟩) m cm) ∧ w'.cell? ⟨bq, oq + j * 3, none⟩ = some (.int .i64 (Q j 0)) ∧ w'.cell? ⟨bq, oq + j * 3 + 1, none⟩ = some (.int .i64 (Q j 1)) ∧ w'.cell? ⟨bq, oq + j * 3 + 2, none⟩ = some (.int .i64 (Q j 2))) := fun w' hW => by
                    have qa := HF13.out.keep hW
                    have q (o : Nat) (v : Value) (h : w13.cell? ⟨bq, o, none⟩ = some v) : w'.cell? ⟨bq, o, none⟩ = some v := (hW.cell (p := ⟨bq, o, none⟩) hbq13).trans h
                    exact ⟨qa.cell 3, q _ _ q0, q _ _ q1, q _ _ q2⟩
                  clear a0 a1 a2 a3 b0 b1 b2 c0 c1 c2 o0 o1 o2 q0 q1 q2
                  obtain ⟨s0, s1, s2, s3⟩ := HSQ.out w13 (Below.refl _ _)
                  have u0 : (0 : Int) ≤ (j : Int) := by omega
                  have u1 : (j : Int) < (m : Int) := by omega
                  go_cut [15] (fun s15 wx => ∃ g15 : Nat, s15 = .pointer (some ⟨g15, 0, none⟩) ∧ At wx g15 84 #[.int .i64 (Q j 0), .int .i64 (Q j 1), .int .i64 (Q j 2)] ∧ Below w13.heap.size w13 wx)
                  case first =>
                    go_region_held3 (fun w' => w'.cell? ⟨w.heap.size, 3, none⟩ = some (.slice (some ⟨bq, oq, none⟩) m cm) ∧ w'.cell? ⟨bq, oq + j * 3, none⟩ = some (.int .i64 (Q j 0)) ∧ w'.cell? ⟨bq, oq + j * 3 + 1, none⟩ = some (.int .i64 (Q j 1)) ∧ w'.cell? ⟨bq, oq + j * 3 + 2, none⟩ = some (.int .i64 (Q j 2))) (first | (refine HSQ.out _ ?_; (repeat (first | (with_reducible exact Below.refl _ _) | (with_reducible refine Below.drew ?_) | (with_reducible refine below_drewNs ?_) | (with_reducible refine below_set ?_ (by first | omega | (simp; omega))) | (with_reducible refine below_new ?_ (by first | omega | (simp; done) | (simp; omega))))); done) | go_keep)
                      (first
                        | (go_at_call 47; (with_reducible refine (HM1.out _).mono ?_); rintro e w' ⟨rfl, rfl⟩))
                    all_goals
                      go_wp2_with fail
                      go_meet
                      refine ⟨_, rfl, ?_, ?_⟩
                      · (repeat (first | (with_reducible assumption) | (with_reducible refine at_drew ?_) | ((with_reducible refine at_new ?_); first | omega | (simp; done)) | (with_reducible refine At.alloc ?_ _) | ((with_reducible refine at_farB ?_ ?_); rotate_left; (focus first | omega | (simp; omega)))))
                      · (repeat (first | (with_reducible assumption) | (with_reducible exact Below.refl _ _) | (with_reducible refine Below.drew ?_) | (with_reducible refine below_drewNs ?_) | (with_reducible refine below_set ?_ (by first | omega | (simp; omega))) | (with_reducible refine below_new ?_ (by first | omega | (simp; done) | (simp; omega)))))
                  case rest =>
                    obtain ⟨g15, rfl, hP14, hbw⟩ := hcut
                    have HV14 := Lib.hid (HV13.out.keep hbw)
                    have HPQ := Lib.hid hP14
                    have HWR14 := Lib.hid (HWR13.out.trans (hbw.mono HWR13.out.size))
                    clear hP14 HSQ HM1 HV13 s0 s1 s2 s3
                    have hF14 := HF13.out.keep hbw
                    have hL14 := HL13.out.keep hbw
                    have hX14 := HX13.out.keep hbw
                    have hO14 := HO13.out.keep hbw
                    have HB14 := Lib.hid (HB13.out.trans (hbw.mono HB13.out.size))
                    clear hbw
                    have a0 := hF14.cell 0
                    have a1 := hF14.cell 1
                    have a2 := hF14.cell 2
                    have a3 := hF14.cell 3
                    have b0 := hL14.cell 0
                    have b1 := hL14.cell 1
                    have b2 := hL14.cell 2
                    have c0 := hX14.cell 0
                    have c1 := hX14.cell 1
                    have c2 := hX14.cell 2
                    have o0 := hO14.cell 0
                    have o1 := hO14.cell 1
                    have o2 := hO14.cell 2
                    simp at a0 a1 a2 a3 b0 b1 b2 c0 c1 c2 o0 o1 o2
                    have HF14 := Lib.hid hF14
                    have HL14 := Lib.hid hL14
                    have HX14 := Lib.hid hX14
                    have HO14 := Lib.hid hO14
                    clear hF14 hL14 hX14 hO14
                    go_wp2_with fail
                    go_loopw [16, 17] (fun i16 i17 wr2 => ∃ k : Nat, k ≤ 3 ∧ i16 = .int .i64 (sqS F k) ∧ i17 = .int .i64 (k : Int) ∧ Below wc.heap.size wc wr2) (fun _ i _ => 3 - (intOf i).toNat)
                    case atStart => exact ⟨0, by omega, rfl, rfl, Below.refl _ _⟩
                    case round =>
                      obtain ⟨k, hk, rfl, rfl, hw2⟩ := hrel
                      have HW2 := Lib.hid hw2
                      by_cases hk3 : k < 3
                      case pos =>
                        have hv := HV14.out.keep hw2
                        have hq := HPQ.out.keep hw2
                        have hl := HL14.out.keep hw2
                        have v1 := (hv.cell (k * 2)).trans (six_lo l1 h1 l2 h2 l3 h3 hk3)
                        have v2 := (hv.cell (k * 2 + 1)).trans (six_hi l1 h1 l2 h2 l3 h3 hk3)
                        obtain ⟨⟨m1, m2, m3⟩, ⟨m4, m5⟩, m6, m7⟩ := HNU.out k hk3
                        have hFk := HF0.out k
                        have hidx := fun w => idx3 p1 p2 p3 k hk3 w
                        have hqc : ∀ X, Below wr.heap.size wr X → X.cell? ⟨g15, k, none⟩ = some (.int .i64 (nth (Q j 0) (Q j 1) (Q j 2) k)) := fun X hX => ((hq.keep hX).cell k).trans (three_at _ _ _ hk3)
                        have hvc : ∀ X, Below wr.heap.size wr X → X.cell? ⟨w12.heap.size, k * 2, none⟩ = some (.int .i64 (nth l1 l2 l3 k)) ∧ X.cell? ⟨w12.heap.size, k * 2 + 1, none⟩ = some (.int .i64 (nth h1 h2 h3 k)) := fun X hX => ⟨((hv.keep hX).cell (k * 2)).trans (six_lo l1 h1 l2 h2 l3 h3 hk3), ((hv.keep hX).cell (k * 2 + 1)).trans (six_hi l1 h1 l2 h2 l3 h3 hk3)⟩
                        generalize nth l1 l2 l3 k = l at *
                        generalize nth h1 h2 h3 k = h at *
                        generalize nth p1 p2 p3 k = a at *
                        generalize nth (Q j 0) (Q j 1) (Q j 2) k = q at *
                        obtain ⟨r1, r2, r3, r4, r5, r6⟩ := spot_range q m2
                        obtain ⟨sq, hsq⟩ : ∃ x, x = sqS F k := ⟨_, rfl⟩
                        have hsk := (HSM.out k (by omega))
                        have hs1 : sqS F (k + 1) = sqS F k + F k * F k := rfl
                        have hsk1 := HSM.out (k + 1) hk3
                        rw [hs1] at hsk1
                        rw [← hsq] at hsk hsk1 hs1 ⊢
                        have hsn := sq_nonneg (F k)
                        unfold spot at hFk
                        obtain ⟨mo, hmo⟩ : ∃ x, x = Mo q 1001 := ⟨_, rfl⟩
                        rw [← hmo] at hFk r3 r4 r5 r6
                        obtain ⟨pr, hpr⟩ : ∃ x, x = (h - l) * mo := ⟨_, rfl⟩
                        rw [← hpr] at hFk r3 r4 r5 r6
                        obtain ⟨qt, hqt⟩ : ∃ x, x = pr / 1000 := ⟨_, rfl⟩
                        rw [← hqt] at hFk r5 r6
                        have HWI : Hid (∀ W : World, Calls Try.prog 21 #[.int .i64 l, .int .i64 (-200000000), .int .i64 h] W fun e w' => e = .returned (.bool true) ∧ W = w') := fun W => by rw [← inB_t (n := l) (lo := -200000000) (hi := h) ⟨by omega, m2⟩]; exact baseWithin_any _ _ _ W
                        have HM2 : Hid (∀ W : World, Calls Try.prog 47 #[.int .i64 q, .int .i64 1001] W fun e w' => e = .returned (.int .i64 mo) ∧ W = w') := fun W => by rw [hmo]; exact mod_any q 1001 W (by decide) (by decide)
                        have HFL : Hid (∀ W : World, Calls Try.prog 48 #[.int .i64 pr, .int .i64 1000] W fun e w' => e = .returned (.int .i64 qt) ∧ W = w') := fun W => by rw [hqt]; exact floor_any pr 1000 W (by decide) (by decide) (by omega)
                        have x1 : IntKind.i64.wrap (h - l) = h - l := IntWalk.i64_in _ (by omega)
                        have x2 : IntKind.i64.wrap ((h - l) * mo) = pr := by rw [← hpr]; exact IntWalk.i64_in _ (by omega)
                        have x3 : IntKind.i64.wrap (l + qt) = l + qt := IntWalk.i64_in _ (by omega)
                        have x4 : IntKind.i64.wrap (l + qt - a) = l + qt - a := IntWalk.i64_in _ (by omega)
                        rw [hFk] at hs1 hsk1 hsn
                        have x5 : IntKind.i64.wrap ((l + qt - a) * (l + qt - a)) = (l + qt - a) * (l + qt - a) := IntWalk.i64_in _ (by omega)
                        have x6 : IntKind.i64.wrap (sq + (l + qt - a) * (l + qt - a)) = sq + (l + qt - a) * (l + qt - a) := IntWalk.i64_in _ (by omega)
                        have x7 : ¬ (200000000 : Int) < h := by omega
                        have x8 : (0 : Int) ≤ (k : Int) := by omega
                        have x9 : (k : Int) < 3 := by omega
                        have HS1 := Lib.hid hs1
                        have HQC := Lib.hid hqc
                        have HVC := Lib.hid hvc
                        have HLL := Lib.hid hl
                        clear hs1 hsk hsk1 hsn hFk r1 r2 r3 r4 r5 r6 m1 m2 m3 m4 m5 m6 m7 hmo hpr hqt hqc hvc hv hq hl hsq
                        clear a0 a1 a2 a3 b0 b1 b2 c0 c1 c2 o0 o1 o2
                        go_wp2_with fail
                        have k0 := cell_regrown v1
                        have k1 := cell_regrown v2
                        refine wp_region_quiet_below (by kernel_rfl) (by kernel_rfl) ?_
                        repeat (go_big_quiet_step (first | (with_reducible exact met_same HWI.out _ _)))
                        refine wpQuiet_nil ?_
                        intro _ hw'
                        obtain ⟨⟨dq, osq⟩, hw''⟩ := hw'
                        subst hw''
                        have hb15 := below_regrown wr dq osq
                        generalize hX : Go.Sort.grow (redrawn wr dq) osq = w15 at hb15 ⊢
                        clear hX k0 k1
                        obtain ⟨v1, v2⟩ := HVC.out w15 hb15
                        have v3 := HQC.out w15 hb15
                        go_wp2_with fail
                        have k0 := cell_regrown v1
                        have k1 := cell_regrown v2
                        have k2 := cell_regrown v3
                        refine wp_region_quiet_below (by kernel_rfl) (by kernel_rfl) ?_
                        repeat (go_big_quiet_step (first | (with_reducible exact met_same HM2.out _ _) | (with_reducible exact met_same HFL.out _ _)))
                        refine wpQuiet_nil ?_
                        intro _ hw'
                        obtain ⟨⟨dq, osq⟩, hw''⟩ := hw'
                        subst hw''
                        have hb16 := below_regrown w15 dq osq
                        generalize hX : Go.Sort.grow (redrawn w15 dq) osq = w16 at hb16 ⊢
                        clear hX k0 k1 k2
                        have hb1516 := below_two hb15 hb16
                        have hl16 := HLL.out.keep hb1516
                        have b0 := hl16.cell 0
                        have b1 := hl16.cell 1
                        have b2 := hl16.cell 2
                        simp at b0 b1 b2
                        have HWE := Lib.hid (HW2.out.trans (hb1516.mono HW2.out.size))
                        clear hb15 hb16 hb1516 hl16
                        go_wp2
                        go_roundw
                        case rel =>
                          refine ⟨k + 1, by omega, ?_, by go_num, HWE.out⟩
                          rw [HS1.out]
                        case measure => simp [intOf]; omega
                      case neg =>
                        obtain rfl : k = 3 := by omega
                        have w8' : IntKind.i64.wrap (t + 1) = t + 1 := IntWalk.i64_in _ (by omega)
                        have hnn := sqS_nonneg F 3
                        have HWE := Lib.hid (HWR14.out.trans (hw2.mono HWR14.out.size))
                        rcases HST.out with ⟨rfl, rfl, rfl⟩ | ⟨bt, rfl, rfl, hb1, hb2, hmin⟩
                        case inl =>
                          go_wp2
                          go_roundw
                          case rel =>
                            refine ⟨t + 1, by first | rfl | (rw [w8']), by omega, by omega, HWE.out, .inr ⟨t, rfl, by rw [HSTT.out], by omega, by omega, fun u h1 h2 => ?_⟩⟩
                            obtain rfl : u = t := by omega
                            exact Int.le_refl _
                          case measure => simp [intOf]; omega
                        case inr =>
                          have hnb : 0 ≤ sT S n b Q m p1 p2 p3 bt := sqS_nonneg _ 3
                          have HMN := Lib.hid hmin
                          clear hmin
                          have d2 : ¬ sT S n b Q m p1 p2 p3 bt < 0 := by omega
                          by_cases hless : sqS F 3 < sT S n b Q m p1 p2 p3 bt
                          case pos =>
                            have HLS := Lib.hid hless
                            go_wp2
                            go_roundw
                            case rel =>
                              refine ⟨t + 1, by first | rfl | (rw [w8']), by omega, by omega, HWE.out, .inr ⟨t, rfl, by rw [HSTT.out], by omega, by omega, fun u h1 h2 => ?_⟩⟩
                              rw [HSTT.out]
                              rcases Int.lt_or_le u t with g | g
                              · have := HMN.out u h1 g
                                have := HLS.out
                                omega
                              · obtain rfl : u = t := by omega
                                rw [HSTT.out]
                                exact Int.le_refl _
                            case measure => simp [intOf]; omega
                          case neg =>
                            have HLS := Lib.hid hless
                            go_wp2
                            go_roundw
                            case rel =>
                              refine ⟨t + 1, by first | rfl | (rw [w8']), by omega, by omega, HWE.out, .inr ⟨bt, rfl, rfl, by omega, by omega, fun u h1 h2 => ?_⟩⟩
                              rcases Int.lt_or_le u t with g | g
                              · exact HMN.out u h1 g
                              · obtain rfl : u = t := by omega
                                rw [HSTT.out]
                                have := HLS.out
                                omega
                            case measure => simp [intOf]; omega
end Go.Proofs.Ytjfgfkahgjjcoaa
