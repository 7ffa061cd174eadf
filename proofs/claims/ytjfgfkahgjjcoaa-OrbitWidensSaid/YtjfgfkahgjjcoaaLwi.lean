/- The law: with greater errors and a greater bend the box contains the old one, and the nominal place stays. -/
import Derived.Test.YtjfgfkahgjjcoaaOin
import Derived.Test.YtjfgfkahgjjcoaaOwm
namespace Go.Proofs.Ytjfgfkahgjjcoaa
open Go.RowKit
set_option maxHeartbeats 800000
set_option maxRecDepth 100000

theorem stL_get' (X : Nat → Nat → Int) {n j : Nat} (h : j < n * 5) : (stL X n)[j]? = some (.int .i64 (X (j / 5) (j % 5))) := by
  unfold stL
  rw [List.getElem?_map, List.getElem?_range h, Option.map_some]
theorem stL_none (X : Nat → Nat → Int) {n j : Nat} (h : ¬ j < n * 5) : (stL X n)[j]? = none := List.getElem?_eq_none (by rw [stL_len]; omega)
theorem stL_set {S : Nat → Nat → Int} {E : Int} {n k : Nat} : (stL (SK S E k) n).set (k * 5 + 4) (.int .i64 (S k 4 + E)) = stL (SK S E (k + 1)) n := by
  apply List.ext_getElem?
  intro j
  by_cases hj : j < n * 5
  · rw [List.getElem?_set, stL_len, stL_get' _ hj, stL_get' _ hj]
    by_cases h : k * 5 + 4 = j
    · subst h
      rw [if_pos rfl, if_pos hj, show (k * 5 + 4) / 5 = k by omega, show (k * 5 + 4) % 5 = 4 by omega, SK_four (by omega)]
    · rw [if_neg h]
      unfold SK
      by_cases h4 : j % 5 = 4 ∧ j / 5 < k
      · rw [if_pos h4, if_pos ⟨h4.1, by omega⟩]
      · rw [if_neg h4, if_neg fun e => by omega]
  · rw [stL_none _ hj, List.getElem?_eq_none (by rw [List.length_set, stL_len]; omega)]
theorem own_far {w : World} {base n : Nat} {e : TypeId} {size : Nat} {v : Value} {xs : List Value} {a : Addr} (h : w.ownsRow base e size v n xs) (hne : v.ownBlock ≠ some a.block) (u : Value) : (w.setCell a u).ownsRow base e size v n xs :=
  World.ownsRow.kept (row := some a.block) h ⟨rfl, rfl, rfl, by simp, fun k _ hk => Below.heap_setCell w a u k (fun e => hk (by rw [e]))⟩ (.inr hne)

theorem widens_all {w : World} {s : ByteArray} {b : Int} {A : Option Addr} {n c : Nat} {S : Nat → Nat → Int} {E B t : Int} (h : OrbIn w s b A n c S) (_hx : I64 E ∧ I64 B) (_ht : I64 t) :
    Calls Try.prog 5 #[.agg #[.string s, .int .i64 b, .slice A n c], .agg #[.int .i64 E, .int .i64 B], .int .i64 t] w fun e w' => e = .returned (.bool true) ∧ Below w.heap.size w w' := by
  obtain ⟨hs, hn, hc, _, hS, _, hA0⟩ := h
  have H1 := Lib.hid hs
  have HN := Lib.hid hn
  have HC := Lib.hid hc
  have HA0 := Lib.hid hA0
  have HS := Lib.hid hS
  clear hs hn hc hS hA0
  go_enter Try.func5, Try.ntmps5
  go_wp2_with fail
  have hb0 : Below w.heap.size w ((w.alloc (.cells #[.string s, .int .i64 b, .slice A n c] 24)).alloc (.cells #[.int .i64 E, .int .i64 B] 54)) := below_new (below_new (Below.refl _ w) (Nat.le_refl _)) (by simp)
  have hA0 : At ((w.alloc (.cells #[.string s, .int .i64 b, .slice A n c] 24)).alloc (.cells #[.int .i64 E, .int .i64 B] 54)) w.heap.size 24 #[.string s, .int .i64 b, .slice A n c] := (At.new w _ _).alloc _
  have hX0 : At ((w.alloc (.cells #[.string s, .int .i64 b, .slice A n c] 24)).alloc (.cells #[.int .i64 E, .int .i64 B] 54)) (w.heap.size + 1) 54 #[.int .i64 E, .int .i64 B] := at_new (by simp)
  refine (awake_ok _).mono ?_
  rintro e w1 ⟨rfl, hb1⟩
  have hB1 := below_two hb0 hb1
  have hA1 := hA0.keep hb1
  have hX1 := hX0.keep hb1
  clear hb0 hA0 hX0 hb1
  have hSS : ∀ w', Below w1.heap.size w1 w' → w'.cell? ⟨w.heap.size, 0, none⟩ = some (.string s) ∧ w'.cell? ⟨w.heap.size, 1, none⟩ = some (.int .i64 b) ∧ w'.cell? ⟨w.heap.size, 2, none⟩ = some (.slice A n c) ∧ w'.cell? ⟨w.heap.size + 1, 0, none⟩ = some (.int .i64 E) ∧ w'.cell? ⟨w.heap.size + 1, 1, none⟩ = some (.int .i64 B) := fun w' hW => by
    have q := hA1.keep hW
    have r := hX1.keep hW
    exact ⟨q.cell 0, q.cell 1, q.cell 2, r.cell 0, r.cell 1⟩
  have hS1 := HS.out.below hB1
  have hP1 : ∀ W : World, Below w1.heap.size w1 W → Calls Try.prog 16 #[.agg #[.string s, .int .i64 b, .slice A n c]] W fun e w' => e = .returned (.bool (fewB s n)) ∧ Below w1.heap.size w1 w' ∧ w'.cell? ⟨w.heap.size, 0, none⟩ = some (.string s) ∧ w'.cell? ⟨w.heap.size, 1, none⟩ = some (.int .i64 b) ∧ w'.cell? ⟨w.heap.size, 2, none⟩ = some (.slice A n c) ∧ w'.cell? ⟨w.heap.size + 1, 0, none⟩ = some (.int .i64 E) ∧ w'.cell? ⟨w.heap.size + 1, 1, none⟩ = some (.int .i64 B) := by
    intro W hW
    refine (few_any s b A n c W).mono ?_
    rintro e w' ⟨rfl, hb⟩
    have hB := hW.trans (hb.mono hW.size)
    exact ⟨rfl, hB, hSS _ hB⟩
  have hP2 : ∀ W : World, Below w1.heap.size w1 W → Calls Try.prog 25 #[.agg #[.string s, .int .i64 b, .slice A n c], .int .i64 t] W fun e w' => e = .returned (.int .i64 (e2 (nmB s) b n S t)) ∧ Below w1.heap.size w1 w' ∧ w'.cell? ⟨w.heap.size, 0, none⟩ = some (.string s) ∧ w'.cell? ⟨w.heap.size, 1, none⟩ = some (.int .i64 b) ∧ w'.cell? ⟨w.heap.size, 2, none⟩ = some (.slice A n c) ∧ w'.cell? ⟨w.heap.size + 1, 0, none⟩ = some (.int .i64 E) ∧ w'.cell? ⟨w.heap.size + 1, 1, none⟩ = some (.int .i64 B) := by
    intro W hW
    refine (tickErr_any s b A n c S t W (hS1.below hW) H1.out HN.out HC.out).mono ?_
    rintro e w' ⟨rfl, hb⟩
    have hB := hW.trans (hb.mono hW.size)
    exact ⟨rfl, hB, hSS _ hB⟩
  obtain ⟨s0, s1, s2, s3, s4⟩ := hSS w1 (Below.refl _ _)
  have HP1 := Lib.hid hP1
  have HP2 := Lib.hid hP2
  have HB1 := Lib.hid hB1
  have HA1 := Lib.hid hA1
  have HX1 := Lib.hid hX1
  have HS1 := Lib.hid hS1
  clear hP1 hP2 hB1 hA1 hX1 hS1 hSS
  by_cases hgood : fewB s n = true ∧ e2 (nmB s) b n S t = 0 ∧ inB E 0 100000 = true ∧ inB B 0 100000 = true
  · obtain ⟨d1, d2, d3, d4⟩ := hgood
    have HF := Lib.hid d1
    have HE := Lib.hid d2
    have d2' : (e2 (nmB s) b n S t != 0) = false := by rw [d2]; rfl
    have HI3 := Lib.hid (inB_iff.1 d3)
    have HI4 := Lib.hid (inB_iff.1 d4)
    clear d2
    go_wp2_with (first
      | (go_at_call 16; (with_reducible refine (HP1.out _ ?_).mono ?_); (repeat (first | assumption | (with_reducible exact Below.refl _ _))); rintro e w4 ⟨rfl, hb4, hs0, hs1, hs2, hs3, hs4⟩)
      | (go_at_call 25; (with_reducible refine (HP2.out _ ?_).mono ?_); (repeat (first | assumption | (with_reducible exact Below.refl _ _))); rintro e w5 ⟨rfl, hb5, ht0, ht1, ht2, ht3, ht4⟩)
      | (go_at_call 21; refine (baseWithin_any _ _ _ _).mono ?_; rintro e w' ⟨rfl, rfl⟩))
    refine (copy_any s b A n c S w5 (HS1.out.below hb5) (by have := few_size HF.out; omega) HA0.out).mono ?_
    rintro e w6 ⟨A6, c6, rfl, hst6, hn6, hc6, hnil6, hown6, hb6⟩
    have hR := (e2_zero HE.out).2
    obtain ⟨hR, hT⟩ := hR
    have hn2 : 2 ≤ n := hR.1
    have hn40 : n ≤ 40 := hR.2.1
    obtain ⟨g, rfl⟩ : ∃ g, A6 = some ⟨g, 0, none⟩ := by
      rcases hown6.2 with ⟨_, h⟩ | ⟨g, cap, cur, h, _⟩
      · omega
      · cases h
        exact ⟨g, rfl⟩
    have hgl := hown6.lt g rfl
    have hB6 : Below w1.heap.size w1 w6 := hb5.trans (hb6.mono hb5.size)
    have hA6 := HA1.out.keep hB6
    have hX6 := HX1.out.keep hB6
    have hz1 : w.heap.size < w6.heap.size := hA6.lt
    have hz2 : w.heap.size + 1 < w6.heap.size := hX6.lt
    have q3 := hX6.cell 0
    have q4 := hX6.cell 1
    simp at q3 q4
    have hb4 := HI4.out
    have hbb := hR.2.2.1
    have HR := Lib.hid hR
    have HT := Lib.hid hT
    have HST6 := Lib.hid hst6
    have HN6 := Lib.hid hn6
    have HC6 := Lib.hid hc6
    have HOWN6 := Lib.hid hown6
    have HB6 := Lib.hid hB6
    have HGL := Lib.hid hgl
    have hz3 : w5.heap.size ≤ g := hgl.1
    have hz0 := hb5.size
    clear hR hT hst6 hn6 hc6 hnil6 hown6 hgl hB6 hb6 hb5 ht0 ht1 ht2 ht3 ht4 hA6 hX6 hs0 hs1 hs2 hs3 hs4 s0 s1 s2 s3 s4
    go_wp2_with fail
    go_loopw [8] (fun i wr => ∃ k : Nat, k ≤ n ∧ i = .int .i64 (k : Int) ∧ At wr w6.heap.size 24 #[.string s, .int .i64 (b + B), .slice (some ⟨g, 0, none⟩) n c6] ∧ wr.ownsRow w5.heap.size 56 5 (.slice (some ⟨g, 0, none⟩) n c6) n (stL (SK S E k) n) ∧ Below w1.heap.size w1 wr) (fun i _ => n - (intOf i).toNat)
    case atStart =>
      refine ⟨0, Nat.zero_le _, rfl, ?_, ?_, ?_⟩
      · exact At.new w6 _ _
      · rw [SK_zero]
        exact HOWN6.out.alloc _
      · exact below_new HB6.out HB6.out.size
    case round =>
      obtain ⟨k, hk, rfl, hAk, hok, hbk⟩ := hrel
      have hXk := HX1.out.keep hbk
      have c0 := hAk.cell 0
      have c1 := hAk.cell 1
      have c2 := hAk.cell 2
      have x0 := hXk.cell 0
      simp at c0 c1 c2 x0
      have HAK := Lib.hid hAk
      have HOK := Lib.hid hok
      have HBK := Lib.hid hbk
      by_cases hlt : k < n
      · have ce := (hok.cellAt (k * 5 + 4) (by omega)).trans (stL_get' _ (by omega))
        rw [show (k * 5 + 4) / 5 = k by omega, show (k * 5 + 4) % 5 = 4 by omega, SK_past (by omega)] at ce
        have cf := hok.frozenAt (k * 5 + 4)
        have u1 : (0 : Int) ≤ (k : Int) := by omega
        have u2 : (k : Int) < (n : Int) := by omega
        have u3 := (HR.out.2.2.2.1 k hlt).2.2.2.2
        have u4 := HI3.out
        obtain ⟨x, hx⟩ : ∃ x, x = S k 4 := ⟨_, rfl⟩
        rw [← hx] at ce u3
        have HX := Lib.hid hx
        clear hAk hok hbk hXk hx q3 q4
        go_wp2
        go_region
        all_goals
          go_wp2
          go_roundw
          case rel =>
            refine ⟨k + 1, by omega, by go_num, ?_, ?_, ?_⟩
            · exact HAK.out.far (by have := HGL.out; simp; omega) _
            · rw [HX.out, ← stL_set]
              exact (World.ownsRow.stored HOK.out (k * 5 + 4) _).1
            · exact below_set HBK.out.drew (by omega)
          case measure => simp [intOf]; omega
      · obtain rfl : k = n := by omega
        have hst7 := st_of_own hok
        have q3 := hXk.cell 0
        have HST7 := Lib.hid hst7
        have hA7 := HA1.out.keep hbk
        have a0 := hA7.cell 0
        have a1 := hA7.cell 1
        have a2 := hA7.cell 2
        simp at a0 a1 a2
        have z1 := hAk.lt
        have HA7 := Lib.hid hA7
        clear hAk hok hbk hXk hst7 q3 q4 hA7 x0
        go_wp2_with fail
        refine (refErr_any s (b + B) _ k c6 (SK S E k) wr HST7.out H1.out HN6.out HC6.out).mono ?_
        rintro e w8 ⟨rfl, hb8⟩
        by_cases he8 : (oce (nmB s) (b + B) k (SK S E k)).2 = 0
        · have d8 : ((oce (nmB s) (b + B) k (SK S E k)).2 != 0) = false := by rw [he8]; rfl
          have HE8 := Lib.hid he8
          have HB8 := Lib.hid hb8
          have hA8 := HA7.out.keep hb8
          have hY8 := HAK.out.keep hb8
          have a0 := hA8.cell 0
          have a1 := hA8.cell 1
          have a2 := hA8.cell 2
          have c0 := hY8.cell 0
          have c1 := hY8.cell 1
          have c2 := hY8.cell 2
          simp at a0 a1 a2 c0 c1 c2
          have HA8 := Lib.hid hA8
          have HY8 := Lib.hid hY8
          clear he8 hb8 hA8 hY8
          have hbox : boxR (nmB s) b k S t = .tuple #[boxV S k b t, .int .i64 0] := if_pos HE.out
          have hR' := (oce_zero HE8.out).2
          have hT' : Go.Proofs.Ytjfgfkahgjjcoaa.Has (SK S E k) k t := ⟨by rw [SK_other (by omega)]; exact HT.out.1, by rw [SK_other (by omega)]; exact HT.out.2⟩
          have hnm := (e2_zero HE.out).1
          have he2' : e2 (nmB s) (b + B) k (SK S E k) t = 0 := by rw [hnm]; exact e2_right hR' hT'
          have hbox' : boxR (nmB s) (b + B) k (SK S E k) t = .tuple #[boxV (SK S E k) k (b + B) t, .int .i64 0] := if_pos he2'
          have hnos : noR (nmB s) b k S t = .tuple #[noV S k t, .int .i64 0] := if_pos HE.out
          have hnos' : noR (nmB s) (b + B) k (SK S E k) t = .tuple #[noV (SK S E k) k t, .int .i64 0] := if_pos he2'
          have hw1 := wider (c := 1) HR.out HT.out HI3.out.1 HI4.out.1 (by omega)
          have hw2 := wider (c := 2) HR.out HT.out HI3.out.1 HI4.out.1 (by omega)
          have hw3 := wider (c := 3) HR.out HT.out HI3.out.1 HI4.out.1 (by omega)
          unfold boxV at hbox hbox'
          unfold noV at hnos hnos'
          rw [hw1.2.2, hw2.2.2, hw3.2.2] at hnos'
          obtain ⟨hw1a, hw1b, _⟩ := hw1
          obtain ⟨hw2a, hw2b, _⟩ := hw2
          obtain ⟨hw3a, hw3b, _⟩ := hw3
          generalize lo S k b t 1 = l1 at hbox hw1a
          generalize lo S k b t 2 = l2 at hbox hw2a
          generalize lo S k b t 3 = l3 at hbox hw3a
          generalize hi S k b t 1 = h1 at hbox hw1b
          generalize hi S k b t 2 = h2 at hbox hw2b
          generalize hi S k b t 3 = h3 at hbox hw3b
          generalize lo (SK S E k) k (b + B) t 1 = m1 at hbox' hw1a
          generalize lo (SK S E k) k (b + B) t 2 = m2 at hbox' hw2a
          generalize lo (SK S E k) k (b + B) t 3 = m3 at hbox' hw3a
          generalize hi (SK S E k) k (b + B) t 1 = i1 at hbox' hw1b
          generalize hi (SK S E k) k (b + B) t 2 = i2 at hbox' hw2b
          generalize hi (SK S E k) k (b + B) t 3 = i3 at hbox' hw3b
          generalize no S k t 1 = n1 at hnos hnos'
          generalize no S k t 2 = n2 at hnos hnos'
          generalize no S k t 3 = n3 at hnos hnos'
          have HX1 := Lib.hid hbox
          have HX2 := Lib.hid hbox'
          have HX3 := Lib.hid hnos
          have HX4 := Lib.hid hnos'
          have HNM := Lib.hid hnm
          have HB8w : Hid (Below w1.heap.size w1 w8) := HBK.out.trans (HB8.out.mono HBK.out.size)
          clear hbox hbox' hnos hnos' hR' hT' hnm he2'
          go_wp2_with fail
          refine (copy_any s b A k c S w8 (HS1.out.below (HB8w.out.trans ((Below.refl _ _ : Below w8.heap.size w8 w8).mono HB8w.out.size))) (by omega) HA0.out).mono ?_
          rintro e w9 ⟨A9, c9, rfl, hst9, hn9, hc9, _, _, hb9⟩
          go_wp2_with fail
          refine (boxAt_any s b A9 k c9 S t w9 hst9 H1.out hn9 hc9).mono ?_
          rw [HX1.out]
          rintro e w10 ⟨rfl, hb10⟩
          have hstep := below_two hb9 hb10
          clear hst9 hn9 hc9 hb9 hb10
          have hbq := (Below.refl _ _ : Below w8.heap.size w8 w8).trans (hstep.mono (Below.refl _ _ : Below w8.heap.size w8 w8).size)
          clear a0 a1 a2 c0 c1 c2
          have hA8 := HA8.out.keep hbq
          have hY8 := HY8.out.keep hbq
          have a0 := hA8.cell 0
          have a1 := hA8.cell 1
          have a2 := hA8.cell 2
          have c0 := hY8.cell 0
          have c1 := hY8.cell 1
          have c2 := hY8.cell 2
          simp at a0 a1 a2 c0 c1 c2
          have zA := hA8.lt
          have zY := hY8.lt
          clear hA8 hY8
          have hbn := below_new hbq hbq.size (o := .cells #[.int .i64 l1, .int .i64 h1, .int .i64 l2, .int .i64 h2, .int .i64 l3, .int .i64 h3] 47)
          have hpn := At.new w10 47 #[.int .i64 l1, .int .i64 h1, .int .i64 l2, .int .i64 h2, .int .i64 l3, .int .i64 h3]
          clear hbq
          have HBN := Lib.hid hbn
          have HPN := Lib.hid hpn
          clear hbn hpn
          clear hstep
          go_wp2_with fail
          generalize hWn : w10.alloc (.cells #[.int .i64 l1, .int .i64 h1, .int .i64 l2, .int .i64 h2, .int .i64 l3, .int .i64 h3] 47) = w11 at HBN HPN  ⊢
          clear hWn
          have HBQ1 := HBN
          have HPQ1 := HPN
          clear HBN HPN
          refine (copy_any s (b + B) _ k c6 (SK S E k) w11 (HST7.out.below (HB8.out.trans (HBQ1.out.mono HB8.out.size))) (by omega) (fun e => by cases e)).mono ?_
          rintro e w12 ⟨A9, c9, rfl, hst9, hn9, hc9, _, _, hb9⟩
          go_wp2_with fail
          refine (boxAt_any s (b + B) A9 k c9 (SK S E k) t w12 hst9 H1.out hn9 hc9).mono ?_
          rw [HX2.out]
          rintro e w13 ⟨rfl, hb10⟩
          have hstep := below_two hb9 hb10
          clear hst9 hn9 hc9 hb9 hb10
          have hbq := HBQ1.out.trans (hstep.mono HBQ1.out.size)
          clear a0 a1 a2 c0 c1 c2
          have hA8 := HA8.out.keep hbq
          have hY8 := HY8.out.keep hbq
          have a0 := hA8.cell 0
          have a1 := hA8.cell 1
          have a2 := hA8.cell 2
          have c0 := hY8.cell 0
          have c1 := hY8.cell 1
          have c2 := hY8.cell 2
          simp at a0 a1 a2 c0 c1 c2
          have zA := hA8.lt
          have zY := hY8.lt
          clear hA8 hY8
          have hbn := below_new hbq hbq.size (o := .cells #[.int .i64 m1, .int .i64 i1, .int .i64 m2, .int .i64 i2, .int .i64 m3, .int .i64 i3] 47)
          have hpn := At.new w13 47 #[.int .i64 m1, .int .i64 i1, .int .i64 m2, .int .i64 i2, .int .i64 m3, .int .i64 i3]
          clear hbq
          have HBN := Lib.hid hbn
          have HPN := Lib.hid hpn
          clear hbn hpn
          have HPQ1 := Lib.hid ((HPQ1.out.keep hstep).alloc (.cells #[.int .i64 m1, .int .i64 i1, .int .i64 m2, .int .i64 i2, .int .i64 m3, .int .i64 i3] 47))
          clear hstep
          go_wp2_with fail
          generalize hWn : w13.alloc (.cells #[.int .i64 m1, .int .i64 i1, .int .i64 m2, .int .i64 i2, .int .i64 m3, .int .i64 i3] 47) = w14 at HBN HPN HPQ1 ⊢
          clear hWn
          have HBQ2 := HBN
          have HPQ2 := HPN
          clear HBN HPN
          refine (copy_any s b A k c S w14 (HS1.out.below (HB8w.out.trans (HBQ2.out.mono HB8w.out.size))) (by omega) HA0.out).mono ?_
          rintro e w15 ⟨A9, c9, rfl, hst9, hn9, hc9, _, _, hb9⟩
          go_wp2_with fail
          refine (nominalAt_any s b A9 k c9 S t w15 hst9 H1.out hn9 hc9).mono ?_
          rw [HX3.out]
          rintro e w16 ⟨rfl, hb10⟩
          have hstep := below_two hb9 hb10
          clear hst9 hn9 hc9 hb9 hb10
          have hbq := HBQ2.out.trans (hstep.mono HBQ2.out.size)
          clear a0 a1 a2 c0 c1 c2
          have hA8 := HA8.out.keep hbq
          have hY8 := HY8.out.keep hbq
          have a0 := hA8.cell 0
          have a1 := hA8.cell 1
          have a2 := hA8.cell 2
          have c0 := hY8.cell 0
          have c1 := hY8.cell 1
          have c2 := hY8.cell 2
          simp at a0 a1 a2 c0 c1 c2
          have zA := hA8.lt
          have zY := hY8.lt
          clear hA8 hY8
          have hbn := below_new hbq hbq.size (o := .cells #[.int .i64 n1, .int .i64 n2, .int .i64 n3] 42)
          have hpn := At.new w16 42 #[.int .i64 n1, .int .i64 n2, .int .i64 n3]
          clear hbq
          have HBN := Lib.hid hbn
          have HPN := Lib.hid hpn
          clear hbn hpn
          have HPQ1 := Lib.hid ((HPQ1.out.keep hstep).alloc (.cells #[.int .i64 n1, .int .i64 n2, .int .i64 n3] 42))
          have HPQ2 := Lib.hid ((HPQ2.out.keep hstep).alloc (.cells #[.int .i64 n1, .int .i64 n2, .int .i64 n3] 42))
          clear hstep
          go_wp2_with fail
          generalize hWn : w16.alloc (.cells #[.int .i64 n1, .int .i64 n2, .int .i64 n3] 42) = w17 at HBN HPN HPQ1 HPQ2 ⊢
          clear hWn
          have HBQ3 := HBN
          have HPQ3 := HPN
          clear HBN HPN
          refine (nominalAt_any s (b + B) _ k c6 (SK S E k) t w17 (HST7.out.below (HB8.out.trans (HBQ3.out.mono HB8.out.size))) H1.out HN6.out HC6.out).mono ?_
          rw [HX4.out]
          rintro e w19 ⟨rfl, hb10⟩
          have hstep := hb10
          clear hb10
          have hbq := HBQ3.out.trans (hstep.mono HBQ3.out.size)
          clear a0 a1 a2 c0 c1 c2
          have hA8 := HA8.out.keep hbq
          have hY8 := HY8.out.keep hbq
          have a0 := hA8.cell 0
          have a1 := hA8.cell 1
          have a2 := hA8.cell 2
          have c0 := hY8.cell 0
          have c1 := hY8.cell 1
          have c2 := hY8.cell 2
          simp at a0 a1 a2 c0 c1 c2
          have zA := hA8.lt
          have zY := hY8.lt
          clear hA8 hY8
          have hbn := below_new hbq hbq.size (o := .cells #[.int .i64 n1, .int .i64 n2, .int .i64 n3] 42)
          have hpn := At.new w19 42 #[.int .i64 n1, .int .i64 n2, .int .i64 n3]
          clear hbq
          have HBN := Lib.hid hbn
          have HPN := Lib.hid hpn
          clear hbn hpn
          have HPQ1 := Lib.hid ((HPQ1.out.keep hstep).alloc (.cells #[.int .i64 n1, .int .i64 n2, .int .i64 n3] 42))
          have HPQ2 := Lib.hid ((HPQ2.out.keep hstep).alloc (.cells #[.int .i64 n1, .int .i64 n2, .int .i64 n3] 42))
          have HPQ3 := Lib.hid ((HPQ3.out.keep hstep).alloc (.cells #[.int .i64 n1, .int .i64 n2, .int .i64 n3] 42))
          clear hstep
          have f10 := HPQ1.out.cell 0
          have f11 := HPQ1.out.cell 1
          have f12 := HPQ1.out.cell 2
          have f13 := HPQ1.out.cell 3
          have f14 := HPQ1.out.cell 4
          have f15 := HPQ1.out.cell 5
          have f20 := HPQ2.out.cell 0
          have f21 := HPQ2.out.cell 1
          have f22 := HPQ2.out.cell 2
          have f23 := HPQ2.out.cell 3
          have f24 := HPQ2.out.cell 4
          have f25 := HPQ2.out.cell 5
          have f30 := HPQ3.out.cell 0
          have f31 := HPQ3.out.cell 1
          have f32 := HPQ3.out.cell 2
          have f40 := HPN.out.cell 0
          have f41 := HPN.out.cell 1
          have f42 := HPN.out.cell 2
          simp at f10 f11 f12 f13 f14 f15 f20 f21 f22 f23 f24 f25 f30 f31 f32
          go_wp2_with fail
          have hWB : Below w.heap.size w (w19.alloc (.cells #[.int .i64 n1, .int .i64 n2, .int .i64 n3] 42)) := HB1.out.trans ((HB8w.out.trans (HBN.out.mono HB8w.out.size)).mono HB1.out.size)
          have HWB := Lib.hid hWB
          clear hWB HBN HPN HPQ3 zA zY a0 a1 a2 c0 c1 c2
          generalize hWn : w19.alloc (.cells #[.int .i64 n1, .int .i64 n2, .int .i64 n3] 42) = w20 at HWB HPQ1 HPQ2 ⊢
          clear hWn
          go_loopw [17] (fun i wr => ∃ j : Nat, j ≤ 3 ∧ i = .int .i64 (j : Int) ∧ Below w20.heap.size w20 wr) (fun i _ => 3 - (intOf i).toNat)
          case atStart => exact ⟨0, by omega, rfl, Below.refl _ _⟩
          case round =>
            obtain ⟨j, hj, rfl, hbj⟩ := hrel
            have hp := HPQ1.out.keep hbj
            have hq := HPQ2.out.keep hbj
            have p0 := hp.cell 0
            have p1 := hp.cell 1
            have p2 := hp.cell 2
            have p3 := hp.cell 3
            have p4 := hp.cell 4
            have p5 := hp.cell 5
            have q0 := hq.cell 0
            have q1 := hq.cell 1
            have q2 := hq.cell 2
            have q3 := hq.cell 3
            have q4 := hq.cell 4
            have q5 := hq.cell 5
            simp at p0 p1 p2 p3 p4 p5 q0 q1 q2 q3 q4 q5
            clear hp hq
            have g1 : decide (l1 < m1) = false := decide_eq_false (by omega)
            have g2 : decide (l2 < m2) = false := decide_eq_false (by omega)
            have g3 : decide (l3 < m3) = false := decide_eq_false (by omega)
            have g4 : decide (i1 < h1) = false := decide_eq_false (by omega)
            have g5 : decide (i2 < h2) = false := decide_eq_false (by omega)
            have g6 : decide (i3 < h3) = false := decide_eq_false (by omega)
            by_cases hlt : j < 3
            · have h3 : j = 0 ∨ j = 1 ∨ j = 2 := by omega
              rcases h3 with rfl | rfl | rfl
              all_goals
                go_wp2_with fail
                go_quiet (fail)
                go_wp2_with fail
                go_roundw
                case rel => exact ⟨_, hlt, rfl, by first | exact hbj | exact below_drewNs hbj⟩
                case measure => simp [intOf]
            · go_wp2
              go_ret
              exact ⟨rfl, HWB.out.trans (hbj.mono HWB.out.size)⟩
        · have d8 : ((oce (nmB s) (b + B) k (SK S E k)).2 != 0) = true := by simpa using he8
          have hb9 := HB1.out.trans ((HBK.out.trans (hb8.mono HBK.out.size)).mono HB1.out.size)
          clear he8 hb8
          go_wp2
          go_ret
          exact ⟨rfl, hb9⟩
  · have hbad : (fewB s n = false) ∨ (fewB s n = true ∧ (e2 (nmB s) b n S t != 0) = true) ∨ (fewB s n = true ∧ (e2 (nmB s) b n S t != 0) = false ∧ inB E 0 100000 = false) ∨ (fewB s n = true ∧ (e2 (nmB s) b n S t != 0) = false ∧ inB E 0 100000 = true ∧ inB B 0 100000 = false) := by
      cases h1 : fewB s n with
      | false => exact .inl rfl
      | true =>
        by_cases h2 : e2 (nmB s) b n S t = 0
        · cases h3 : inB E 0 100000 with
          | false => exact .inr (.inr (.inl ⟨rfl, by rw [h2]; rfl, rfl⟩))
          | true =>
            cases h4 : inB B 0 100000 with
            | false => exact .inr (.inr (.inr ⟨rfl, by rw [h2]; rfl, rfl, rfl⟩))
            | true => exact absurd ⟨h1, h2, h3, h4⟩ hgood
        · exact .inr (.inl ⟨rfl, by simpa using h2⟩)
    clear hgood
    have HBAD := Lib.hid hbad
    clear hbad
    rcases HBAD.out with d1 | ⟨d1, d2⟩ | ⟨d1, d2, d3⟩ | ⟨d1, d2, d3, d4⟩
    all_goals
      go_wp2_with (first
        | (go_at_call 16; (with_reducible refine (HP1.out _ ?_).mono ?_); (repeat (first | assumption | (with_reducible exact Below.refl _ _))); rintro e w4 ⟨rfl, hb4, hs0, hs1, hs2, hs3, hs4⟩)
        | (go_at_call 25; (with_reducible refine (HP2.out _ ?_).mono ?_); (repeat (first | assumption | (with_reducible exact Below.refl _ _))); rintro e w5 ⟨rfl, hb5, ht0, ht1, ht2, ht3, ht4⟩)
        | (go_at_call 21; refine (baseWithin_any _ _ _ _).mono ?_; rintro e w' ⟨rfl, rfl⟩))
      go_ret
      first
        | exact ⟨rfl, HB1.out.trans (hb5.mono HB1.out.size)⟩
        | exact ⟨rfl, HB1.out.trans (hb4.mono HB1.out.size)⟩
end Go.Proofs.Ytjfgfkahgjjcoaa
