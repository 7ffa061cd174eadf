/- Contracts of package orbit: the least of all ticks. -/
import Derived.Test.YtnaanninmkplfaaOtk
import Derived.Deep.DeepCutAuto
namespace Go.Proofs.Ytnaanninmkplfaa
open Go.RowKit Go.Shelf
attribute [local go_sem] Oper.semAt_some
set_option maxHeartbeats 1600000
set_option maxRecDepth 100000

theorem first_eq (s : ByteArray) (b : Int) (A : Option Addr) (n c : Nat) (S : Nat → Nat → Int) (w : World) (hS : St w A n S) (hn : 0 < n) :
    Calls Try.prog 136 #[.agg #[.string s, .int .i64 b, .slice A n c]] w fun e w' => e = .returned (.int .i64 (S 0 0)) ∧ w.alloc (.cells #[.string s, .int .i64 b, .slice A n c] 126) = w' := by
  obtain ⟨bk, off, rfl, hbk, hc⟩ := (hS.alloc (.cells #[.string s, .int .i64 b, .slice A n c] 126)).at hn
  have k0 := (hc 0 hn).1
  rw [show off + 0 * 5 = off by omega] at k0
  obtain ⟨x, hx⟩ : ∃ x, x = S 0 0 := ⟨_, rfl⟩
  rw [← hx] at k0 ⊢
  clear hS hc hx
  go_enter Try.func136, Try.ntmps136
  go_wp2
  go_ret
  exact ⟨rfl, rfl⟩

theorem cells_below {W w1 : World} (hb : Below W.heap.size W w1) : (∀ b o, b < W.heap.size → w1.cell? ⟨b, o, none⟩ = W.cell? ⟨b, o, none⟩) ∧ (∀ b o, b < W.heap.size → w1.frozen? ⟨b, o, none⟩ = W.frozen? ⟨b, o, none⟩) :=
  ⟨fun b o h => hb.cell (p := ⟨b, o, none⟩) h, fun b o h => hb.frozen (p := ⟨b, o, none⟩) h⟩

theorem at_drew {w : World} {g : Nat} {t : TypeId} {cs : Array Value} (h : At w g t cs) : At w.drew g t cs := h
theorem with_z {V w4 : World} {g : Nat} {t : TypeId} {G : Prop} (h : At V g t #[.int .i64 0]) (hb : Below V.heap.size V w4)
    (k : At w4 g t #[.int .i64 0] → w4.cell? ⟨g, 0, none⟩ = some (.int .i64 0) → w4.frozen? ⟨g, 0, none⟩ = false → g < w4.heap.size → g < w4.heap.size + 1 → G) : G := by
  have q := h.keep hb
  exact k q (q.cell 0) (q.free 0) q.lt (Nat.lt_succ_of_lt q.lt)

/-- a variable of the call's own -/
def Own1 (n0 : Nat) (w : World) (g : Nat) (x : Int) : Prop := n0 ≤ g ∧ g < w.heap.size ∧ w.cell? ⟨g, 0, none⟩ = some (.int .i64 x) ∧ w.frozen? ⟨g, 0, none⟩ = false

theorem own1_at {n0 : Nat} {w : World} {g : Nat} {x : Int} (hg : n0 ≤ g) (h : At w g 3 #[.int .i64 x]) : Own1 n0 w g x := ⟨hg, h.lt, h.cell 0, h.free 0⟩
theorem at_box {w : World} {g : Nat} {t : TypeId} {u v : Value} (h : At w g t #[u]) : At (w.setCell ⟨g, 0, none⟩ v) g t #[v] := by
  have := heap_setCell_same w g 0 #[u] t v h
  simpa [At] using this
theorem at_farB {w : World} {g h : Nat} {t : TypeId} {cs : Array Value} {u : Value} (hA : At w g t cs) (hne : g ≠ h) : At (w.setCell ⟨h, 0, none⟩ u) g t cs := hA.far hne u

/-- the first tick at which f is least, and what f is there -/
def Least (S : Nat → Nat → Int) (n : Nat) (f : Int → Int) (t : Int) : Prop := Go.Proofs.Ytnaanninmkplfaa.Has S n t ∧ (∀ u, Go.Proofs.Ytnaanninmkplfaa.Has S n u → f t ≤ f u) ∧ ∀ u, Go.Proofs.Ytnaanninmkplfaa.Has S n u → u < t → f t < f u
def LO (S : Nat → Nat → Int) (n : Nat) (f : Int → Int) (w : World) (e : Ending) (w' : World) : Prop := ∃ t, e = .returned (.tuple #[.int .i64 t, .int .i64 (f t)]) ∧ Least S n f t ∧ Below w.heap.size w w'

theorem own1_kept {n0 : Nat} {A B : World} {g : Nat} {x : Int} {row : Option Nat} (h : Own1 n0 A g x) (hg : A.grownBy B row) (hr : ∀ r, row = some r → ∃ o : Obj, A.heap[r]? = some o ∧ o.isCells = false) : Own1 n0 B g x :=
  ⟨h.1, Nat.lt_of_lt_of_le h.2.1 hg.size, cell_kept h.2.2.1 hg hr, (frozen_kept h.2.2.1 hg hr).trans h.2.2.2⟩
theorem own1_below {n0 : Nat} {A B : World} {g : Nat} {x : Int} (h : Own1 n0 A g x) (hb : Below A.heap.size A B) : Own1 n0 B g x :=
  ⟨h.1, Nat.lt_of_lt_of_le h.2.1 hb.size, ((cells_below hb).1 g 0 h.2.1).trans h.2.2.1, ((cells_below hb).2 g 0 h.2.1).trans h.2.2.2⟩

theorem own1_set {n0 : Nat} {A : World} {g : Nat} {x y : Int} (h : Own1 n0 A g x) : Own1 n0 (A.setCell ⟨g, 0, none⟩ (.int .i64 y)) g y :=
  ⟨h.1, by simpa using h.2.1, World.cell?_setCell_same _ _ _ h.2.2.1, by simpa using h.2.2.2⟩
theorem own1_set_far {n0 : Nat} {A : World} {g j : Nat} {x : Int} {v : Value} (h : Own1 n0 A g x) (hne : g ≠ j) : Own1 n0 (A.setCell ⟨j, 0, none⟩ v) g x :=
  ⟨h.1, by simpa using h.2.1, (World.cell?_setCell_other _ _ _ _ (by intro e; cases e; exact hne rfl)).trans h.2.2.1, by simpa using h.2.2.2⟩

theorem below_put {B j : Nat} {a w : World} {o : Obj} (h : Below B a w) (hj : B ≤ j) : Below B a (w.putObj j o) :=
  h.trans ⟨rfl, rfl, rfl, by simp, fun k hk => World.putObj_heap_other (by omega)⟩

/-- the least of the first k ticks -/
def LeastK (S : Nat → Nat → Int) (n : Nat) (f : Int → Int) (k : Nat) (t : Int) : Prop := Go.Proofs.Ytnaanninmkplfaa.Has S n t ∧ (∀ j : Nat, j < k → f t ≤ f (S 0 0 + (j : Int))) ∧ ∀ u, S 0 0 ≤ u → u < t → f t < f u
theorem leastK_zero {S : Nat → Nat → Int} {n : Nat} {f : Int → Int} (h : Go.Proofs.Ytnaanninmkplfaa.Has S n (S 0 0)) : LeastK S n f 0 (S 0 0) := ⟨h, fun j hj => absurd hj (by omega), fun u h1 h2 => absurd h2 (by omega)⟩
theorem leastK_less {S : Nat → Nat → Int} {n k : Nat} {f : Int → Int} {t : Int} (h : LeastK S n f k t) (hk : k < nT S n) (hl : f (S 0 0 + (k : Int)) < f t) : LeastK S n f (k + 1) (S 0 0 + (k : Int)) := by
  refine ⟨⟨by omega, by unfold nT at hk; omega⟩, fun j hj => ?_, fun u h1 h2 => ?_⟩
  · rcases Nat.lt_or_ge j k with hjk | hjk
    · have := h.2.1 j hjk
      omega
    · obtain rfl : j = k := by omega
      exact Int.le_refl _
  · have := h.2.1 (u - S 0 0).toNat (by omega)
    rw [show S 0 0 + ((u - S 0 0).toNat : Int) = u by omega] at this
    omega
theorem leastK_more {S : Nat → Nat → Int} {n k : Nat} {f : Int → Int} {t : Int} (h : LeastK S n f k t) (hl : ¬ f (S 0 0 + (k : Int)) < f t) : LeastK S n f (k + 1) t := by
  refine ⟨h.1, fun j hj => ?_, h.2.2⟩
  rcases Nat.lt_or_ge j k with hjk | hjk
  · exact h.2.1 j hjk
  · obtain rfl : j = k := by omega
    omega
theorem leastK_all {S : Nat → Nat → Int} {n : Nat} {f : Int → Int} {t : Int} (h : LeastK S n f (nT S n) t) : Least S n f t := by
  refine ⟨h.1, fun u hu => ?_, fun u hu h2 => h.2.2 u hu.1 h2⟩
  have := h.2.1 (u - S 0 0).toNat (by unfold nT; have := hu.1; have := hu.2; omega)
  rwa [show S 0 0 + ((u - S 0 0).toNat : Int) = u by have := hu.1; omega] at this

theorem leastOf_any (s : ByteArray) (b : Int) (A : Option Addr) (n c : Nat) (S : Nat → Nat → Int) (bb : Int) (f : Int → Int) (q : FuncId) (cap1 cap2 : Value) (w : World) (hS : St w A n S) (hR : Right S n bb) (hn : n ≤ c) (hc : c ≤ maxLen)
    (hq : ∀ args w, (callFunc q args).run Try.prog w = .ok (.enter q args) w)
    (ht : ∀ t W, Go.Proofs.Ytnaanninmkplfaa.Has S n t → Below w.heap.size w W → Calls Try.prog q #[.int .i64 t, cap1, cap2] W fun e w' => e = .returned (.int .i64 (f t)) ∧ Below W.heap.size W w') :
    Calls Try.prog 101 #[.agg #[.string s, .int .i64 b, .slice A n c], .func (.func q) #[] #[cap1, cap2]] w (LO S n f w) := by
  have h2 := hR.1
  have hle := hR.2.2.2.2.1.le (Nat.zero_le (n - 1)) (by omega)
  have hH0 : Go.Proofs.Ytnaanninmkplfaa.Has S n (S 0 0) := ⟨Int.le_refl _, hle⟩
  refine (callsIn_wide (n := 9)).1 (callsIn_of_wp_marks Try.func101 rfl trivial (wpIn_wide.2 ?_))
  simp only [Try.ntmps101, List.size_toArray, List.length_cons, List.length_nil, Nat.reduceAdd, Nat.reduceSub, Array.replicate_succ, Array.replicate_zero, List.push_toArray, List.append_toArray, List.cons_append, List.nil_append]
  have HS := Lib.hid hS
  have HR := Lib.hid hR
  have HN := Lib.hid hn
  have HC := Lib.hid hc
  have HT := Lib.hid ht
  have HH0 := Lib.hid hH0
  have H2 := Lib.hid h2
  clear hS hR hn hc ht hH0 hle h2
  go_wp2_with fail
  have hA : At ((w.alloc (.cells #[.string s, .int .i64 b, .slice A n c] 126)).alloc (.cells #[.func (.func q) #[] #[cap1, cap2]] 142)) w.heap.size 126 #[.string s, .int .i64 b, .slice A n c] := (At.new w _ _).alloc _
  have hL : At ((w.alloc (.cells #[.string s, .int .i64 b, .slice A n c] 126)).alloc (.cells #[.func (.func q) #[] #[cap1, cap2]] 142)) (w.heap.size + 1) 142 #[.func (.func q) #[] #[cap1, cap2]] := at_new (by simp)
  have hb1 : Below w.heap.size w ((w.alloc (.cells #[.string s, .int .i64 b, .slice A n c] 126)).alloc (.cells #[.func (.func q) #[] #[cap1, cap2]] 142)) := below_new (below_new (Below.refl _ w) (Nat.le_refl _)) (by simp)
  generalize hW1 : (w.alloc (.cells #[.string s, .int .i64 b, .slice A n c] 126)).alloc (.cells #[.func (.func q) #[] #[cap1, cap2]] 142) = W1 at hA hL hb1 ⊢
  clear hW1
  have hSS : ∀ w', Below W1.heap.size W1 w' → w'.cell? ⟨w.heap.size, 0, none⟩ = some (.string s) ∧ w'.cell? ⟨w.heap.size, 1, none⟩ = some (.int .i64 b) ∧ w'.cell? ⟨w.heap.size, 2, none⟩ = some (.slice A n c) ∧ w'.cell? ⟨w.heap.size + 1, 0, none⟩ = some (.func (.func q) #[] #[cap1, cap2]) := fun w' hW => by
    have p := hA.keep hW
    have r := hL.keep hW
    exact ⟨p.cell 0, p.cell 1, p.cell 2, r.cell 0⟩
  have hS1 := HS.out.below hb1
  have hP1 : ∀ W : World, Below W1.heap.size W1 W → Calls Try.prog 136 #[.agg #[.string s, .int .i64 b, .slice A n c]] W fun e w' => e = .returned (.int .i64 (S 0 0)) ∧ W.alloc (.cells #[.string s, .int .i64 b, .slice A n c] 126) = w' := fun W hW => first_eq s b A n c S W (hS1.below hW) (by have := H2.out; omega)
  have hP2 : ∀ W : World, Below W1.heap.size W1 W → Calls Try.prog q #[.int .i64 (S 0 0), cap1, cap2] W fun e w' => e = .returned (.int .i64 (f (S 0 0))) ∧ Below W.heap.size W w' ∧ Below W1.heap.size W1 w' := fun W hW => (HT.out _ W HH0.out (hb1.trans (hW.mono hb1.size))).mono fun e w' ⟨he, hb⟩ => ⟨he, hb, hW.trans (hb.mono hW.size)⟩
  have HP1 := Lib.hid hP1
  have HP2 := Lib.hid hP2
  have HSS := Lib.hid hSS
  obtain ⟨s0, s1, s2, s3⟩ := hSS W1 (Below.refl _ _)
  have HB1 := Lib.hid hb1
  have HA := Lib.hid hA
  have HL := Lib.hid hL
  have hz1 : w.heap.size + 1 < W1.heap.size := hL.lt
  obtain ⟨x0, hx0⟩ : ∃ x, x = S 0 0 := ⟨_, rfl⟩
  clear hP1 hP2 hSS hb1 hA hL hS1
  go_upto_region 1 with fail
  go_cut [6, 7] from 10 to 15 (fun s6 s7 wx => ∃ g6 g7 : Nat, s6 = .pointer (some ⟨g6, 0, none⟩) ∧ s7 = .pointer (some ⟨g7, 0, none⟩) ∧ g6 ≠ g7 ∧ Own1 W1.heap.size wx g6 (S 0 0) ∧ Own1 W1.heap.size wx g7 (f (S 0 0)) ∧ Below W1.heap.size W1 wx)
  case first =>
    go_region_held3 (fun w' => w'.cell? ⟨w.heap.size, 0, none⟩ = some (.string s) ∧ w'.cell? ⟨w.heap.size, 1, none⟩ = some (.int .i64 b) ∧ w'.cell? ⟨w.heap.size, 2, none⟩ = some (.slice A n c) ∧ w'.cell? ⟨w.heap.size + 1, 0, none⟩ = some (.func (.func q) #[] #[cap1, cap2])) (first | (refine HSS.out _ ?_; (repeat (first | (with_reducible exact Below.refl _ _) | (with_reducible refine Below.drew ?_) | (with_reducible refine below_drewNs ?_) | (with_reducible refine below_set ?_ (by first | omega | (simp; omega))) | (with_reducible refine below_new ?_ (by first | omega | (simp; done) | (simp; omega))) | assumption)); done) | go_keep)
      (first
        | (go_at_call 136; (with_reducible refine (HP1.out _ ?_).mono ?_); (repeat (first | (with_reducible exact Below.refl _ _) | (with_reducible refine Below.drew ?_) | (with_reducible refine below_drewNs ?_) | (with_reducible refine below_set ?_ (by first | omega | (simp; omega))) | (with_reducible refine below_new ?_ (by first | omega | (simp; done) | (simp; omega))) | assumption)); rintro e w' ⟨rfl, rfl⟩)
        | ((with_reducible refine (HP2.out _ ?_).mono ?_); (repeat (first | (with_reducible exact Below.refl _ _) | (with_reducible refine Below.drew ?_) | (with_reducible refine below_drewNs ?_) | (with_reducible refine below_set ?_ (by first | omega | (simp; omega))) | (with_reducible refine below_new ?_ (by first | omega | (simp; done) | (simp; omega))) | assumption)); rintro e w4 ⟨rfl, hb4, hbl4⟩; have hz5 := hbl4.size; (first | (((with_reducible refine with_z (g := W1.heap.size) (t := 3) ?_ hb4 ?_)); (focus ((repeat (first | (((with_reducible refine at_new ?_)); simp; done) | (with_reducible refine At.alloc ?_ _) | (with_reducible refine at_drew ?_))); done)); intro aa0 ca0 cb0 cc0 cd0) | skip); (first | (((with_reducible refine with_z (g := W1.heap.size + 1) (t := 3) ?_ hb4 ?_)); (focus ((repeat (first | (((with_reducible refine at_new ?_)); simp; done) | (with_reducible refine At.alloc ?_ _) | (with_reducible refine at_drew ?_))); done)); intro aa1 ca1 cb1 cc1 cd1) | skip); (first | (((with_reducible refine with_z (g := W1.heap.size + 1 + 1) (t := 3) ?_ hb4 ?_)); (focus ((repeat (first | (((with_reducible refine at_new ?_)); simp; done) | (with_reducible refine At.alloc ?_ _) | (with_reducible refine at_drew ?_))); done)); intro aa2 ca2 cb2 cc2 cd2) | skip); (first | (((with_reducible refine with_z (g := W1.heap.size + 1 + 1 + 1) (t := 3) ?_ hb4 ?_)); (focus ((repeat (first | (((with_reducible refine at_new ?_)); simp; done) | (with_reducible refine At.alloc ?_ _) | (with_reducible refine at_drew ?_))); done)); intro aa3 ca3 cb3 cc3 cd3) | skip)))
    all_goals
      go_wp2_with fail
      go_meet
      refine ⟨_, _, rfl, rfl, ?_, own1_at ?_ ?_, own1_at ?_ ?_, ?_⟩
      · first | omega | (simp; done) | (simp; omega)
      · first | omega | (simp; done) | (simp; omega)
      · repeat (first | (with_reducible assumption) | (with_reducible refine at_drew ?_) | ((with_reducible refine at_new ?_); first | omega | (simp; done)) | (with_reducible refine At.alloc ?_ _) | ((with_reducible refine at_farB ?_ ?_); rotate_left; (focus first | omega | (simp; omega))) | (with_reducible refine at_box (u := .int .i64 0) ?_))
      · first | omega | (simp; done) | (simp; omega)
      · repeat (first | (with_reducible assumption) | (with_reducible refine at_drew ?_) | ((with_reducible refine at_new ?_); first | omega | (simp; done)) | (with_reducible refine At.alloc ?_ _) | ((with_reducible refine at_farB ?_ ?_); rotate_left; (focus first | omega | (simp; omega))) | (with_reducible refine at_box (u := .int .i64 0) ?_))
      · repeat (first | (with_reducible assumption) | (with_reducible exact Below.refl _ _) | (with_reducible refine Below.drew ?_) | (with_reducible refine below_drewNs ?_) | (with_reducible refine below_set ?_ (by first | omega | (simp; omega))) | (with_reducible refine below_new ?_ (by first | omega | (simp; done) | (simp; omega))))
  case rest =>
    obtain ⟨g6, g7, rfl, rfl, hne, ho6, ho7, hbx⟩ := hcut
    have hA2 := HA.out.keep hbx
    have hL2 := HL.out.keep hbx
    have hbw : Below w.heap.size w wc := HB1.out.trans (hbx.mono HB1.out.size)
    have p0 := hA2.cell 0
    have p1 := hA2.cell 1
    have p2 := hA2.cell 2
    simp at p0 p1 p2
    obtain ⟨a1, a2, a3, a4⟩ := ho6
    obtain ⟨b1, b2, b3, b4⟩ := ho7
    have HBW := Lib.hid hbw
    have HL2 := Lib.hid hL2
    clear hA2 hL2 hbw hbx s0 s1 s2 s3
    go_wp2_with fail
    have hn0 := HBW.out.size
    have hTk := ticks_rounds s b A n c S bb w wc HS.out HR.out HN.out HC.out HBW.out
    have fL := HL2.out.cell 0
    simp at fL
    have h0 : ∃ t : Int, Own1 W1.heap.size wc g6 t ∧ Own1 W1.heap.size wc g7 (f t) ∧ LeastK S n f 0 t ∧ Below w.heap.size w wc ∧ wc.cell? ⟨w.heap.size + 1, 0, none⟩ = some (.func (.func q) #[] #[cap1, cap2]) := ⟨S 0 0, ⟨a1, a2, a3, a4⟩, ⟨b1, b2, b3, b4⟩, leastK_zero HH0.out, HBW.out, fL⟩
    have hI : OwnFrom wc.heap.size (fun (k : Nat) (W : World) => ∃ t : Int, Own1 W1.heap.size W g6 t ∧ Own1 W1.heap.size W g7 (f t) ∧ LeastK S n f k t ∧ Below w.heap.size w W ∧ W.cell? ⟨w.heap.size + 1, 0, none⟩ = some (.func (.func q) #[] #[cap1, cap2])) := by
      rintro k X Y row ⟨t, h6, h7, hl, hb, hf⟩ hg hr
      have hr' := fun r e => (hr r e).2
      exact ⟨t, own1_kept h6 hg hr', own1_kept h7 hg hr', hl, ownFrom_below (β := Nat) (Nat.le_refl _) hn0 k X Y row hb hg hr, cell_kept hf hg hr'⟩
    refine wpIn_wide.1 (rounds_law (gf := 105) (pv := pathV s b A n c) rfl (enters_of Try.func105 rfl rfl) hn0 hTk _ (fun _ _ => False) hI (fun _ _ _ _ h _ _ => h) h0
      (fun k => { tmps := #[.agg #[.string s, .int .i64 b, .slice A n c], .func (.func q) #[] #[cap1, cap2], .pointer (some ⟨w.heap.size, 0, none⟩), .pointer (some ⟨w.heap.size + 1, 0, none⟩), .int .i64 0, .int .i64 0, .pointer (some ⟨g6, 0, none⟩), .pointer (some ⟨g7, 0, none⟩), .int .i64 (S 0 0 + (k : Int)), undef, u10, u11, u12, u13, u14, u15, .agg #[.string s, .int .i64 b, .slice A n c], .func (.func 105) #[.agg #[.string s, .int .i64 b, .slice A n c]] #[], .int .i64 (S 0 0 + (k : Int)), undef, undef, undef, undef, undef, undef, undef, undef, undef, undef], defers := [] }) ?_ ?_ ?_ ?_)
    · intro l k W K hK
      simp only [tickE]
      gi_wp2_with fail
      exact hK
    · rintro l k W hk _ ⟨t, ⟨c1, c2, c3, c4⟩, ⟨d1, d2, d3, d4⟩, hlk, hbk, hf⟩
      have hT := HT.out (S 0 0 + (k : Int)) W ⟨by omega, by have := hk; unfold nT at this; omega⟩ hbk
      have HTK := Lib.hid hT
      have HLK := Lib.hid hlk
      have HBK := Lib.hid hbk
      clear hT hlk hbk
      gi_wp2_with fail
      refine ⟨trivial, ?_⟩
      refine (CallsIn.inRound l (callsIn_wide.2 HTK.out)).mono ?_
      rintro e w2 ⟨rfl, hb2⟩
      obtain ⟨_, c2', c3', c4'⟩ := own1_below ⟨c1, c2, c3, c4⟩ hb2
      obtain ⟨_, d2', d3', d4'⟩ := own1_below ⟨d1, d2, d3, d4⟩ hb2
      have hf2 := hb2.cell (p := ⟨w.heap.size + 1, 0, none⟩) (by have := HBK.out.size; have := hn0; have : w.heap.size + 1 < W.heap.size := by omega
                                                                 exact this)
      rw [hf] at hf2
      have hkp : Kept w.heap.size (wc.heap.size + 2) W w2 := kept_below hb2
      have hko : KeepsOthers W w2 := ⟨hb2.size, fun j o hj _ => (hb2.block j (Array.getElem?_eq_some_iff.1 hj).1).trans hj⟩
      have hbk2 := HBK.out.trans (hb2.mono HBK.out.size)
      have HB2 := Lib.hid hb2
      have HKP := Lib.hid hkp
      have HKO := Lib.hid hko
      have HBK2 := Lib.hid hbk2
      clear hb2 hkp hko hbk2
      by_cases hlt : f (S 0 0 + (k : Int)) < f t
      · gi_wp2_with fail
        refine ⟨(HKO.out.trans (KeepsOthers.setCell _ _ _)).trans (KeepsOthers.setCell _ _ _), kept_set (kept_set HKP.out (by omega) (by omega)) (by omega) (by omega), S 0 0 + (k : Int), ?_, ?_, leastK_less HLK.out hk hlt, below_set (below_set HBK2.out (by omega)) (by omega), ?_⟩
        · exact own1_set_far (own1_set ⟨c1, c2', c3', c4'⟩) hne
        · exact own1_set (own1_set_far ⟨d1, d2', d3', d4'⟩ (Ne.symm hne))
        · rw [World.cell?_setCell_other _ _ _ _ (by intro e; cases e; omega), World.cell?_setCell_other _ _ _ _ (by intro e; cases e; omega)]
          exact hf2
      · gi_wp2_with fail
        exact ⟨HKO.out, HKP.out, t, ⟨c1, c2', c3', c4'⟩, ⟨d1, d2', d3', d4'⟩, leastK_more HLK.out (by omega), HBK2.out, hf2⟩
    · rintro D W hD ⟨t, ⟨c1, c2, c3, c4⟩, ⟨d1, d2, d3, d4⟩, hlk, hbk, hf⟩ hK
      have hle := leastK_all hlk
      dsimp only
      go_wp2_with fail
      go_quiet (fail)
      go_wp2_with fail
      refine ⟨by simp, .inl ⟨_, _, rfl, run_takeDeferred hK, ?_⟩⟩
      refine ⟨_, ?_, t, rfl, hle, below_put (below_drewNs hbk) (by omega)⟩
      have hrs : Func.results Try.f101 = #[.tmp 4, .tmp 5] := rfl
      exact results_tmp2 hrs _ _ _
    · rintro D k W hD h _
      exact h.elim
end Go.Proofs.Ytnaanninmkplfaa
