/- Contracts of package orbit: the passes. -/
import Derived.Test.YtnaanninmkplfaaOlf
import Derived.Test.YtnaanninmkplfaaOwt
import Derived.Test.YtnaanninmkplfaaOrq
import Derived.Sort.QuietTacIn
namespace Go.Proofs.Ytnaanninmkplfaa
open Go.RowKit Go.Shelf
attribute [local go_sem] Oper.semAt_some
set_option maxHeartbeats 1600000
set_option maxRecDepth 100000

/-- the ranges of the first k ticks at which f says yes -/
def passK (f : Int → Bool) (t0 : Int) : Nat → List (Int × Int)
  | 0 => []
  | k + 1 => if f (t0 + (k : Int)) = true then gro (passK f t0 k) (t0 + (k : Int)) else passK f t0 k
theorem passK_len (f : Int → Bool) (t0 : Int) : ∀ k, (passK f t0 k).length ≤ k
  | 0 => Nat.le_refl _
  | k + 1 => by
    have := passK_len f t0 k
    have := gro_len (passK f t0 k) (t0 + (k : Int))
    rw [passK]
    split <;> omega

def nearB (S : Nat → Nat → Int) (n : Nat) (P : Nat → Int) (most : Int) (t : Int) : Bool := decide (sqN S n t P ≤ most * most)
def eS (nm : Bool) (b : Int) (n : Nat) (S : Nat → Nat → Int) (p1 p2 p3 most : Int) : Int := fe (l3 (oce nm b n S).2 (pe p1 p2 p3) (eif (!inB most 0 100000000) 2)) 3
theorem eS_zero {nm : Bool} {b : Int} {n : Nat} {S : Nat → Nat → Int} {p1 p2 p3 most : Int} (h : eS nm b n S p1 p2 p3 most = 0) :
    nm = true ∧ Right S n b ∧ ((-100000000 ≤ p1 ∧ p1 ≤ 100000000) ∧ (-100000000 ≤ p2 ∧ p2 ≤ 100000000) ∧ (-100000000 ≤ p3 ∧ p3 ≤ 100000000)) ∧ 0 ≤ most ∧ most ≤ 100000000 := by
  unfold eS at h
  rw [fe_three] at h
  split at h
  · rename_i h0
    obtain ⟨a1, a2⟩ := oce_zero h0
    split at h
    · rename_i h1
      refine ⟨a1, a2, pe_zero h1, ?_⟩
      rcases Bool.eq_false_or_eq_true (inB most 0 100000000) with hb | hb
      · exact inB_iff.1 hb
      · rw [hb] at h; simp [eif] at h
    · contradiction
  · contradiction

/-- what Passes returns -/
def PA (base : Nat) (nm : Bool) (b : Int) (n : Nat) (S : Nat → Nat → Int) (p1 p2 p3 most : Int) (e : Ending) (w' : World) : Prop :=
  (eS nm b n S p1 p2 p3 most ≠ 0 ∧ e = .returned (.tuple #[.slice none 0 0, .int .i64 (eS nm b n S p1 p2 p3 most)])) ∨
  (eS nm b n S p1 p2 p3 most = 0 ∧ ∃ v, e = .returned (.tuple #[v, .int .i64 0]) ∧ OwnR w' base v (passK (nearB S n (P3 p1 p2 p3) most) (S 0 0) (nT S n)))

theorem ownR_base {w : World} {B B' : Nat} {v : Value} {L : List (Int × Int)} (h : OwnR w B' v L) (hB : B ≤ B') : OwnR w B v L := by
  obtain ⟨h1, h2⟩ := h
  refine ⟨h1, ?_⟩
  rcases h2 with h2 | ⟨g, cap, cur, hv, hg, r⟩
  · exact Or.inl h2
  · exact Or.inr ⟨g, cap, cur, hv, by omega, r⟩

theorem at_grown {A B : World} {g : Nat} {t : TypeId} {cs : Array Value} {row : Option Nat} (h : At A g t cs) (hg : A.grownBy B row) (hr : row ≠ some g) : At B g t cs := (hg.block g h.lt (fun e => hr e.symm)).trans h
theorem at_kept {A B : World} {g : Nat} {t : TypeId} {cs : Array Value} {row : Option Nat} (h : At A g t cs) (hg : A.grownBy B row) (hr : ∀ r, row = some r → ∃ o : Obj, A.heap[r]? = some o ∧ o.isCells = false) : At B g t cs := by
  refine at_grown h hg fun e => ?_
  obtain ⟨o, h1, h2⟩ := hr g e
  have h3 : A.heap[g]? = some (.cells cs t (0, 0)) := h
  rw [h3] at h1
  cases h1
  cases h2
theorem ownR_kept {A B : World} {base : Nat} {v : Value} {L : List (Int × Int)} {row : Option Nat} (h : OwnR A base v L) (hg : A.grownBy B row) (hr : ∀ r, row = some r → ∃ o : Obj, A.heap[r]? = some o ∧ o.isCells = false) : OwnR B base v L := by
  refine World.ownsRow.kept h hg ?_
  rcases h.2 with ⟨rfl, _⟩ | ⟨g, cap, cur, rfl, _, hgg, _⟩
  · exact .inl rfl
  · refine .inr fun e => ?_
    obtain ⟨o, h1, h2⟩ := hr g (by rw [← e]; rfl)
    rw [hgg] at h1
    cases h1
    cases h2
theorem ownR_below {A B : World} {base : Nat} {v : Value} {L : List (Int × Int)} (h : OwnR A base v L) (hb : Below A.heap.size A B) : OwnR B base v L := by
  refine ⟨h.1, ?_⟩
  rcases h.2 with h2 | ⟨g, cap, cur, hv, hg, hgg, r⟩
  · exact Or.inl h2
  · exact Or.inr ⟨g, cap, cur, hv, hg, (hb.block g (Array.getElem?_eq_some_iff.1 hgg).1).trans hgg, r⟩
theorem ownR_slice {w : World} {base : Nat} {v : Value} {L : List (Int × Int)} (h : OwnR w base v L) : ∃ A c, v = .slice A L.length c := by
  rcases h.2 with ⟨rfl, h0⟩ | ⟨g, cap, cur, rfl, _⟩
  · exact ⟨none, 0, by rw [h0]⟩
  · exact ⟨_, _, rfl⟩
theorem ownR_set {A : World} {base j : Nat} {v u : Value} {L : List (Int × Int)} (h : OwnR A base v L) (hj : j < base) : OwnR (A.setCell ⟨j, 0, none⟩ u) base v L := ownsRow_setCell_below h hj u
theorem keeps_below {A B : World} (hb : Below A.heap.size A B) : KeepsOthers A B := ⟨hb.size, fun j _ hj _ => (hb.block j (Array.getElem?_eq_some_iff.1 hj).1).trans hj⟩
theorem keeps_ownR {A B : World} {base : Nat} {v : Value} {L : List (Int × Int)} (h : OwnR A base v L) (hg : A.grownBy B v.ownBlock) : KeepsOthers A B := by
  refine KeepsOthers.of_grownBy hg fun j o e hj => ?_
  rcases h.2 with ⟨rfl, _⟩ | ⟨g, cap, cur, rfl, _, hgg, _⟩
  · cases e
  · cases e
    rw [hgg] at hj
    cases hj
    rfl

theorem passes_any (s : ByteArray) (b : Int) (A : Option Addr) (n c : Nat) (S : Nat → Nat → Int) (p1 p2 p3 most : Int) (w : World) (hS : St w A n S) (hs : s.size ≤ maxLen) (hn : n ≤ c) (hc : c ≤ maxLen) :
    Calls Try.prog 53 #[.agg #[.string s, .int .i64 b, .slice A n c], .agg #[.int .i64 p1, .int .i64 p2, .int .i64 p3], .int .i64 most] w fun e w' => PA w.heap.size (nmB s) b n S p1 p2 p3 most e w' ∧ Below w.heap.size w w' := by
  refine (callsIn_wide (n := 9)).1 (callsIn_of_wp_marks Try.func53 rfl trivial (wpIn_wide.2 ?_))
  simp only [Try.ntmps53, List.size_toArray, List.length_cons, List.length_nil, Nat.reduceAdd, Nat.reduceSub, Array.replicate_succ, Array.replicate_zero, List.push_toArray, List.append_toArray, List.cons_append, List.nil_append]
  have HS := Lib.hid hS
  have H1 := Lib.hid hs
  have HN := Lib.hid hn
  have HC := Lib.hid hc
  clear hS hs hn hc
  go_wp2_with (first | (go_at_call 106; refine (within_any _ _ _ _).mono ?_; rintro e w' ⟨rfl, rfl⟩) | (go_at_call 71; refine (errorIf_any _ _ _).mono ?_; rintro e w' ⟨rfl, rfl⟩))
  have hA : At ((((w.alloc (.cells #[.string s, .int .i64 b, .slice A n c] 24)).alloc (.cells #[.int .i64 p1, .int .i64 p2, .int .i64 p3] 42)).alloc (.cells #[.int .i64 most] 3)).alloc (.cells #[.string s, .int .i64 b, .slice A n c] 126)) (w.heap.size + 1 + 1 + 1) 126 #[.string s, .int .i64 b, .slice A n c] := at_new (by simp)
  have hL : At ((((w.alloc (.cells #[.string s, .int .i64 b, .slice A n c] 24)).alloc (.cells #[.int .i64 p1, .int .i64 p2, .int .i64 p3] 42)).alloc (.cells #[.int .i64 most] 3)).alloc (.cells #[.string s, .int .i64 b, .slice A n c] 126)) (w.heap.size + 1) 42 #[.int .i64 p1, .int .i64 p2, .int .i64 p3] := ((at_new (by simp)).alloc _).alloc _
  have hM : At ((((w.alloc (.cells #[.string s, .int .i64 b, .slice A n c] 24)).alloc (.cells #[.int .i64 p1, .int .i64 p2, .int .i64 p3] 42)).alloc (.cells #[.int .i64 most] 3)).alloc (.cells #[.string s, .int .i64 b, .slice A n c] 126)) (w.heap.size + 1 + 1) 3 #[.int .i64 most] := (at_new (by simp)).alloc _
  have hb1 : Below w.heap.size w ((((w.alloc (.cells #[.string s, .int .i64 b, .slice A n c] 24)).alloc (.cells #[.int .i64 p1, .int .i64 p2, .int .i64 p3] 42)).alloc (.cells #[.int .i64 most] 3)).alloc (.cells #[.string s, .int .i64 b, .slice A n c] 126)) := by
    repeat (first | (with_reducible exact Below.refl _ _) | (with_reducible refine below_new ?_ (by first | omega | (simp; done) | (simp; omega))))
  generalize hW1 : (((w.alloc (.cells #[.string s, .int .i64 b, .slice A n c] 24)).alloc (.cells #[.int .i64 p1, .int .i64 p2, .int .i64 p3] 42)).alloc (.cells #[.int .i64 most] 3)).alloc (.cells #[.string s, .int .i64 b, .slice A n c] 126) = W1 at hA hL hM hb1 ⊢
  clear hW1
  have hS1 := HS.out.below hb1
  have hSS : ∀ w', Below W1.heap.size W1 w' → w'.cell? ⟨w.heap.size + 1 + 1 + 1, 0, none⟩ = some (.string s) ∧ w'.cell? ⟨w.heap.size + 1 + 1 + 1, 1, none⟩ = some (.int .i64 b) ∧ w'.cell? ⟨w.heap.size + 1 + 1 + 1, 2, none⟩ = some (.slice A n c) ∧ w'.cell? ⟨w.heap.size + 1, 0, none⟩ = some (.int .i64 p1) ∧ w'.cell? ⟨w.heap.size + 1, 1, none⟩ = some (.int .i64 p2) ∧ w'.cell? ⟨w.heap.size + 1, 2, none⟩ = some (.int .i64 p3) := fun w' hW => by
    have q := hA.keep hW
    have r := hL.keep hW
    exact ⟨q.cell 0, q.cell 1, q.cell 2, r.cell 0, r.cell 1, r.cell 2⟩
  have hP1 : ∀ W : World, Below W1.heap.size W1 W → Calls Try.prog 76 #[.agg #[.string s, .int .i64 b, .slice A n c]] W fun e w' => e = .returned (.int .i64 (oce (nmB s) b n S).2) ∧ Below W1.heap.size W1 w' ∧ w'.cell? ⟨w.heap.size + 1 + 1 + 1, 0, none⟩ = some (.string s) ∧ w'.cell? ⟨w.heap.size + 1 + 1 + 1, 1, none⟩ = some (.int .i64 b) ∧ w'.cell? ⟨w.heap.size + 1 + 1 + 1, 2, none⟩ = some (.slice A n c) ∧ w'.cell? ⟨w.heap.size + 1, 0, none⟩ = some (.int .i64 p1) ∧ w'.cell? ⟨w.heap.size + 1, 1, none⟩ = some (.int .i64 p2) ∧ w'.cell? ⟨w.heap.size + 1, 2, none⟩ = some (.int .i64 p3) := by
    intro W hW
    refine (check_any s b A n c S W (hS1.below hW) H1.out HN.out HC.out).mono ?_
    rintro e w' ⟨rfl, hb⟩
    have hB := hW.trans (hb.mono hW.size)
    exact ⟨rfl, hB, hSS _ hB⟩
  have hP3 : ∀ W : World, Below W1.heap.size W1 W → Calls Try.prog 92 #[.agg #[.int .i64 p1, .int .i64 p2, .int .i64 p3]] W fun e w' => e = .returned (.int .i64 (pe p1 p2 p3)) ∧ Below W1.heap.size W1 w' ∧ w'.cell? ⟨w.heap.size + 1 + 1 + 1, 0, none⟩ = some (.string s) ∧ w'.cell? ⟨w.heap.size + 1 + 1 + 1, 1, none⟩ = some (.int .i64 b) ∧ w'.cell? ⟨w.heap.size + 1 + 1 + 1, 2, none⟩ = some (.slice A n c) ∧ w'.cell? ⟨w.heap.size + 1, 0, none⟩ = some (.int .i64 p1) ∧ w'.cell? ⟨w.heap.size + 1, 1, none⟩ = some (.int .i64 p2) ∧ w'.cell? ⟨w.heap.size + 1, 2, none⟩ = some (.int .i64 p3) := by
    intro W hW
    refine (checkPlace_any p1 p2 p3 W).mono ?_
    rintro e w' ⟨rfl, hb⟩
    have hB := hW.trans (hb.mono hW.size)
    exact ⟨rfl, hB, hSS _ hB⟩
  obtain ⟨s0, s1, s2, s3, s4, s5⟩ := hSS W1 (Below.refl _ _)
  have HP1 := Lib.hid hP1
  have HP3 := Lib.hid hP3
  have HB1 := Lib.hid hb1
  have HA := Lib.hid hA
  have HL := Lib.hid hL
  have HM := Lib.hid hM
  have HS1 := Lib.hid hS1
  clear hP1 hP3 hb1 hA hL hM hS1 hSS
  go_region_held3 (fun w' => w'.cell? ⟨w.heap.size + 1 + 1 + 1, 0, none⟩ = some (.string s) ∧ w'.cell? ⟨w.heap.size + 1 + 1 + 1, 1, none⟩ = some (.int .i64 b) ∧ w'.cell? ⟨w.heap.size + 1 + 1 + 1, 2, none⟩ = some (.slice A n c) ∧ w'.cell? ⟨w.heap.size + 1, 0, none⟩ = some (.int .i64 p1) ∧ w'.cell? ⟨w.heap.size + 1, 1, none⟩ = some (.int .i64 p2) ∧ w'.cell? ⟨w.heap.size + 1, 2, none⟩ = some (.int .i64 p3)) (go_keep)
    (first
      | (go_at_call 76; (with_reducible refine (HP1.out _ ?_).mono ?_); (repeat (first | assumption | (with_reducible exact Below.refl _ _) | (with_reducible refine Below.drew ?_) | (with_reducible refine below_drewNs ?_))); rintro e w4 ⟨rfl, hb4, hs0, hs1, hs2, hs3, hs4, hs5⟩)
      | (go_at_call 92; (with_reducible refine (HP3.out _ ?_).mono ?_); (repeat (first | assumption | (with_reducible exact Below.refl _ _) | (with_reducible refine Below.drew ?_) | (with_reducible refine below_drewNs ?_))); rintro e w6 ⟨rfl, hb6, hu0, hu1, hu2, hu3, hu4, hu5⟩)
      | (go_at_call 70; (with_reducible refine (firstError_any _ 3 3 (l3 _ _ _) _ (sl_new (by simp) (get_l3 _ _ _)) (by omega)).mono ?_); rintro e w' ⟨rfl, rfl⟩)
      | (go_at_call 70; (with_reducible refine (firstError_any _ 3 3 (l3 _ _ _) _ (sl_newd (by simp) (get_l3 _ _ _)) (by omega)).mono ?_); rintro e w' ⟨rfl, rfl⟩))
  rw [show fe (l3 (oce (nmB s) b n S).2 (pe p1 p2 p3) (eif (!inB most 0 100000000) 2)) 3 = eS (nmB s) b n S p1 p2 p3 most from rfl]
  have hw : Below W1.heap.size W1 (w6.alloc (.cells #[.int .i64 (oce (nmB s) b n S).2, .int .i64 (pe p1 p2 p3), .int .i64 (eif (!inB most 0 100000000) 2)] 27)) := below_new hb6 hb6.size
  generalize hW2 : w6.alloc (.cells #[.int .i64 (oce (nmB s) b n S).2, .int .i64 (pe p1 p2 p3), .int .i64 (eif (!inB most 0 100000000) 2)] 27) = W2 at hw ⊢
  clear hW2 hb6 hu0 hu1 hu2 hu3 hu4 hu5 s0 s1 s2 s3 s4 s5
  have hA2 := HA.out.keep hw
  have s0 := hA2.cell 0
  have s1 := hA2.cell 1
  have s2 := hA2.cell 2
  simp at s0 s1 s2
  have HA2 := Lib.hid hA2
  have HL2 := Lib.hid (HL.out.keep hw)
  have HM2 := Lib.hid (HM.out.keep hw)
  have HBf := Lib.hid (HB1.out.trans (hw.mono HB1.out.size))
  have HST := Lib.hid (HS1.out.below hw)
  have hz : w.heap.size + 1 + 1 + 1 < W2.heap.size := hA2.lt
  clear hA2 hw
  by_cases he : eS (nmB s) b n S p1 p2 p3 most = 0
  · have d1 : (eS (nmB s) b n S p1 p2 p3 most != 0) = false := by rw [he]; rfl
    obtain ⟨hnm, hR, hp, hm⟩ := eS_zero he
    have HE := Lib.hid he
    have HR := Lib.hid hR
    have HPP := Lib.hid hp
    have HMO := Lib.hid hm
    clear he hR hp hnm hm
    go_wp2_with fail
    have hA3 := HA2.out.alloc (.cells #[.slice none 0 0] 97)
    have hL3 := HL2.out.alloc (.cells #[.slice none 0 0] 97)
    have hM3 := HM2.out.alloc (.cells #[.slice none 0 0] 97)
    have hG3 := At.new W2 97 #[.slice none 0 0]
    have hB3 : Below w.heap.size w (W2.alloc (.cells #[.slice none 0 0] 97)) := below_new HBf.out HBf.out.size
    have hsz : (W2.alloc (.cells #[.slice none 0 0] 97)).heap.size = W2.heap.size + 1 := by simp
    generalize hW3 : W2.alloc (.cells #[.slice none 0 0] 97) = wc at hA3 hL3 hM3 hG3 hB3 hsz ⊢
    clear hW3
    have hn0 : w.heap.size ≤ wc.heap.size := by omega
    have hTk := ticks_rounds s b A n c S b w wc HS.out HR.out HN.out HC.out hB3
    have h0 : ∃ v, At wc W2.heap.size 97 #[v] ∧ OwnR wc (wc.heap.size + 3) v (passK (nearB S n (P3 p1 p2 p3) most) (S 0 0) 0) ∧ Below w.heap.size w wc ∧ At wc (w.heap.size + 1 + 1 + 1) 126 #[.string s, .int .i64 b, .slice A n c] ∧ At wc (w.heap.size + 1) 42 #[.int .i64 p1, .int .i64 p2, .int .i64 p3] ∧ At wc (w.heap.size + 1 + 1) 3 #[.int .i64 most] := ⟨_, hG3, World.ownsRow_nil _ _ _ _, hB3, hA3, hL3, hM3⟩
    have hI : OwnFrom wc.heap.size (fun (k : Nat) (W : World) => ∃ v, At W W2.heap.size 97 #[v] ∧ OwnR W (wc.heap.size + 3) v (passK (nearB S n (P3 p1 p2 p3) most) (S 0 0) k) ∧ Below w.heap.size w W ∧ At W (w.heap.size + 1 + 1 + 1) 126 #[.string s, .int .i64 b, .slice A n c] ∧ At W (w.heap.size + 1) 42 #[.int .i64 p1, .int .i64 p2, .int .i64 p3] ∧ At W (w.heap.size + 1 + 1) 3 #[.int .i64 most]) := by
      rintro k X Y row ⟨v, h1, h2, h3, h4, h5, h6⟩ hg hr
      have hr' := fun r e => (hr r e).2
      exact ⟨v, at_kept h1 hg hr', ownR_kept h2 hg hr', ownFrom_below (β := Nat) (Nat.le_refl _) hn0 k X Y row h3 hg hr, at_kept h4 hg hr', at_kept h5 hg hr', at_kept h6 hg hr'⟩
    have HSZ := Lib.hid hsz
    clear s0 s1 s2 hA3 hL3 hM3 hG3 hB3 hsz
    have hm2 : IntKind.i64.wrap (most * most) = most * most := IntWalk.i64_in _ (by
      have := HMO.out
      have h1 := Int.mul_nonneg this.1 this.1
      have h2 := Int.mul_le_mul this.2 this.2 this.1 (by omega)
      omega)
    have HM3 := Lib.hid hm2
    have HTK := Lib.hid hTk
    have HI := Lib.hid hI
    have H0 := Lib.hid h0
    clear hm2 hTk hI h0
    refine wpIn_wide.1 (rounds_law (gf := 105) (pv := pathV s b A n c) rfl (enters_of Try.func105 rfl rfl) hn0 HTK.out _ (fun _ _ => False) HI.out (fun _ _ _ _ h _ _ => h) H0.out
      (fun k => { tmps := #[.agg #[.string s, .int .i64 b, .slice A n c], .agg #[.int .i64 p1, .int .i64 p2, .int .i64 p3], .int .i64 most, .pointer (some ⟨w.heap.size, 0, none⟩), .pointer (some ⟨w.heap.size + 1, 0, none⟩), .pointer (some ⟨w.heap.size + 1 + 1, 0, none⟩), .slice none 0 0, .int .i64 0, .pointer (some ⟨w.heap.size + 1 + 1 + 1, 0, none⟩), .int .i64 (eif (!inB most 0 100000000) 2), .int .i64 (eS (nmB s) b n S p1 p2 p3 most), .pointer (some ⟨W2.heap.size, 0, none⟩), .int .i64 (S 0 0 + (k : Int)), .agg #[.string s, .int .i64 b, .slice A n c], .agg #[.string s, .int .i64 b, .slice A n c], .int .i64 most, .bool (inB most 0 100000000), .bool (!inB most 0 100000000), .int .i64 (eif (!inB most 0 100000000) 2), .agg #[.string s, .int .i64 b, .slice A n c], .int .i64 (oce (nmB s) b n S).2, .agg #[.int .i64 p1, .int .i64 p2, .int .i64 p3], .int .i64 (pe p1 p2 p3), .int .i64 (eif (!inB most 0 100000000) 2), .slice (some ⟨w6.heap.size, 0, none⟩) 3 3, .int .i64 (eS (nmB s) b n S p1 p2 p3 most), .int .i64 (eS (nmB s) b n S p1 p2 p3 most), .bool false, undef, .agg #[.string s, .int .i64 b, .slice A n c], .func (.func 105) #[.agg #[.string s, .int .i64 b, .slice A n c]] #[], .int .i64 (S 0 0 + (k : Int)), undef, undef, undef, undef, undef, undef, undef, undef, undef, undef, undef, undef], defers := [] }) ?_ ?_ ?_ ?_)
    · intro l k W K hK
      simp only [tickE]
      gi_wp2_with fail
      exact hK
    · rintro l k W hk hWsz ⟨v, h1, h2, h3, h4, h5, h6⟩
      have hT : Go.Proofs.Ytnaanninmkplfaa.Has S n (S 0 0 + (k : Int)) := ⟨by omega, by unfold nT at hk; omega⟩
      have hC : ∀ X, Below W.heap.size W X → Calls Try.prog 103 #[.agg #[.string s, .int .i64 b, .slice A n c], .int .i64 (S 0 0 + (k : Int)), .agg #[.int .i64 p1, .int .i64 p2, .int .i64 p3]] X fun e w' => e = .returned (.int .i64 (sqN S n (S 0 0 + (k : Int)) (P3 p1 p2 p3))) ∧ Below X.heap.size X w' := fun X hX =>
        nominalSquare_any s b b A n c S _ p1 p2 p3 X (HS.out.below (h3.trans (hX.mono h3.size))) HR.out hT HN.out HC.out HPP.out rfl
      have c0 := h4.cell 0
      have c1 := h4.cell 1
      have c2 := h4.cell 2
      have c3 := h5.cell 0
      have c4 := h5.cell 1
      have c5 := h5.cell 2
      have c6 := h6.cell 0
      simp at c0 c1 c2 c3 c4 c5 c6
      have k0 := cell_regrown c0
      have k1 := cell_regrown c1
      have k2 := cell_regrown c2
      have k3 := cell_regrown c3
      have k4 := cell_regrown c4
      have k5 := cell_regrown c5
      have k6 := cell_regrown c6
      have hm2 := HM3.out
      have CQ := Lib.hid (met_r (m := 6) l hC)
      have HV1 := Lib.hid h1
      have HV2 := Lib.hid h2
      have HV3 := Lib.hid h3
      have HV4 := Lib.hid h4
      have HV5 := Lib.hid h5
      have HV6 := Lib.hid h6
      have HT := Lib.hid hT
      clear c0 c1 c2 c3 c4 c5 c6 hC h1 h2 h3 h4 h5 h6 hT
      gi_wp2_with fail
      refine region_below_r (by kernel_rfl) (by kernel_rfl) (by kernel_rfl) ?_
      repeat (refine step_r (fun K hK => ?_); go_simp; first | (refine hK _ ?_; clear hK K) | (apply Exists.intro; refine ⟨fun _ => ?_, hK _ ?_⟩; (exact CQ.out _ _); clear hK K))
      refine wpQuietIn_nil ?_
      intro _ hw'
      obtain ⟨⟨dq, osq⟩, hw''⟩ := hw'
      subst hw''
      have hb3 := below_regrown W dq osq
      generalize hX : Go.Sort.grow (redrawn W dq) osq = X at hb3 ⊢
      clear hX k0 k1 k2 k3 k4 k5 k6
      have g1 := HV1.out.keep hb3
      have g2 := ownR_below HV2.out hb3
      have g3 := HV3.out.trans (hb3.mono HV3.out.size)
      have g4 := HV4.out.keep hb3
      have g5 := HV5.out.keep hb3
      have g6 := HV6.out.keep hb3
      have ko1 := keeps_below hb3
      have kp1 : Kept w.heap.size (wc.heap.size + 2) W X := kept_below hb3
      have hzz : wc.heap.size + 3 ≤ X.heap.size := Nat.le_trans hWsz hb3.size
      by_cases hnr : sqN S n (S 0 0 + (k : Int)) (P3 p1 p2 p3) ≤ most * most
      · have dn : decide (sqN S n (S 0 0 + (k : Int)) (P3 p1 p2 p3) ≤ most * most) = true := decide_eq_true hnr
        have hpk : passK (nearB S n (P3 p1 p2 p3) most) (S 0 0) (k + 1) = gro (passK (nearB S n (P3 p1 p2 p3) most) (S 0 0) k) (S 0 0 + (k : Int)) := by
          rw [passK]
          exact if_pos dn
        have c0 := g1.cell 0
        have f0 := g1.free 0
        simp at c0
        have G1 := Lib.hid g1
        have G2 := Lib.hid g2
        have G3 := Lib.hid g3
        have G4 := Lib.hid g4
        have G5 := Lib.hid g5
        have G6 := Lib.hid g6
        have KO1 := Lib.hid ko1
        have KP1 := Lib.hid kp1
        have HPK := Lib.hid hpk
        have HB3 := Lib.hid hb3
        have HZZ := Lib.hid hzz
        clear dn hpk g1 g2 g3 g4 g5 g6 ko1 kp1 hb3 hzz hWsz
        gi_wp2_with fail
        refine ⟨trivial, ?_⟩
        refine (CallsIn.inRound l (callsIn_wide.2 (withTick_any v (passK (nearB S n (P3 p1 p2 p3) most) (S 0 0) k) (S 0 0 + (k : Int)) (wc.heap.size + 3) X G2.out HZZ.out ?_ ?_))).mono ?_
        · have := passK_len (nearB S n (P3 p1 p2 p3) most) (S 0 0) k
          have h1 := (HR.out.2.2.2.2.2 (n - 1) (by have := HR.out.1; omega))
          unfold nT at hk
          omega
        · have h1 := HT.out
          have h2 := HR.out.2.2.2.1 0 (by have := HR.out.1; omega)
          have h3 := HR.out.2.2.2.1 (n - 1) (by have := HR.out.1; omega)
          have h4 := h2.1
          have h5 := h3.1
          have h6 := h1.1
          have h7 := h1.2
          omega
        rintro e w5 ⟨v', rfl, ho5, hg5⟩
        obtain ⟨A5, n5, rfl⟩ := ownR_slice ho5
        have hlt := G2.out.lt
        have ne (g : Nat) (hg : g ≤ wc.heap.size + 2) : v.ownBlock ≠ some g := fun e => by have := (hlt g e).1; omega
        have q1 := at_grown G1.out hg5 (ne _ (by have := HSZ.out; omega))
        have q4 := at_grown G4.out hg5 (ne _ (by have := HSZ.out; omega))
        have q5 := at_grown G5.out hg5 (ne _ (by have := HSZ.out; omega))
        have q6 := at_grown G6.out hg5 (ne _ (by have := HSZ.out; omega))
        have q3 : Below w.heap.size w w5 := G3.out.grown hg5 (by have := HZZ.out; omega) (fun g hg => by have := (hlt g hg).1; omega)
        have ko2 := KO1.out.trans (keeps_ownR G2.out hg5)
        have kp2 := KP1.out.trans (kept_grown (n0 := w.heap.size) (m := wc.heap.size + 2) hg5 (fun g hg => by have := (hlt g hg).1; omega))
        have c5 := q1.cell 0
        have f5 := q1.free 0
        simp at c5
        have Q1 := Lib.hid q1
        have Q3 := Lib.hid q3
        have Q4 := Lib.hid q4
        have Q5 := Lib.hid q5
        have Q6 := Lib.hid q6
        have KO2 := Lib.hid ko2
        have KP2 := Lib.hid kp2
        have HO5 := Lib.hid ho5
        clear q1 q3 q4 q5 q6 ko2 kp2 ho5 hg5 hlt ne c0 f0
        gi_wp2_with fail
        have hsz := HSZ.out
        refine ⟨KO2.out.trans (KeepsOthers.setCell _ _ _), kept_set KP2.out (by omega) (by omega), .slice A5 (gro (passK (nearB S n (P3 p1 p2 p3) most) (S 0 0) k) (S 0 0 + (k : Int))).length n5, ?_, ?_, below_set Q3.out (by omega), Q4.out.far (by simp; omega) _, Q5.out.far (by simp; omega) _, Q6.out.far (by simp; omega) _⟩
        · exact at_box Q1.out
        · rw [HPK.out]
          exact ownR_set HO5.out (by omega)
      · have dn : decide (sqN S n (S 0 0 + (k : Int)) (P3 p1 p2 p3) ≤ most * most) = false := decide_eq_false hnr
        have hpk : passK (nearB S n (P3 p1 p2 p3) most) (S 0 0) (k + 1) = passK (nearB S n (P3 p1 p2 p3) most) (S 0 0) k := by
          rw [passK]
          exact if_neg (by unfold nearB; rw [dn]; exact Bool.false_ne_true)
        have HPK := Lib.hid hpk
        have HEND := Lib.hid (And.intro ko1 (And.intro kp1 (And.intro g1 (And.intro g2 (And.intro g3 (And.intro g4 (And.intro g5 g6)))))))
        clear dn hpk g1 g2 g3 g4 g5 g6 ko1 kp1 hb3 hzz hWsz
        gi_wp2_with fail
        obtain ⟨e1, e2, e3, e4, e5, e6, e7, e8⟩ := HEND.out
        exact ⟨e1, e2, v, e3, by rw [HPK.out]; exact e4, e5, e6, e7, e8⟩
    · rintro D W hD ⟨v, h1, h2, h3, h4, h5, h6⟩ hK
      have c0 := h1.cell 0
      simp at c0
      dsimp only
      go_wp2_with fail
      refine ⟨by simp, .inl ⟨_, _, rfl, run_takeDeferred hK, ?_⟩⟩
      have hrs : Func.results Try.f53 = #[.tmp 6, .tmp 7] := rfl
      refine ⟨_, results_tmp2 hrs _ _ _, .inr ⟨HE.out, v, rfl, ?_⟩, below_put h3 (by have := HSZ.out; omega)⟩
      exact ownR_base (ownR_kept h2 (grownBy_putObj' W D _) (fun r e => by cases e; exact ⟨_, hK, rfl⟩)) (by omega)
    · rintro D k W hD h _
      exact h.elim
  · have d1 : (eS (nmB s) b n S p1 p2 p3 most != 0) = true := by simpa using he
    have HE := Lib.hid he
    clear he
    go_wp2
    have hrs : Func.results Try.f53 = #[.tmp 6, .tmp 7] := rfl
    exact ⟨_, results_tmp2 hrs _ _ _, .inl ⟨HE.out, rfl⟩, HBf.out⟩
end Go.Proofs.Ytnaanninmkplfaa
