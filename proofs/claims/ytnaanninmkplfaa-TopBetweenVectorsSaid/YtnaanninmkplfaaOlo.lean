/- Contracts of the small functions of package orbit. -/
import Derived.Test.YtnaanninmkplfaaOop
import Derived.WalkKit
import Derived.WalkSpells
import Derived.WalkLawsBesides
import Derived.BigQuiet
import Derived.Deep.QuietTactic
import Derived.Deep.RegionHeld3
import Derived.Deep.LoopGhost
namespace Go.Proofs.Ytnaanninmkplfaa
open Go.RowKit
set_option maxHeartbeats 400000
set_option maxRecDepth 100000

/-! ### words for memory: a block that is known whole; a slice that reads as a list -/
def At (w : World) (g : Nat) (t : TypeId) (cs : Array Value) : Prop := w.heap[g]? = some (.cells cs t (0, 0))
theorem At.lt {w : World} {g : Nat} {t : TypeId} {cs : Array Value} (h : At w g t cs) : g < w.heap.size := by
  unfold At at h
  exact (Array.getElem?_eq_some_iff.1 h).1
theorem At.cell {w : World} {g : Nat} {t : TypeId} {cs : Array Value} (h : At w g t cs) (i : Nat) : w.cell? ⟨g, i, none⟩ = cs[i]? := cell_of_row w g i cs t (0, 0) h
theorem At.free {w : World} {g : Nat} {t : TypeId} {cs : Array Value} (h : At w g t cs) (i : Nat) : w.frozen? ⟨g, i, none⟩ = false := by
  unfold At at h
  simp [World.frozen?, h]
theorem At.below {w w' : World} {g B : Nat} {t : TypeId} {cs : Array Value} (h : At w g t cs) (hb : Below B w w') (hg : g < B) : At w' g t cs := (hb.block g hg).trans h
theorem At.keep {w w' : World} {g : Nat} {t : TypeId} {cs : Array Value} (h : At w g t cs) (hb : Below w.heap.size w w') : At w' g t cs := h.below hb h.lt
theorem At.alloc {w : World} {g : Nat} {t : TypeId} {cs : Array Value} (h : At w g t cs) (o : Obj) : At (w.alloc o) g t cs := (Below.heap_alloc w o g h.lt).trans h
theorem At.new (w : World) (t : TypeId) (cs : Array Value) : At (w.alloc (.cells cs t)) w.heap.size t cs := heap_alloc_new w _
theorem at_new {w : World} {g : Nat} {t : TypeId} {cs : Array Value} (hg : g = w.heap.size) : At (w.alloc (.cells cs t)) g t cs := by
  subst hg; exact At.new w t cs
theorem At.far {w : World} {g : Nat} {t : TypeId} {cs : Array Value} (h : At w g t cs) {p : Addr} (hp : g ≠ p.block) (u : Value) : At (w.setCell p u) g t cs := (Below.heap_setCell w p u g hp).trans h
theorem At.put {w : World} {g : Nat} {t : TypeId} {cs : Array Value} (h : At w g t cs) (i : Nat) (u : Value) : At (w.setCell ⟨g, i, none⟩ u) g t (cs.setIfInBounds i u) := by
  unfold At at h ⊢
  simp [World.setCell, Array.getElem?_modify, h]

theorem below_set {B g i : Nat} {a w : World} {u : Value} (h : Below B a w) (hg : B ≤ g) : Below B a (w.setCell ⟨g, i, none⟩ u) := h.setCell hg u
theorem below_drewNs {B n : Nat} {a w : World} (h : Below B a w) : Below B a (w.drewN n) := h.trans ⟨rfl, rfl, rfl, Nat.le_refl _, fun _ _ => rfl⟩
theorem below_new {B : Nat} {a w : World} {o : Obj} (h : Below B a w) (hB : B ≤ w.heap.size) : Below B a (w.alloc o) := h.alloc hB o

def Sl (w : World) (A : Option Addr) (n : Nat) (f : Nat → Value) : Prop := 0 < n → ∃ b off, A = some ⟨b, off, none⟩ ∧ b < w.heap.size ∧ ∀ i, i < n → w.cell? ⟨b, off + i, none⟩ = some (f i)
theorem Sl.below {w w' : World} {A : Option Addr} {n : Nat} {f : Nat → Value} (h : Sl w A n f) (hb : Below w.heap.size w w') : Sl w' A n f := by
  intro hn
  obtain ⟨b, off, e, hlt, hc⟩ := h hn
  exact ⟨b, off, e, Nat.lt_of_lt_of_le hlt hb.size, fun i hi => (hb.cell (p := ⟨b, off + i, none⟩) hlt).trans (hc i hi)⟩
theorem Sl.alloc {w : World} {A : Option Addr} {n : Nat} {f : Nat → Value} (h : Sl w A n f) (o : Obj) : Sl (w.alloc o) A n f := h.below ((Below.refl _ _).alloc (Nat.le_refl _) o)
theorem sl_new {w : World} {g n : Nat} {t : TypeId} {cs : Array Value} {f : Nat → Value} (hg : g = w.heap.size) (hc : ∀ i, i < n → cs[i]? = some (f i)) : Sl (w.alloc (.cells cs t)) (some ⟨g, 0, none⟩) n f :=
  fun _ => ⟨g, 0, rfl, by subst hg; simp, fun i hi => by rw [show (0 : Nat) + i = i from Nat.zero_add i, (at_new hg).cell i]; exact hc i hi⟩

theorem Sl.drew {w : World} {A : Option Addr} {n : Nat} {f : Nat → Value} (h : Sl w A n f) : Sl w.drew A n f := h
theorem sl_newd {w : World} {g n : Nat} {t : TypeId} {cs : Array Value} {f : Nat → Value} (hg : g = w.heap.size) (hc : ∀ i, i < n → cs[i]? = some (f i)) : Sl (w.alloc (.cells cs t)).drew (some ⟨g, 0, none⟩) n f := (sl_new hg hc).drew

/-- the five cells of each state, as the walk spells their places -/
theorem St.at {w : World} {A : Option Addr} {n : Nat} {S : Nat → Nat → Int} (h : St w A n S) (hn : 0 < n) :
    ∃ b off, A = some ⟨b, off, none⟩ ∧ b < w.heap.size ∧ ∀ i, i < n → w.cell? ⟨b, off + i * 5, none⟩ = some (.int .i64 (S i 0)) ∧ w.cell? ⟨b, off + i * 5 + 1, none⟩ = some (.int .i64 (S i 1)) ∧ w.cell? ⟨b, off + i * 5 + 2, none⟩ = some (.int .i64 (S i 2)) ∧
      w.cell? ⟨b, off + i * 5 + 3, none⟩ = some (.int .i64 (S i 3)) ∧ w.cell? ⟨b, off + i * 5 + 4, none⟩ = some (.int .i64 (S i 4)) := by
  obtain ⟨b, off, e, hl, hc⟩ := h hn
  exact ⟨b, off, e, hl, fun i hi => ⟨hc i hi 0 (by omega), hc i hi 1 (by omega), hc i hi 2 (by omega), hc i hi 3 (by omega), hc i hi 4 (by omega)⟩⟩

/-! ### ranges -/
def inB (n lo hi : Int) : Bool := decide (lo ≤ n) && decide (n ≤ hi)
theorem inB_t {n lo hi : Int} (h : lo ≤ n ∧ n ≤ hi) : inB n lo hi = true := by simp [inB, h.1, h.2]
theorem inB_f {n lo hi : Int} (h : ¬ (lo ≤ n ∧ n ≤ hi)) : inB n lo hi = false := by
  simp only [inB, Bool.and_eq_false_iff, decide_eq_false_iff_not]; omega
theorem inB_iff {n lo hi : Int} : inB n lo hi = true ↔ lo ≤ n ∧ n ≤ hi := by simp [inB]

theorem within_any (n lo hi : Int) (w : World) :
    Calls Try.prog 106 #[.int .i64 n, .int .i64 lo, .int .i64 hi] w fun e w' => e = .returned (.bool (inB n lo hi)) ∧ w = w' := by
  by_cases h : lo ≤ n
  · have hd : decide (lo ≤ n) = true := by simpa using h
    by_cases h2 : n ≤ hi
    · have hd2 : decide (n ≤ hi) = true := by simpa using h2
      have hf : inB n lo hi = true := by simp [inB, h, h2]
      have HF := Lib.hid hf
      clear hf
      go_enter Try.func106, Try.ntmps106
      go_wp2
      go_ret
      rw [HF.out]
      exact ⟨rfl, rfl⟩
    · have hd2 : decide (n ≤ hi) = false := by simpa using h2
      have hf : inB n lo hi = false := by simp [inB, h2]
      have HF := Lib.hid hf
      clear hf
      go_enter Try.func106, Try.ntmps106
      go_wp2
      go_ret
      rw [HF.out]
      exact ⟨rfl, rfl⟩
  · have hd : decide (lo ≤ n) = false := by simpa using h
    have hf : inB n lo hi = false := by simp [inB, h]
    have HF := Lib.hid hf
    clear hf
    go_enter Try.func106, Try.ntmps106
    go_wp2
    go_ret
    rw [HF.out]
    exact ⟨rfl, rfl⟩

theorem isCoordinate_any (n : Int) (w : World) : Calls Try.prog 134 #[.int .i64 n] w fun e w' => e = .returned (.bool (inB n (-100000000) 100000000)) ∧ w = w' := by
  go_enter Try.func134, Try.ntmps134
  go_wp2_with (go_at_call 106; refine (within_any _ _ _ _).mono ?_; rintro e w' ⟨rfl, rfl⟩)
  go_ret
  exact ⟨rfl, rfl⟩
theorem isTick_any (n : Int) (w : World) : Calls Try.prog 124 #[.int .i64 n] w fun e w' => e = .returned (.bool (inB n 0 1000000000)) ∧ w = w' := by
  go_enter Try.func124, Try.ntmps124
  go_wp2_with (go_at_call 106; refine (within_any _ _ _ _).mono ?_; rintro e w' ⟨rfl, rfl⟩)
  go_ret
  exact ⟨rfl, rfl⟩
theorem isError_any (n : Int) (w : World) : Calls Try.prog 73 #[.int .i64 n] w fun e w' => e = .returned (.bool (inB n 0 100000)) ∧ w = w' := by
  go_enter Try.func73, Try.ntmps73
  go_wp2_with (go_at_call 106; refine (within_any _ _ _ _).mono ?_; rintro e w' ⟨rfl, rfl⟩)
  go_ret
  exact ⟨rfl, rfl⟩

/-! ### errors -/
def eif (b : Bool) (x : Int) : Int := if b = true then x else 0
theorem errorIf_any (b : Bool) (x : Int) (w : World) : Calls Try.prog 71 #[.bool b, .int .i64 x] w fun e w' => e = .returned (.int .i64 (eif b x)) ∧ w = w' := by
  cases b
  · go_enter Try.func71, Try.ntmps71
    go_wp2
    go_ret
    exact ⟨rfl, rfl⟩
  · go_enter Try.func71, Try.ntmps71
    go_wp2
    go_ret
    exact ⟨rfl, rfl⟩

/-- the first of the first n codes that is not 0 -/
def fe (f : Nat → Int) : Nat → Int
  | 0 => 0
  | k + 1 => if fe f k = 0 then f k else fe f k
theorem fe_hit {f : Nat → Int} {k n : Nat} (h : fe f k = 0) (hf : f k ≠ 0) (hk : k < n) : fe f n = f k := by
  induction n with
  | zero => omega
  | succ n ih =>
    rw [fe]
    rcases Nat.lt_or_ge k n with g | g
    · rw [ih g, if_neg hf]
    · obtain rfl : k = n := by omega
      rw [if_pos h]

theorem firstError_any (A : Option Addr) (n c : Nat) (f : Nat → Int) (w : World) (hs : Sl w A n (fun i => .int .i64 (f i))) (hn : n ≤ 100) :
    Calls Try.prog 70 #[.slice A n c] w fun e w' => e = .returned (.int .i64 (fe f n)) ∧ w = w' := by
  have HS := Lib.hid hs
  clear hs
  go_enter Try.func70, Try.ntmps70
  go_wp2
  go_loop [7] (fun i => ∃ k : Nat, k ≤ n ∧ i = .int .i64 (k : Int) ∧ fe f k = 0) (fun i => n - (intOf i).toNat)
  case atStart => exact ⟨0, Nat.zero_le _, rfl, rfl⟩
  case round =>
    obtain ⟨k, hk, rfl, hz⟩ := hrel
    have HZ := Lib.hid hz
    clear hz
    by_cases hlt : k < n
    · obtain ⟨b, off, rfl, _, hc⟩ := HS.out (by omega)
      have hcell := hc k hlt
      obtain ⟨x, hx⟩ : ∃ x, x = f k := ⟨_, rfl⟩
      simp only [← hx] at hcell
      have HX := Lib.hid hx
      clear hc hx
      by_cases h0 : x = 0
      · have H0 := Lib.hid h0
        have e0 : (x != 0) = false := by simpa using h0
        clear h0
        go_wp2
        go_round
        case rel => exact ⟨k + 1, by omega, by go_num, by rw [fe, if_pos HZ.out, ← HX.out, H0.out]⟩
        case measure => simp [intOf]; omega
      · have e0 : (x != 0) = true := by simpa using h0
        have HH := Lib.hid (fe_hit (n := n) HZ.out (HX.out ▸ h0) hlt)
        clear h0
        go_wp2
        go_ret
        rw [HH.out, ← HX.out]
        exact ⟨rfl, rfl⟩
    · go_wp2
      go_ret
      obtain rfl : k = n := by omega
      rw [HZ.out]
      exact ⟨rfl, rfl⟩

/-! ### what an array by value gives at a place -/
@[go_sem] theorem idx3_0 (x y z : Int) (w : World) : (Instr.index 84 (.agg #[.int .i64 x, .int .i64 y, .int .i64 z]) (.int .i64 0)).run Try.prog w = .ok (.int .i64 x) w := by
  simp [Instr.index, run_underlying Try.underlying84, asIntOf, go_sem]
@[go_sem] theorem idx3_1 (x y z : Int) (w : World) : (Instr.index 84 (.agg #[.int .i64 x, .int .i64 y, .int .i64 z]) (.int .i64 1)).run Try.prog w = .ok (.int .i64 y) w := by
  simp [Instr.index, run_underlying Try.underlying84, asIntOf, go_sem]
@[go_sem] theorem idx3_2 (x y z : Int) (w : World) : (Instr.index 84 (.agg #[.int .i64 x, .int .i64 y, .int .i64 z]) (.int .i64 2)).run Try.prog w = .ok (.int .i64 z) w := by
  simp [Instr.index, run_underlying Try.underlying84, asIntOf, go_sem]

/-! ### places -/
theorem coordinates_any (x y z : Int) (w : World) : Calls Try.prog 128 #[.agg #[.int .i64 x, .int .i64 y, .int .i64 z]] w fun e w' => e = .returned (.agg #[.int .i64 x, .int .i64 y, .int .i64 z]) ∧ Below w.heap.size w w' := by
  go_enter Try.func128, Try.ntmps128
  go_wp2
  refine bodyPost_ret (v := .agg #[.int .i64 x, .int .i64 y, .int .i64 z]) (by simp [results, Try.results128, go_sem, *]) rfl ⟨rfl, ?_⟩
  repeat (first | (with_reducible exact Below.refl _ _) | (with_reducible refine Below.drew ?_) | (with_reducible refine below_drewNs ?_) | (with_reducible refine below_set ?_ (by first | omega | (simp; omega))) | (with_reducible refine below_new ?_ (by first | omega | (simp; done) | (simp; omega))))

/-- the error of a place -/
def pe (x y z : Int) : Int := if (-100000000 ≤ x ∧ x ≤ 100000000) ∧ (-100000000 ≤ y ∧ y ≤ 100000000) ∧ (-100000000 ≤ z ∧ z ≤ 100000000) then 0 else 2
def nth (x y z : Int) (k : Nat) : Int := if k = 0 then x else if k = 1 then y else z
theorem pe_bad {x y z : Int} {k : Nat} (h : inB (nth x y z k) (-100000000) 100000000 = false) : pe x y z = 2 := by
  unfold pe
  rw [if_neg]
  intro hh
  have : inB (nth x y z k) (-100000000) 100000000 = true := by
    rw [inB_iff]
    unfold nth
    split
    · exact hh.1
    · split
      · exact hh.2.1
      · exact hh.2.2
  rw [this] at h
  cases h
theorem pe_good {x y z : Int} (h : ∀ k, k < 3 → inB (nth x y z k) (-100000000) 100000000 = true) : pe x y z = 0 := by
  unfold pe
  rw [if_pos]
  exact ⟨inB_iff.1 (h 0 (by omega)), inB_iff.1 (h 1 (by omega)), inB_iff.1 (h 2 (by omega))⟩

theorem checkPlace_any (x y z : Int) (w : World) : Calls Try.prog 92 #[.agg #[.int .i64 x, .int .i64 y, .int .i64 z]] w fun e w' => e = .returned (.int .i64 (pe x y z)) ∧ Below w.heap.size w w' := by
  go_enter Try.func92, Try.ntmps92
  go_wp2_with fail
  refine (coordinates_any x y z _).mono ?_
  rintro e w1 ⟨rfl, hb1⟩
  have hB : Below w.heap.size w w1 := (below_new (Below.refl _ w) (Nat.le_refl _)).trans (hb1.mono (by simp))
  clear hb1
  go_wp2
  go_loop [7] (fun i => ∃ k : Nat, k ≤ 3 ∧ i = .int .i64 (k : Int) ∧ ∀ j, j < k → inB (nth x y z j) (-100000000) 100000000 = true) (fun i => 3 - (intOf i).toNat)
  case atStart => exact ⟨0, Nat.zero_le _, rfl, fun j hj => absurd hj (by omega)⟩
  case round =>
    obtain ⟨k, hk, rfl, hz⟩ := hrel
    have HZ := Lib.hid hz
    clear hz
    by_cases hlt : k < 3
    · by_cases hb : inB (nth x y z k) (-100000000) 100000000 = true
      · have HB := Lib.hid hb
        clear hb
        have h3 : k = 0 ∨ k = 1 ∨ k = 2 := by omega
        rcases h3 with rfl | rfl | rfl
        all_goals
          have hq := HB.out
          simp only [nth] at hq
          simp at hq
          go_wp2_with (go_at_call 134; refine (isCoordinate_any _ _).mono ?_; rintro e w' ⟨rfl, rfl⟩)
          go_round
          case rel => exact ⟨_, hlt, rfl, fun j hj => by
            rcases Nat.lt_or_ge j _ with g | g
            · exact HZ.out j g
            · obtain rfl := Nat.le_antisymm (Nat.le_of_lt_succ hj) g
              exact HB.out⟩
          case measure => simp [intOf]
      · have hb : inB (nth x y z k) (-100000000) 100000000 = false := by simpa using hb
        have HB := Lib.hid hb
        have HE := Lib.hid (pe_bad hb)
        clear hb
        have h3 : k = 0 ∨ k = 1 ∨ k = 2 := by omega
        rcases h3 with rfl | rfl | rfl
        all_goals
          have hq := HB.out
          simp only [nth] at hq
          simp at hq
          go_wp2_with (go_at_call 134; refine (isCoordinate_any _ _).mono ?_; rintro e w' ⟨rfl, rfl⟩)
          go_ret
          rw [HE.out]
          exact ⟨rfl, hB⟩
    · go_wp2
      go_ret
      rw [pe_good fun j hj => HZ.out j (by omega)]
      exact ⟨rfl, hB⟩
end Go.Proofs.Ytnaanninmkplfaa
