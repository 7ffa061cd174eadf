/- Lists of states of which one number is set; the moved states' list. -/
import Derived.Test.YtnaanninmkplfaaOcp
import Derived.Test.YtnaanninmkplfaaOsu
import Derived.Test.YtnaanninmkplfaaTbm
namespace Go.Proofs.Ytnaanninmkplfaa
open Go.RowKit
set_option maxRecDepth 100000

def upd (X : Nat → Nat → Int) (k c : Nat) (v : Int) (i j : Nat) : Int := if i = k ∧ j = c then v else X i j
theorem stM_get (X : Nat → Nat → Int) {n j : Nat} (h : j < n * 5) : (stL X n)[j]? = some (.int .i64 (X (j / 5) (j % 5))) := by
  unfold stL
  rw [List.getElem?_map, List.getElem?_range h, Option.map_some]
theorem stM_none (X : Nat → Nat → Int) {n j : Nat} (h : ¬ j < n * 5) : (stL X n)[j]? = none := List.getElem?_eq_none (by rw [stL_len]; omega)
theorem stL_upd {X : Nat → Nat → Int} {n k c : Nat} {v : Int} (hc : c < 5) : (stL X n).set (k * 5 + c) (.int .i64 v) = stL (upd X k c v) n := by
  apply List.ext_getElem?
  intro j
  by_cases hj : j < n * 5
  · rw [List.getElem?_set, stL_len, stM_get _ hj, stM_get _ hj]
    unfold upd
    by_cases h : k * 5 + c = j
    · subst h
      rw [if_pos rfl, if_pos hj, if_pos ⟨by omega, by omega⟩]
    · rw [if_neg h, if_neg fun e => h (by omega)]
  · rw [stM_none _ hj, List.getElem?_eq_none (by rw [List.length_set, stL_len]; omega)]
theorem stL_congr {X Y : Nat → Nat → Int} {n : Nat} (h : ∀ i, i < n → ∀ j, j < 5 → X i j = Y i j) : stL X n = stL Y n := by
  apply List.ext_getElem?
  intro j
  by_cases hj : j < n * 5
  · rw [stM_get _ hj, stM_get _ hj, h _ (by omega) _ (by omega)]
  · rw [stM_none _ hj, stM_none _ hj]
theorem stL_moved {S e : Nat → Nat → Int} {n k : Nat} :
    (((((stL (TS S e k) n).set (k * 5) (.int .i64 (S k 0))).set (k * 5 + 1) (.int .i64 (S k 1 + e k 1))).set (k * 5 + 2) (.int .i64 (S k 2 + e k 2))).set (k * 5 + 3) (.int .i64 (S k 3 + e k 3))).set (k * 5 + 4) (.int .i64 0) = stL (TS S e (k + 1)) n := by
  have h0 : (stL (TS S e k) n).set (k * 5) (.int .i64 (S k 0)) = stL (upd (TS S e k) k 0 (S k 0)) n := stL_upd (c := 0) (by omega)
  rw [h0, stL_upd (by omega), stL_upd (by omega), stL_upd (by omega), stL_upd (by omega)]
  refine stL_congr fun i _ j hj => ?_
  by_cases hi : i = k
  · subst hi
    have h : j = 0 ∨ j = 1 ∨ j = 2 ∨ j = 3 ∨ j = 4 := by omega
    rcases h with rfl | rfl | rfl | rfl | rfl
    · rw [TS_tick]; simp [upd]
    · rw [TS_at (by omega) (by omega) (by omega)]; simp [upd]
    · rw [TS_at (by omega) (by omega) (by omega)]; simp [upd]
    · rw [TS_at (by omega) (by omega) (by omega)]; simp [upd]
    · rw [TS_err (by omega)]; simp [upd]
  · have e1 : ∀ (X : Nat → Nat → Int) c v, upd X k c v i j = X i j := fun X c v => if_neg fun h => hi h.1
    rw [e1, e1, e1, e1, e1]
    unfold TS
    by_cases hk : i < k
    · rw [if_pos hk, if_pos (show i < k + 1 by omega)]
    · rw [if_neg hk, if_neg (show ¬ i < k + 1 by omega)]

/-- by how much a state is moved -/
def mvE (S Q : Nat → Nat → Int) (m : Nat) (i c : Nat) : Int := Mo (Q (Mo i m).toNat (c - 1)) (2 * S i 4 + 1) - S i 4
theorem mvE_range {S Q : Nat → Nat → Int} {m i : Nat} (c : Nat) (h : 0 ≤ S i 4) : -S i 4 ≤ mvE S Q m i c ∧ mvE S Q m i c ≤ S i 4 := by
  obtain ⟨a, b⟩ := Mo_range (a := Q (Mo i m).toNat (c - 1)) (m := 2 * S i 4 + 1) (by omega)
  unfold mvE
  omega
def dd (e1 e2 e3 : Int) : Nat → Array Value
  | 0 => #[.int .i64 0, .int .i64 0, .int .i64 0]
  | 1 => #[.int .i64 e1, .int .i64 0, .int .i64 0]
  | 2 => #[.int .i64 e1, .int .i64 e2, .int .i64 0]
  | _ => #[.int .i64 e1, .int .i64 e2, .int .i64 e3]
def stTk (S : Nat → Nat → Int) (t : Int) : Nat → Bool
  | 0 => false
  | j + 1 => stTk S t j || decide (S j 0 = t)
theorem stTk_false {S : Nat → Nat → Int} {t : Int} : ∀ {n : Nat}, stTk S t n = false → ∀ i, i < n → S i 0 ≠ t
  | 0, _, i, hi => absurd hi (by omega)
  | n + 1, h, i, hi => by
    rw [stTk, Bool.or_eq_false_iff] at h
    rcases Nat.lt_or_ge i n with g | g
    · exact stTk_false h.1 i g
    · obtain rfl : i = n := by omega
      exact of_decide_eq_false h.2
theorem own_kept5 {w w' : World} {base e size n cap g : Nat} {xs : List Value} (h : w.ownsRow base e size (.slice (some ⟨g, 0, none⟩) n cap) n xs) (hb : Below w.heap.size w w') : w'.ownsRow base e size (.slice (some ⟨g, 0, none⟩) n cap) n xs := by
  rcases h.2 with ⟨h', _⟩ | ⟨g', cap', cur, h', hb', hg, hr⟩
  · cases h'
  · cases h'
    exact ⟨h.1, .inr ⟨g, cap, cur, rfl, hb', At.keep hg hb, hr⟩⟩
theorem own_cell {w : World} {base n cap g k c : Nat} {X : Nat → Nat → Int} (h : w.ownsRow base 56 5 (.slice (some ⟨g, 0, none⟩) n cap) n (stL X n)) (hk : k < n) (hc : c < 5) : w.cell? ⟨g, k * 5 + c, none⟩ = some (.int .i64 (X k c)) ∧ w.frozen? ⟨g, k * 5 + c, none⟩ = false := by
  refine ⟨?_, h.frozenAt _⟩
  rw [h.cellAt (k * 5 + c) (by omega), stM_get _ (by omega), show (k * 5 + c) / 5 = k by omega, show (k * 5 + c) % 5 = c by omega]
theorem own_moved {w : World} {base n cap g k : Nat} {S e : Nat → Nat → Int} (h : w.ownsRow base 56 5 (.slice (some ⟨g, 0, none⟩) n cap) n (stL (TS S e k) n)) :
    (((((w.setCell ⟨g, k * 5, none⟩ (.int .i64 (S k 0))).setCell ⟨g, k * 5 + 1, none⟩ (.int .i64 (S k 1 + e k 1))).setCell ⟨g, k * 5 + 2, none⟩ (.int .i64 (S k 2 + e k 2))).setCell ⟨g, k * 5 + 3, none⟩ (.int .i64 (S k 3 + e k 3))).setCell ⟨g, k * 5 + 4, none⟩ (.int .i64 0)).ownsRow base 56 5 (.slice (some ⟨g, 0, none⟩) n cap) n (stL (TS S e (k + 1)) n) := by
  rw [← stL_moved]
  exact (World.ownsRow.stored (World.ownsRow.stored (World.ownsRow.stored (World.ownsRow.stored (World.ownsRow.stored h _ _).1 _ _).1 _ _).1 _ _).1 _ _).1
end Go.Proofs.Ytnaanninmkplfaa
