/- The law's count of ticks in ranges; how many ticks passes have. -/
import Derived.Test.YtegmjanpeaibcaaOrg
import Derived.Test.YtegmjanpeaibcaaOrz
import Derived.BigQuiet
namespace Go.Proofs.Ytegmjanpeaibcaa
open Go.RowKit
set_option maxHeartbeats 1600000
set_option maxRecDepth 100000

/-- how many ticks there are in ranges -/
def totR : List (Int × Int) → Int
  | [] => 0
  | q :: L => q.2 - q.1 + 1 + totR L
theorem totR_app (L M : List (Int × Int)) : totR (L ++ M) = totR L + totR M := by
  induction L with
  | nil => simp [totR]
  | cons q L ih => rw [List.cons_append, totR, totR, ih]; omega
theorem totR_gro (L : List (Int × Int)) (t : Int) : totR (gro L t) = totR L + 1 := by
  rcases List.eq_nil_or_concat L with rfl | ⟨M, ⟨a, b⟩, rfl⟩
  · simp [gro_nil, totR]
  · rw [List.concat_eq_append]
    by_cases h : b = t - 1
    · rw [gro_join h, totR_app, totR_app]
      simp only [totR]
      omega
    · rw [gro_new h, totR_app, totR_app]
      simp only [totR]
      omega
def OkR (L : List (Int × Int)) (z t : Int) : Prop := ∀ q ∈ L, z ≤ q.1 ∧ q.1 ≤ q.2 ∧ q.2 < t
theorem okR_gro {L : List (Int × Int)} {z t : Int} (h : OkR L z t) (ht : z ≤ t) : OkR (gro L t) z (t + 1) := by
  rcases List.eq_nil_or_concat L with rfl | ⟨M, ⟨a, b⟩, rfl⟩
  · intro q hq
    simp [gro_nil] at hq
    subst hq
    exact ⟨ht, Int.le_refl _, by show t < t + 1; omega⟩
  · rw [List.concat_eq_append] at h ⊢
    have hl := h (a, b) (by simp)
    by_cases hb : b = t - 1
    · rw [gro_join hb]
      intro q hq
      rcases List.mem_append.1 hq with g | g
      · have := h q (by simp [g]); omega
      · simp at g
        subst g
        have h1 : z ≤ a := hl.1
        have h2 : a ≤ b := hl.2.1
        exact ⟨h1, by show a ≤ t; omega, by show t < t + 1; omega⟩
    · rw [gro_new hb]
      intro q hq
      rcases List.mem_append.1 hq with g | g
      · have := h q g; omega
      · simp at g
        subst g
        exact ⟨ht, Int.le_refl _, by show t < t + 1; omega⟩
def cnt (f : Int → Bool) (z : Int) : Nat → Int
  | 0 => 0
  | k + 1 => if f (z + (k : Int)) = true then cnt f z k + 1 else cnt f z k
theorem passK_tot (f : Int → Bool) (z : Int) : ∀ k, totR (passK f z k) = cnt f z k
  | 0 => rfl
  | k + 1 => by
    have ih := passK_tot f z k
    by_cases h : f (z + (k : Int)) = true
    · rw [passK_yes h, totR_gro, ih, cnt, if_pos h]
    · rw [passK_no (by simpa using h), ih, cnt, if_neg h]
theorem passK_ok (f : Int → Bool) (z : Int) : ∀ k : Nat, OkR (passK f z k) z (z + (k : Int))
  | 0 => fun q hq => absurd hq (by simp [passK])
  | k + 1 => by
    have ih := passK_ok f z k
    by_cases h : f (z + (k : Int)) = true
    · rw [passK_yes h]
      have := okR_gro ih (show z ≤ z + (k : Int) by omega)
      intro q hq
      have := this q hq
      omega
    · rw [passK_no (by simpa using h)]
      intro q hq
      have := ih q hq
      omega
theorem cnt_le {f g : Int → Bool} {z : Int} (h : ∀ t, f t = true → g t = true) : ∀ k, cnt f z k ≤ cnt g z k
  | 0 => Int.le_refl _
  | k + 1 => by
    have ih := cnt_le (z := z) h k
    rw [cnt, cnt]
    by_cases hf : f (z + (k : Int)) = true
    · rw [if_pos hf, if_pos (h _ hf)]; omega
    · rw [if_neg hf]
      split <;> omega
theorem totR_snoc {L : List (Int × Int)} {k : Nat} {q : Int × Int} (h : L[k]? = some q) : totR (L.take (k + 1)) = totR (L.take k) + (q.2 - q.1 + 1) := by
  have hk := (List.getElem?_eq_some_iff.1 h).1
  have e : L.take (k + 1) = L.take k ++ [q] := by
    rw [List.take_add_one, h]
    rfl
  rw [e, totR_app]
  simp [totR]
theorem totR_range {L : List (Int × Int)} {z t : Int} (h : OkR L z t) (hz : 0 ≤ z) (ht : t ≤ 1000000001) : 0 ≤ totR L ∧ totR L ≤ 1000000001 * (L.length : Int) := by
  induction L with
  | nil => simp [totR]
  | cons q L ih =>
    have h1 := h q (by simp)
    have h2 := ih (fun p hp => h p (by simp [hp]))
    rw [totR, List.length_cons]
    push_cast
    omega

theorem ticks_any (A : Option Addr) (c : Nat) (L : List (Int × Int)) (z t : Int) (w : World) (hA : Rn w A L) (hn : L.length ≤ 250) (hok : OkR L z t) (hz : 0 ≤ z) (ht : t ≤ 1000000001) :
    Calls Try.prog 55 #[.slice A L.length c] w fun e w' => e = .returned (.int .i64 (totR L)) ∧ Below w.heap.size w w' := by
  have HA := Lib.hid hA
  obtain ⟨n, hn0⟩ : ∃ n, n = L.length := ⟨_, rfl⟩
  rw [← hn0] at hn ⊢
  have HN := Lib.hid hn0
  have HOK := Lib.hid hok
  have HZ := Lib.hid hz
  have HT := Lib.hid ht
  clear hA hn0 hok hz ht
  go_enter Try.func55, Try.ntmps55
  go_wp2
  go_loopw [3, 4] (fun i3 i4 wr => ∃ k : Nat, k ≤ n ∧ i4 = .int .i64 (k : Int) ∧ i3 = .int .i64 (totR (L.take k)) ∧ Below w.heap.size w wr) (fun _ i _ => n - (intOf i).toNat)
  case atStart => exact ⟨0, Nat.zero_le _, rfl, rfl, Below.refl _ _⟩
  case round =>
    obtain ⟨k, hk, rfl, rfl, hbel⟩ := hrel
    by_cases hlt : k < n
    · obtain ⟨b1, o1, rfl, hb1, hc1⟩ := HA.out (by have := HN.out; omega)
      obtain ⟨q1, hq1⟩ : ∃ q, L[k]? = some q := ⟨L[k]'(by have := HN.out; omega), List.getElem?_eq_getElem _⟩
      have c1 := (hbel.cell (p := ⟨b1, o1 + k * 2, none⟩) hb1).trans (hc1 k q1 hq1).1
      have c2 := (hbel.cell (p := ⟨b1, o1 + k * 2 + 1, none⟩) hb1).trans (hc1 k q1 hq1).2
      have hq3 := HOK.out q1 (List.mem_of_getElem? hq1)
      have hsn := totR_snoc hq1
      have htk := totR_range (L := L.take k) (z := z) (t := t) (fun p hp => HOK.out p (List.mem_of_mem_take hp)) HZ.out HT.out
      have hlen : (L.take k).length ≤ k := List.length_take_le _ _
      obtain ⟨x1, y1⟩ := q1
      simp only at c1 c2 hq3 hsn
      have b1' : 0 ≤ x1 := by have := HZ.out; omega
      have b2' : x1 ≤ y1 := hq3.2.1
      have b3' : y1 ≤ 1000000000 := by have := HT.out; omega
      have u1 : (0 : Int) ≤ (k : Int) := by omega
      have u2 : (k : Int) < (n : Int) := by omega
      have u3 : (k : Int) < 300 := by omega
      have b4' : x1 ≤ 1000000000 := by omega
      have HSN := Lib.hid hsn
      have hW : Hid (∀ W : World, Calls Try.prog 21 #[.int .i64 x1, .int .i64 0, .int .i64 y1] W fun e w' => e = .returned (.bool true) ∧ W = w') := fun W => by rw [← inB_t ⟨b1', b2'⟩]; exact baseWithin_any _ _ _ W
      obtain ⟨s, hs⟩ : ∃ s, s = totR (L.take k) := ⟨_, rfl⟩
      rw [← hs] at htk ⊢
      have HS := Lib.hid hs
      have s1 : 0 ≤ s := htk.1
      have s2 : s ≤ 1000000001 * 250 := by omega
      have v1 : IntKind.i64.wrap (s + y1) = s + y1 := IntWalk.i64_in _ (by omega)
      have v2 : IntKind.i64.wrap (s + y1 - x1) = s + y1 - x1 := IntWalk.i64_in _ (by omega)
      have v3 : IntKind.i64.wrap (s + y1 - x1 + 1) = s + y1 - x1 + 1 := IntWalk.i64_in _ (by omega)
      have V1 := Lib.hid v1
      have V2 := Lib.hid v2
      have V3 := Lib.hid v3
      have d1 : decide (y1 ≤ 1000000000) = true := decide_eq_true b3'
      clear hc1 hq1 hsn htk hlen hq3 hs v1 v2 v3
      go_wp2_with fail
      go_quiet ((go_at_call 21; exact Calls.quiet_of_same ((hW.out _).mono (fun _ _ h => ⟨h.1, h.2.symm⟩))))
      go_wp2_with fail
      have v1 := V1.out
      have v2 := V2.out
      have v3 := V3.out
      go_quiet (fail)
      clear v1 v2 v3
      go_wp2
      go_roundw
      case rel => exact ⟨k + 1, by omega, by go_num, by rw [HSN.out, ← HS.out]; congr 1; omega, by repeat (first | (with_reducible exact hbel) | (with_reducible refine below_drewNs ?_))⟩
      case measure => simp [intOf]; omega
    · go_wp2
      go_ret
      obtain rfl : k = n := by omega
      rw [List.take_of_length_le (by have := HN.out; omega)]
      exact ⟨rfl, hbel⟩
end Go.Proofs.Ytegmjanpeaibcaa
