/- Unwrap: calls of Along that are known: what is wrong; nothing; a row. -/
import Derived.Test.YtmglofemnobakaaRal
import Derived.Test.YtmglofemnobakaaRwm
import Derived.Test.YtmglofemnobakaaUin
namespace Go.Proofs.Ytmglofemnobakaa
open Go.RowKit
set_option maxRecDepth 100000

/-- a map and a path -/
def mpA (z1 z2 : Bool) : List AV := [.agg [.int .i64 0, .int .i64 1, .row 0 2 1 z1], .row 1 3 1 z2]
theorem mpA_open [Rho] {R C : Int} {n m : Nat} {s p : Nat → Int} {xs : Array Value} {W : World} {z1 z2 : Bool} (ha : Rho.a 0 = flat1 s) (hb : Rho.a 1 = flat1 p) (h0 : Rho.i 0 = R) (h0' : Rho.i 1 = C) (h1 : Rho.i 2 = (n : Int)) (h2 : Rho.i 3 = (m : Int)) (hx : AValL W (mpA z1 z2) xs.toList) :
    ∃ A B c d, xs = #[.agg #[.int .i64 R, .int .i64 C, .slice A n c], .slice B m d] ∧ RowR W A n (flat1 s) ∧ RowR W B m (flat1 p) ∧ n ≤ c ∧ m ≤ d := by
  obtain ⟨v0, vs0, e0, r0, hx⟩ := aval_cons hx
  obtain ⟨v1, vs1, rfl, r1, hx⟩ := aval_cons hx
  obtain rfl := aval_nil hx
  obtain ⟨cs, rfl, s0⟩ := aval_agg r0
  obtain ⟨u0, us0, q0, r2, s0⟩ := aval_cons s0
  obtain ⟨u1, us1, rfl, r3, s0⟩ := aval_cons s0
  obtain ⟨u2, us2, rfl, r4, s0⟩ := aval_cons s0
  obtain rfl := aval_nil s0
  obtain rfl := aval_int r2 h0
  obtain rfl := aval_int r3 h0'
  obtain ⟨A, c, rfl, y1, y2⟩ := aval_row r4 h1 ha
  obtain ⟨B, d, rfl, y3, y4⟩ := aval_row r1 h2 hb
  have hcs : cs = #[.int .i64 R, .int .i64 C, .slice A n c] := Array.toList_inj.1 q0
  refine ⟨A, B, c, d, Array.toList_inj.1 (by rw [e0, hcs]), by simpa using y2, by simpa using y4, y1, y3⟩
theorem mpA_z [Rho] {z1 z2 : Bool} (h1 : z1 = true → Rho.i 2 = 0) (h2 : z2 = true → Rho.i 3 = 0) : AZL (mpA z1 z2) := by
  simp only [mpA, AZL, AZ, and_true, true_and]
  exact ⟨h1, h2⟩
def nilV : RV := .pl (.slice none 0 0)
def nilE (v : Nat) : RV := .tup [nilV, .si .i64 (.var v)]
def nil0 : RV := .tup [nilV, .pl (.int .i64 0)]
/-- a call that gives a row of its own, and no error -/
def rowK (k0 : Nat) (spec : List AV) (r v : Nat) (t : TypeId) : Know := fun k args h =>
  match Nat.beq k k0 with
  | true => (match avL h spec args with | true => some (.tup [.osl h.n 1 (.var v), .pl (.int .i64 0)], h.push (.row (.avar r) (.var v) t 1)) | false => none)
  | false => none
theorem rowK_ok [Rho] {P : Program} {k0 : Nat} {spec : List AV} {r v : Nat} {t : TypeId} {L : Nat} {F : Nat → Int} (hz : AZL spec) (hv : Rho.i v = (L : Int)) (hr : ∀ j : Nat, j < L → Rho.a r (j : Int) = F j)
    (h : ∀ xs W, AValL W spec xs.toList → Far W → Calls P k0 xs W fun e w' => (∃ b k arr, e = .returned (.tuple #[.slice (some ⟨b, 0, none⟩) L k, .int .i64 0]) ∧ L ≤ k ∧ W.heap.size ≤ b ∧ w'.heap[b]? = some (.cells arr t (0, 0)) ∧ arr.size = k * 1 ∧ ∀ j : Nat, j < L * 1 → arr[j]? = some (.int .i64 (F j))) ∧ Below W.heap.size W w') : KOk P (rowK k0 spec r v t) := fun k args hh r' h' he V m g xs W n hx hw => by
  simp only [rowK] at he
  split at he
  · rename_i hb
    obtain rfl := Nat.eq_of_beq_eq_true hb
    split at he
    · rename_i hc
      cases he
      refine callsIn_wide.2 ((h xs W (avL_ok hw _ _ _ hc hz hx) hw.far).mono ?_)
      rintro e w' ⟨⟨b, kk, arr, rfl, e2, e3, e4, e5, e6⟩, hb⟩
      obtain ⟨m', g', x1, x2, x3⟩ := row_call (ar := .avar r) (rn := .var v) (sz := 1) hw hb e3 e4 hv (fun j hj => by
        rw [e6 j hj]
        show _ = some (Value.int .i64 (Rho.a r (j : Int)))
        rw [hr j (by omega)]) e5 e2
      refine ⟨_, rfl, m', g', x1, ?_, x3⟩
      simp only [Rep] at x2 ⊢
      exact ⟨_, rfl, repL_cons'.2 ⟨by simp only [Rep]; exact x2, repL_one (by simp only [Rep])⟩⟩
    · cases he
  · cases he
theorem nilE_rep [Rho] {v : Nat} {x : Int} (h : Rho.i v = x) : ∃ u, Ending.returned (.tuple #[.slice none 0 0, .int .i64 x]) = .returned u ∧ Rep (fun _ => False) (fun _ => 0) (fun _ => 0) (nilE v) u := by
  refine ⟨_, rfl, ?_⟩
  simp only [nilE, nilV, Rep]
  exact ⟨_, rfl, repL_cons'.2 ⟨by simp only [Rep], repL_one (by simp only [Rep]; show _ = Value.int .i64 (Rho.i v); rw [h])⟩⟩
theorem nil0_rep [Rho] : ∃ u, Ending.returned (.tuple #[.slice none 0 0, .int .i64 0]) = .returned u ∧ Rep (fun _ => False) (fun _ => 0) (fun _ => 0) nil0 u := by
  refine ⟨_, rfl, ?_⟩
  simp only [nil0, nilV, Rep]
  exact ⟨_, rfl, repL_cons'.2 ⟨by simp only [Rep], repL_one (by simp only [Rep])⟩⟩
noncomputable def alE (v : Nat) (z1 z2 : Bool) : Know := viewK 16 (mpA z1 z2) (nilE v)
noncomputable def al0 (z1 z2 : Bool) : Know := viewK 16 (mpA z1 z2) nil0
noncomputable def alR (z1 z2 : Bool) : Know := rowK 16 (mpA z1 z2) 2 3 3
noncomputable def rlE (v : Nat) : Know := viewK 19 (mpA false false) (nilE v)
noncomputable def rl0 : Know := viewK 19 (mpA false false) nil0
noncomputable def rlR : Know := rowK 19 (mpA false false) 2 3 3
noncomputable def weK (v : Nat) : Know := viewK 18 [.agg [.int .i64 0, .int .i64 1, .row 0 2 1 false]] (.si .i64 (.var v))
section
variable [Rho] {v : Nat} {R C : Int} {n m : Nat} {s p : Nat → Int} {z1 z2 : Bool} (ha : Rho.a 0 = flat1 s) (hb : Rho.a 1 = flat1 p) (h0 : Rho.i 0 = R) (h0' : Rho.i 1 = C) (h1 : Rho.i 2 = (n : Int)) (h2 : Rho.i 3 = (m : Int))
include ha h0 h0' h1 in
theorem weK_ok (h3 : Rho.i v = wrErr R C n s) (hn : n ≤ 9223372036854775807) : KOk Try.prog (weK v) := viewK_ok (by simp only [AZL, AZ, and_true, true_and]; exact fun h => by cases h) fun xs W hx hf => by
  obtain ⟨v0, vs0, e0, r0, hx⟩ := aval_cons hx
  obtain rfl := aval_nil hx
  obtain ⟨cs, rfl, s0⟩ := aval_agg r0
  obtain ⟨u0, us0, q0, r2, s0⟩ := aval_cons s0
  obtain ⟨u1, us1, rfl, r3, s0⟩ := aval_cons s0
  obtain ⟨u2, us2, rfl, r4, s0⟩ := aval_cons s0
  obtain rfl := aval_nil s0
  obtain rfl := aval_int r2 h0
  obtain rfl := aval_int r3 h0'
  obtain ⟨A, c, rfl, y1, y2⟩ := aval_row r4 h1 ha
  obtain rfl : cs = #[.int .i64 R, .int .i64 C, .slice A n c] := Array.toList_inj.1 q0
  obtain rfl : xs = #[.agg #[.int .i64 R, .int .i64 C, .slice A n c]] := Array.toList_inj.1 e0
  refine (refMapErr_any R C A n c s W (by simpa using y2) y1 hn).mono ?_
  rintro e w' ⟨rfl, hb⟩
  exact ⟨⟨_, rfl, by simp only [Rep]; show _ = Value.int .i64 (Rho.i v); rw [h3]⟩, hb⟩
include ha hb h0 h0' h1 h2
theorem alE_ok (g1 : z1 = true → Rho.i 2 = 0) (g2 : z2 = true → Rho.i 3 = 0) (h3 : Rho.i v = aErr R C n s m p) (he : aErr R C n s m p ≠ 0) (hn : n ≤ 9223372036854775807) (hm : m ≤ 1000000) : KOk Try.prog (alE v z1 z2) := viewK_ok (mpA_z g1 g2) fun xs W hx hf => by
  obtain ⟨A, B, c, d, rfl, y1, y2, y3, y4⟩ := mpA_open ha hb h0 h0' h1 h2 hx
  refine (along_any R C A B n c m d s p W y1 y2 y3 y4 hn hm).mono ?_
  rintro e w' ⟨⟨_, rfl⟩ | ⟨q, _⟩ | ⟨q, _⟩, hb⟩
  · exact ⟨nilE_rep h3, hb⟩
  · exact absurd q he
  · exact absurd q he
theorem al0_ok (g1 : z1 = true → Rho.i 2 = 0) (g2 : z2 = true → Rho.i 3 = 0) (he : aErr R C n s m p = 0) (hm0 : m = 0) (hn : n ≤ 9223372036854775807) : KOk Try.prog (al0 z1 z2) := viewK_ok (mpA_z g1 g2) fun xs W hx hf => by
  obtain ⟨A, B, c, d, rfl, y1, y2, y3, y4⟩ := mpA_open ha hb h0 h0' h1 h2 hx
  refine (along_any R C A B n c m d s p W y1 y2 y3 y4 hn (by omega)).mono ?_
  rintro e w' ⟨⟨q, _⟩ | ⟨_, _, rfl⟩ | ⟨_, q, _⟩, hb⟩
  · exact absurd he q
  · exact ⟨nil0_rep, hb⟩
  · exact absurd hm0 (by omega)
theorem alR_ok (g1 : z1 = true → Rho.i 2 = 0) (g2 : z2 = true → Rho.i 3 = 0) (hr : Rho.a 2 = fun j => aval (flat1 s) (flat1 p) j.toNat) (he : aErr R C n s m p = 0) (hm0 : 0 < m) (hn : n ≤ 9223372036854775807) (hm : m ≤ 1000000) : KOk Try.prog (alR z1 z2) :=
  rowK_ok (L := m) (F := aval (flat1 s) (flat1 p)) (mpA_z g1 g2) h2 (fun j hj => by rw [hr]; rfl) fun xs W hx hf => by
  obtain ⟨A, B, c, d, rfl, y1, y2, y3, y4⟩ := mpA_open ha hb h0 h0' h1 h2 hx
  refine (along_any R C A B n c m d s p W y1 y2 y3 y4 hn hm).mono ?_
  rintro e w' ⟨⟨q, _⟩ | ⟨_, q, _⟩ | ⟨_, _, hq⟩, hb⟩
  · exact absurd he q
  · exact absurd q (by omega)
  · exact ⟨hq, hb⟩
theorem rlE_ok (hw : wrErr R C n s = 0) (h3 : Rho.i v = rErr C n s m p) (he : rErr C n s m p ≠ 0) (hn : n ≤ 9223372036854775807) (hm : m ≤ 1000000) : KOk Try.prog (rlE v) := viewK_ok (mpA_z (fun h => by cases h) (fun h => by cases h)) fun xs W hx hf => by
  obtain ⟨A, B, c, d, rfl, y1, y2, y3, y4⟩ := mpA_open ha hb h0 h0' h1 h2 hx
  refine (refAlong_any R C A B n c m d s p W y1 y2 y3 y4 hn hm hw).mono ?_
  rintro e w' ⟨⟨_, rfl⟩ | ⟨q, _⟩ | ⟨q, _⟩, hb⟩
  · exact ⟨nilE_rep h3, hb⟩
  · exact absurd q he
  · exact absurd q he
theorem rl0_ok (hw : wrErr R C n s = 0) (he : rErr C n s m p = 0) (hm0 : m = 0) (hn : n ≤ 9223372036854775807) : KOk Try.prog rl0 := viewK_ok (mpA_z (fun h => by cases h) (fun h => by cases h)) fun xs W hx hf => by
  obtain ⟨A, B, c, d, rfl, y1, y2, y3, y4⟩ := mpA_open ha hb h0 h0' h1 h2 hx
  refine (refAlong_any R C A B n c m d s p W y1 y2 y3 y4 hn (by omega) hw).mono ?_
  rintro e w' ⟨⟨q, _⟩ | ⟨_, _, rfl⟩ | ⟨_, q, _⟩, hb⟩
  · exact absurd he q
  · exact ⟨nil0_rep, hb⟩
  · exact absurd hm0 (by omega)
theorem rlR_ok (hw : wrErr R C n s = 0) (hr : Rho.a 2 = fun j => aval (flat1 s) (flat1 p) j.toNat) (he : rErr C n s m p = 0) (hm0 : 0 < m) (hn : n ≤ 9223372036854775807) (hm : m ≤ 1000000) : KOk Try.prog rlR :=
  rowK_ok (L := m) (F := aval (flat1 s) (flat1 p)) (mpA_z (fun h => by cases h) (fun h => by cases h)) h2 (fun j hj => by rw [hr]; rfl) fun xs W hx hf => by
  obtain ⟨A, B, c, d, rfl, y1, y2, y3, y4⟩ := mpA_open ha hb h0 h0' h1 h2 hx
  refine (refAlong_any R C A B n c m d s p W y1 y2 y3 y4 hn hm hw).mono ?_
  rintro e w' ⟨⟨q, _⟩ | ⟨_, q, _⟩ | ⟨_, _, hq⟩, hb⟩
  · exact absurd he q
  · exact absurd q (by omega)
  · exact ⟨hq, hb⟩
end
end Go.Proofs.Ytmglofemnobakaa
