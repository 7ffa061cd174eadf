/- Unwrap: what is known of turns and flows, wherever their lists lie. -/
import Derived.Test.YtmglofemnobakaaSyw
import Derived.Test.YtmglofemnobakaaUct
import Derived.Test.YtmglofemnobakaaUrt
import Derived.Test.YtmglofemnobakaaUcf
import Derived.Test.YtmglofemnobakaaUfw
namespace Go.Proofs.Ytmglofemnobakaa
open Go.RowKit
set_option maxRecDepth 100000

/-- a net and a list of numbers -/
def ntA (z1 z2 : Bool) : List AV := [.agg [.int .i64 0, .row 0 1 4 z1], .row 1 2 1 z2]
theorem ntA_open [Rho] {N : Int} {n m : Nat} {S : Nat → Nat → Int} {t : Nat → Int} {xs : Array Value} {W : World} {z1 z2 : Bool} (ha : Rho.a 0 = flat4 S) (hb : Rho.a 1 = flat1 t) (h0 : Rho.i 0 = N) (h1 : Rho.i 1 = (n : Int)) (h2 : Rho.i 2 = (m : Int)) (hx : AValL W (ntA z1 z2) xs.toList) :
    ∃ A B c d, xs = #[.agg #[.int .i64 N, .slice A n c], .slice B m d] ∧ RowR W A (n * 4) (flat4 S) ∧ RowR W B m (flat1 t) ∧ n ≤ c ∧ m ≤ d := by
  obtain ⟨v0, vs0, e0, r0, hx⟩ := aval_cons hx
  obtain ⟨v1, vs1, rfl, r1, hx⟩ := aval_cons hx
  obtain rfl := aval_nil hx
  obtain ⟨cs, rfl, s0⟩ := aval_agg r0
  obtain ⟨u0, us0, q0, r2, s0⟩ := aval_cons s0
  obtain ⟨u1, us1, rfl, r3, s0⟩ := aval_cons s0
  obtain rfl := aval_nil s0
  obtain rfl := aval_int r2 h0
  obtain ⟨A, c, rfl, y1, y2⟩ := aval_row r3 h1 ha
  obtain ⟨B, d, rfl, y3, y4⟩ := aval_row r1 h2 hb
  have hcs : cs = #[.int .i64 N, .slice A n c] := Array.toList_inj.1 q0
  refine ⟨A, B, c, d, Array.toList_inj.1 (by rw [e0, hcs]), y2, by simpa using y4, y1, y3⟩
theorem ntA_z [Rho] {z1 z2 : Bool} (h1 : z1 = true → Rho.i 1 = 0) (h2 : z2 = true → Rho.i 2 = 0) : AZL (ntA z1 z2) := by
  simp only [ntA, AZL, AZ, and_true, true_and]
  exact ⟨h1, h2⟩
theorem two_ints [Rho] {v : Nat} {p : Int × Int} (h3 : Rho.i v = p.1) (h4 : Rho.i (v + 1) = p.2) : ∃ x, Ending.returned (.tuple #[.int .i64 p.1, .int .i64 p.2]) = .returned x ∧ Rep (fun _ => False) (fun _ => 0) (fun _ => 0) (.tup [.si .i64 (.var v), .si .i64 (.var (.succ v))]) x := by
  refine ⟨_, rfl, ?_⟩
  simp only [Rep]
  refine ⟨_, rfl, repL_cons'.2 ⟨?_, repL_one ?_⟩⟩
  · simp only [Rep]; show _ = Value.int .i64 (Rho.i v); rw [h3]
  · simp only [Rep]; show _ = Value.int .i64 (Rho.i (v + 1)); rw [h4]
def twoR (v : Nat) : RV := .tup [.si .i64 (.var v), .si .i64 (.var (.succ v))]
noncomputable def cfK (v : Nat) (z1 z2 : Bool) : Know := viewK 14 (ntA z1 z2) (twoR v)
noncomputable def ctK (v : Nat) (z1 z2 : Bool) : Know := viewK 8 (ntA z1 z2) (twoR v)
noncomputable def rfK (v : Nat) (z1 z2 : Bool) : Know := viewK 15 (ntA z1 z2) (twoR v)
noncomputable def rtK (v : Nat) (z1 z2 : Bool) : Know := viewK 12 (ntA z1 z2) (twoR v)
section
variable [Rho] {v : Nat} {N : Int} {n m : Nat} {S : Nat → Nat → Int} {t : Nat → Int} {z1 z2 : Bool} (ha : Rho.a 0 = flat4 S) (hb : Rho.a 1 = flat1 t) (h0 : Rho.i 0 = N) (h1 : Rho.i 1 = (n : Int)) (h2 : Rho.i 2 = (m : Int)) (g1 : z1 = true → Rho.i 1 = 0) (g2 : z2 = true → Rho.i 2 = 0)
include ha hb h0 h1 h2 g1 g2
theorem cfK_ok (h3 : Rho.i v = (cfR N n S m t).1) (h4 : Rho.i (v + 1) = (cfR N n S m t).2) (hN : I64 N) (hn : n ≤ 9223372036854775807) (hm : m ≤ 1000000) : KOk Try.prog (cfK v z1 z2) := viewK_ok (ntA_z g1 g2) fun xs W hx hf => by
  obtain ⟨A, B, c, d, rfl, y1, y2, y3, y4⟩ := ntA_open ha hb h0 h1 h2 hx
  refine (checkFlowOf_any N A B n c m d S t W y1 y2 hN y3 y4 hn hm).mono ?_
  rintro e w' ⟨rfl, hb⟩
  exact ⟨two_ints h3 h4, hb⟩
theorem ctK_ok (h3 : Rho.i v = (ctR N n S m t).1) (h4 : Rho.i (v + 1) = (ctR N n S m t).2) (hN : I64 N) (hn : n ≤ 9223372036854775807) (hm : m ≤ 1000000) : KOk Try.prog (ctK v z1 z2) := viewK_ok (ntA_z g1 g2) fun xs W hx hf => by
  obtain ⟨A, B, c, d, rfl, y1, y2, y3, y4⟩ := ntA_open ha hb h0 h1 h2 hx
  refine (checkTurns_any N A B n c m d S t W y1 y2 hN y3 y4 hn hm).mono ?_
  rintro e w' ⟨rfl, hb⟩
  exact ⟨two_ints h3 h4, hb⟩
theorem rtK_ok (h3 : Rho.i v = (rtR N n S m t).1) (h4 : Rho.i (v + 1) = (rtR N n S m t).2) (hN : I64 N) (hn : n ≤ 9223372036854775807) (hm : m ≤ 1000000) (hcn : (cnR N n S).2 = 0) : KOk Try.prog (rtK v z1 z2) := viewK_ok (ntA_z g1 g2) fun xs W hx hf => by
  obtain ⟨A, B, c, d, rfl, y1, y2, y3, y4⟩ := ntA_open ha hb h0 h1 h2 hx
  refine (refCheckTurns_any N A B n c m d S t W y1 y2 hN y3 y4 hn hm hcn).mono ?_
  rintro e w' ⟨rfl, hb⟩
  exact ⟨two_ints h3 h4, hb⟩
theorem rfK_ok (h3 : Rho.i v = (rfR N n S m t).1) (h4 : Rho.i (v + 1) = (rfR N n S m t).2) (hm : m ≤ 1000000) (hcn : (cnR N n S).2 = 0) : KOk Try.prog (rfK v z1 z2) := viewK_ok (ntA_z g1 g2) fun xs W hx hf => by
  obtain ⟨A, B, c, d, rfl, y1, y2, y3, y4⟩ := ntA_open ha hb h0 h1 h2 hx
  obtain ⟨q1, q2, q3⟩ := cn_right hcn
  refine (refCheckFlowOf_any N A B n c m d S t W y1 y2 y3 y4 q1 (by omega) hm q3).mono ?_
  rintro e w' ⟨rfl, hb⟩
  exact ⟨two_ints h3 h4, hb⟩
end
end Go.Proofs.Ytmglofemnobakaa
