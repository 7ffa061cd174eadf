/- Unwrap: calls that are known: what the reference finds wrong with a net. -/
import Derived.Test.YtmglofemnobakaaUkn
import Derived.Test.YtmglofemnobakaaUrc
namespace Go.Proofs.Ytmglofemnobakaa
open Go.RowKit
set_option maxRecDepth 100000

/-- the net of row 0 -/
def netC : List RV := [.agg [.si .i64 (.var 0), .fsl 0 4 (.lit 0) (.var 1)]]
theorem netC_open [Rho] {N : Int} {n : Nat} {S : Nat → Nat → Int} {xs : Array Value} {W : World} (ha : Rho.a 0 = flat4 S) (h0 : Rho.i 0 = N) (h1 : Rho.i 1 = (n : Int)) (hx : RepL (fun _ => False) (fun _ => 0) (fun _ => 0) netC xs.toList) (hf : Far W) :
    ∃ A c, xs = #[.agg #[.int .i64 N, .slice A n c]] ∧ RowR W A (n * 4) (flat4 S) ∧ n ≤ c := by
  obtain ⟨v0, vs0, e0, r0, hx⟩ := repL_cons.1 hx
  rw [repL_nil.1 hx] at e0
  simp only [Rep] at r0
  obtain ⟨cs, rfl, r0⟩ := r0
  obtain ⟨u0, us0, q0, r2, r0⟩ := repL_cons.1 r0
  obtain ⟨u1, us1, rfl, r3, r0⟩ := repL_cons.1 r0
  rw [repL_nil.1 r0] at q0
  simp only [Rep] at r2 r3
  obtain ⟨A, L, c, rfl, y1, y2, y3⟩ := fsl_rowR r3 hf
  have hL : L = n := by
    have : (SE.var 1).ev.i = (n : Int) := h1
    omega
  subst hL
  rw [ha] at y3
  have hcs : cs = #[.int .i64 N, .slice A L c] := Array.toList_inj.1 (by rw [q0, r2, ← h0]; rfl)
  exact ⟨A, c, Array.toList_inj.1 (by rw [e0, hcs]), y3, y2⟩
def rnK (vi : Nat) : Know := canK 34 netC (.tup [.si .i64 (.var vi), .si .i64 (.var (.succ vi))])
theorem rnK_ok [Rho] {vi : Nat} {N : Int} {n : Nat} {S : Nat → Nat → Int} (ha : Rho.a 0 = flat4 S) (h0 : Rho.i 0 = N) (h1 : Rho.i 1 = (n : Int)) (h2 : Rho.i vi = (cnR N n S).1) (h3 : Rho.i (vi + 1) = (cnR N n S).2) (hN : I64 N) (hn : n ≤ 9223372036854775807) : KOk Try.prog (rnK vi) := canK_ok fun xs W hx hf => by
  obtain ⟨A, c, rfl, y1, y2⟩ := netC_open ha h0 h1 hx hf
  refine (refCheckNet_any N A n c S W y1 hN y2 hn).mono ?_
  rintro e w' ⟨rfl, hb⟩
  refine ⟨⟨_, rfl, ?_⟩, hb⟩
  simp only [Rep]
  refine ⟨_, rfl, repL_cons'.2 ⟨?_, repL_one ?_⟩⟩
  · simp only [Rep]
    show _ = Value.int .i64 (Rho.i vi)
    rw [h2]
  · simp only [Rep]
    show _ = Value.int .i64 (Rho.i (vi + 1))
    rw [h3]
end Go.Proofs.Ytmglofemnobakaa
