/- Contract: the reference says what is wrong with a net. -/
import Derived.Test.YtmglofemnobakaaUkm
namespace Go.Proofs.Ytmglofemnobakaa
open Go.RowKit
set_option maxHeartbeats 4000000
set_option maxRecDepth 100000
set_option linter.unusedSimpArgs false
set_option linter.unusedVariables false



theorem refErr_any (N : Int) (A : Option Addr) (n c : Nat) (S : Nat → Nat → Int) (W : World) (hS : RowR W A (n * 4) (flat4 S)) (hN : I64 N) (hc : n ≤ c) (hn : n ≤ 9223372036854775807) :
    Calls Try.prog 11 #[.agg #[.int .i64 N, .slice A n c]] W fun e w' => e = .returned (.int .i64 (cnR N n S).2) ∧ Below W.heap.size W w' := by
  skip
  have hrows : RowsIn W [⟨A, n * 4, flat4 S⟩] := ⟨hS, trivial⟩
  letI : Rho := rhoL W.heap.size ([N, (n : Int), (cnR N n S).1, (cnR N n S).2]) [⟨A, n * 4, flat4 S⟩] [] []
  have hfar : Far W := far_list hrows
  have hx : RepL (fun _ => False) (fun _ => 0) (fun _ => 0) netC (#[.agg #[.int .i64 N, .slice A n c]] : Array Value).toList := by
    refine repL_one ?_
    simp only [Rep]
    exact ⟨_, rfl, repL_cons'.2 ⟨by simp only [Rep]; rfl, repL_one (by simp only [Rep]; exact fsl_row 0 4 hrows rfl rfl (by omega) rfl rfl hc)⟩⟩
  have hF : Facts [] := trivial
  refine call_start (P := Try.prog) (K := rnK 2) (fl := []) (by kernel_rfl) (by kernel_rfl) hx hfar (rnK_ok (N := N) (n := n) (S := S) rfl rfl rfl rfl rfl hN hn) (facD_ok hF) (fin_run (r := (.si .i64 (.var 3))) (by kernel_rfl) rfl fun W' hbel => ⟨?_, hbel⟩)
  show Ending.returned (.int .i64 (cnR N n S).2) = _
  rfl
def reK (v : Nat) : Know := canK 11 netC (.si .i64 (.var v))
theorem reK_ok [Rho] {v : Nat} {N : Int} {n : Nat} {S : Nat → Nat → Int} (ha : Rho.a 0 = flat4 S) (h0 : Rho.i 0 = N) (h1 : Rho.i 1 = (n : Int)) (h2 : Rho.i v = (cnR N n S).2) (hN : I64 N) (hn : n ≤ 9223372036854775807) : KOk Try.prog (reK v) := canK_ok fun xs W hx hf => by
  obtain ⟨A, c, rfl, y1, y2⟩ := netC_open ha h0 h1 hx hf
  refine (refErr_any N A n c S W y1 hN y2 hn).mono ?_
  rintro e w' ⟨rfl, hb⟩
  refine ⟨⟨_, rfl, ?_⟩, hb⟩
  simp only [Rep]
  show _ = Value.int .i64 (Rho.i v)
  rw [h2]

end Go.Proofs.Ytmglofemnobakaa
