/- Unwrap: calls that are known: the first wrong edge, the first wrong turn, what turns cost. -/
import Derived.Test.YtmglofemnobakaaSyk
import Derived.Test.YtmglofemnobakaaUfe
import Derived.Test.YtmglofemnobakaaUfi
import Derived.Test.YtmglofemnobakaaUco
import Derived.Test.YtmglofemnobakaaUrk
namespace Go.Proofs.Ytmglofemnobakaa
open Go.RowKit
set_option maxRecDepth 100000

/-- the first wrong edge of the net of row 0: numbers vi and vi + 1 -/
def feK (vi : Nat) : Know := fun k args h =>
  match Nat.beq k 76 with
  | true =>
    match args with
    | [.fsl id sz o l, .fn c [] [.ptr b 0]] =>
      match Nat.beq id 0 && Nat.beq sz 4 && decide (o = .lit 0) && decide (l = .var 1) && Nat.beq c 77 with
      | true =>
        match h.at? b with
        | some (.cells (.si .i64 e :: _) _ _) => match decide (e = .var 0) with | true => some (.tup [.si .i64 (.var vi), .si .i64 (.var (.succ vi))], h) | false => none
        | _ => none
      | false => none
    | _ => none
  | false => none
theorem feK_ok [Rho] {vi : Nat} {N : Int} {n : Nat} {S : Nat → Nat → Int} (ha : Rho.a 0 = flat4 S) (h0 : Rho.i 0 = N) (h1 : Rho.i 1 = (n : Int)) (h2 : Rho.i vi = (feR N n S).1) (h3 : Rho.i (vi + 1) = (feR N n S).2) (hN : I64 N) (hN0 : 0 ≤ N) (hn : n ≤ 600) : KOk Try.prog (feK vi) := fun k args hh r h' he V m g xs W nn hx hw => by
  unfold feK at he
  split at he
  · rename_i hk
    obtain rfl := Nat.eq_of_beq_eq_true hk
    split at he
    · rename_i id sz o l c b
      split at he
      · rename_i hq
        simp only [Bool.and_eq_true, decide_eq_true_eq] at hq
        obtain ⟨⟨⟨⟨q1, q2⟩, rfl⟩, rfl⟩, q5⟩ := hq
        obtain rfl := Nat.eq_of_beq_eq_true q1
        obtain rfl := Nat.eq_of_beq_eq_true q2
        obtain rfl := Nat.eq_of_beq_eq_true q5
        split at he
        · rename_i e cs t gr hat
          split at he
          · rename_i hv
            have hv := of_decide_eq_true hv
            subst hv
            cases he
            obtain ⟨v0, vs0, e0, r0, hx⟩ := repL_cons.1 hx
            obtain ⟨v1, vs1, rfl, r1, hx⟩ := repL_cons.1 hx
            rw [repL_nil.1 hx] at e0
            simp only [Rep] at r0 r1
            obtain ⟨A, L, c, rfl, y1, y2, y3⟩ := fsl_rowR r0 hw.far
            have hL : L = n := by
              have : (SE.var 1).ev.i = (n : Int) := h1
              omega
            subst hL
            rw [ha] at y3
            obtain ⟨fa, fb, rfl, z1, z2⟩ := r1
            obtain ⟨w0, ws0, z3, z4, z5⟩ := repL_cons.1 z2
            rw [repL_nil.1 z5] at z3
            simp only [Rep] at z4
            have hfa : fa = #[] := Array.toList_inj.1 (repL_nil.1 z1)
            have hfb : fb = #[w0] := Array.toList_inj.1 (by simpa using z3)
            have hxs : xs = #[.slice A L c, .func (.func 77) fa fb] := Array.toList_inj.1 (by simpa using e0)
            rw [hxs, hfa, hfb, z4.2]
            have hp := cell_rowR hw hat
            have hp2 : RowR W (some ⟨m b, 0, none⟩) 1 (kst N) := by
              have e : (fun _ : Int => (SE.var 0).ev.i) = kst N := by funext j; exact h0
              rw [← e]
              exact hp
            refine quiet_call hw ((firstEdge_any N ⟨m b, 0, none⟩ A L c S W y3 hp2 hN hN0 y2 hn).mono ?_)
            rintro e w' ⟨rfl, hb⟩
            refine ⟨⟨_, rfl, ?_⟩, hb⟩
            simp only [Rep]
            refine ⟨_, rfl, repL_cons'.2 ⟨?_, repL_one ?_⟩⟩
            · simp only [Rep]
              show _ = Value.int .i64 (Rho.i vi)
              rw [h2]
            · simp only [Rep]
              show _ = Value.int .i64 (Rho.i (vi + 1))
              rw [h3]
          · cases he
        · cases he
      · cases he
    · cases he
  · cases he
/-- the first wrong turn of row 1 -/
def fiK (vi : Nat) : Know := canK 57 [.fsl 1 1 (.lit 0) (.var 2), .fn 32 [] []] (.tup [.si .i64 (.var vi), .si .i64 (.var (.succ vi))])
theorem fiK_ok [Rho] {vi m : Nat} {t : Nat → Int} (ha : Rho.a 1 = flat1 t) (h1 : Rho.i 2 = (m : Int)) (h2 : Rho.i vi = (trR m t).1) (h3 : Rho.i (vi + 1) = (trR m t).2) (hm : m ≤ 1000000) : KOk Try.prog (fiK vi) := canK_ok fun xs W hx hf => by
  obtain ⟨v0, vs0, e0, r0, hx⟩ := repL_cons.1 hx
  obtain ⟨v1, vs1, rfl, r1, hx⟩ := repL_cons.1 hx
  rw [repL_nil.1 hx] at e0
  simp only [Rep] at r0 r1
  obtain ⟨A, L, c, rfl, y1, y2, y3⟩ := fsl_rowR r0 hf
  have hL : L = m := by
    have : (SE.var 2).ev.i = (m : Int) := h1
    omega
  subst hL
  rw [ha, Nat.mul_one] at y3
  obtain ⟨fa, fb, rfl, z1, z2⟩ := r1
  have hfa : fa = #[] := Array.toList_inj.1 (repL_nil.1 z1)
  have hfb : fb = #[] := Array.toList_inj.1 (repL_nil.1 z2)
  have hxs : xs = #[.slice A L c, .func (.func 32) fa fb] := Array.toList_inj.1 (by simpa using e0)
  rw [hxs, hfa, hfb]
  refine (firstTurn_any t A L c W y3 y2 hm).mono ?_
  rintro e w' ⟨rfl, hb⟩
  refine ⟨⟨_, rfl, ?_⟩, hb⟩
  simp only [Rep]
  refine ⟨_, rfl, repL_cons'.2 ⟨?_, repL_one ?_⟩⟩
  · simp only [Rep]
    show _ = Value.int .i64 (Rho.i vi)
    rw [h2]
  · simp only [Rep]
    show _ = Value.int .i64 (Rho.i (vi + 1))
    rw [h3]
/-- what the turns of row 1 cost on the net of row 0 -/
def coC : List RV := [.agg [.si .i64 (.var 0), .fsl 0 4 (.lit 0) (.var 1)], .fsl 1 1 (.lit 0) (.var 2)]
theorem coC_open [Rho] {N : Int} {n m : Nat} {S : Nat → Nat → Int} {t : Nat → Int} {xs : Array Value} {W : World} (ha : Rho.a 0 = flat4 S) (hb : Rho.a 1 = flat1 t) (h0 : Rho.i 0 = N) (h1 : Rho.i 1 = (n : Int)) (h2 : Rho.i 2 = (m : Int)) (hx : RepL (fun _ => False) (fun _ => 0) (fun _ => 0) coC xs.toList) (hf : Far W) :
    ∃ A B c d, xs = #[.agg #[.int .i64 N, .slice A n c], .slice B m d] ∧ RowR W A (n * 4) (flat4 S) ∧ RowR W B m (flat1 t) ∧ n ≤ c ∧ m ≤ d := by
  obtain ⟨v0, vs0, e0, r0, hx⟩ := repL_cons.1 hx
  obtain ⟨v1, vs1, rfl, r1, hx⟩ := repL_cons.1 hx
  rw [repL_nil.1 hx] at e0
  simp only [Rep] at r0 r1
  obtain ⟨cs, rfl, r0⟩ := r0
  obtain ⟨u0, us0, q0, r2, r0⟩ := repL_cons.1 r0
  obtain ⟨u1, us1, rfl, r3, r0⟩ := repL_cons.1 r0
  rw [repL_nil.1 r0] at q0
  simp only [Rep] at r2 r3
  obtain ⟨A, L, c, rfl, y1, y2, y3⟩ := fsl_rowR r3 hf
  obtain ⟨B, M, d, rfl, y4, y5, y6⟩ := fsl_rowR r1 hf
  have hL : L = n := by
    have : (SE.var 1).ev.i = (n : Int) := h1
    omega
  have hM : M = m := by
    have : (SE.var 2).ev.i = (m : Int) := h2
    omega
  subst hL hM
  rw [ha] at y3
  rw [hb, Nat.mul_one] at y6
  have hcs : cs = #[.int .i64 N, .slice A L c] := Array.toList_inj.1 (by rw [q0, r2, ← h0]; rfl)
  exact ⟨A, B, c, d, Array.toList_inj.1 (by rw [e0, hcs]), y3, y6, y2, y5⟩
def coK (v : Nat) : Know := canK 33 coC (.si .i64 (.var v))
def rkK (v : Nat) : Know := canK 35 coC (.si .i64 (.var v))
theorem coK_ok [Rho] {v : Nat} {N : Int} {n m : Nat} {S : Nat → Nat → Int} {t : Nat → Int} (ha : Rho.a 0 = flat4 S) (hb : Rho.a 1 = flat1 t) (h0 : Rho.i 0 = N) (h1 : Rho.i 1 = (n : Int)) (h2 : Rho.i 2 = (m : Int)) (h3 : Rho.i v = cost S t n) (hN : I64 N) (hm : (m : Int) = N) (hcn : (cnR N n S).2 = 0) (htr : (trR m t).2 = 0) : KOk Try.prog (coK v) := canK_ok fun xs W hx hf => by
  obtain ⟨A, B, c, d, rfl, y1, y2, y3, y4⟩ := coC_open ha hb h0 h1 h2 hx hf
  obtain ⟨_, q2, q3⟩ := cn_right hcn
  refine (costOf_any N A B n c m d S t W y1 y2 hN y3 y4 (by omega) hm q3 (tr_right htr)).mono ?_
  rintro e w' ⟨rfl, hb⟩
  exact ⟨⟨_, rfl, by simp only [Rep]; show _ = Value.int .i64 (Rho.i v); rw [h3]⟩, hb⟩
theorem rkK_ok [Rho] {v : Nat} {N : Int} {n m : Nat} {S : Nat → Nat → Int} {t : Nat → Int} (ha : Rho.a 0 = flat4 S) (hb : Rho.a 1 = flat1 t) (h0 : Rho.i 0 = N) (h1 : Rho.i 1 = (n : Int)) (h2 : Rho.i 2 = (m : Int)) (h3 : Rho.i v = cost S t n) (hN : I64 N) (hm : (m : Int) = N) (hcn : (cnR N n S).2 = 0) (htr : (trR m t).2 = 0) : KOk Try.prog (rkK v) := canK_ok fun xs W hx hf => by
  obtain ⟨A, B, c, d, rfl, y1, y2, y3, y4⟩ := coC_open ha hb h0 h1 h2 hx hf
  obtain ⟨_, q2, q3⟩ := cn_right hcn
  refine (refCost_any N A B n c m d S t W y1 y2 hN y3 y4 (by omega) hm q3 (tr_right htr)).mono ?_
  rintro e w' ⟨rfl, hb⟩
  exact ⟨⟨_, rfl, by simp only [Rep]; show _ = Value.int .i64 (Rho.i v); rw [h3]⟩, hb⟩
end Go.Proofs.Ytmglofemnobakaa
