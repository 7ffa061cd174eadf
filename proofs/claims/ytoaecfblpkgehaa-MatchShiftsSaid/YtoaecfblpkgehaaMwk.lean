/- Match: contracts: which kernels are right; Weights of a wrong one, or of a wrong part. -/
import Derived.Test.YtoaecfblpkgehaaMer
namespace Go.Proofs.Ytoaecfblpkgehaa
open Go.RowKit
set_option maxHeartbeats 800000
set_option maxRecDepth 100000

theorem checkKernel_any (k : Int) (w : World) : Calls Try.prog 33 #[.int .i64 k] w fun e w' => e = .returned (.int .i64 (eif (!inB k 0 2) 15)) ∧ w = w' := by
  go_enter Try.func33, Try.ntmps33
  go_wp2_with (first
    | (go_at_call 35; (with_reducible refine (mWithin_any _ _ _ _).mono ?_); rintro e w' ⟨rfl, rfl⟩)
    | (go_at_call 34; (with_reducible refine (errorIf_any _ _ _).mono ?_); rintro e w' ⟨rfl, rfl⟩))
  go_ret
  exact ⟨rfl, rfl⟩

theorem isKernel_any (k : Int) (w : World) : Calls Try.prog 8 #[.int .i64 k] w fun e w' => e = .returned (.bool (inB k 0 2)) ∧ w = w' := by
  go_enter Try.func8, Try.ntmps8
  go_wp2_with (go_at_call 9; (with_reducible refine (baseWithin_any _ _ _ _).mono ?_); rintro e w' ⟨rfl, rfl⟩)
  go_ret
  exact ⟨rfl, rfl⟩

theorem sl_two {w : World} {t : TypeId} {x y : Int} {g : Nat} (hg : g = w.heap.size) : Sl (w.alloc (.cells #[.int .i64 x, .int .i64 y] t)) (some ⟨g, 0, none⟩) 2 (fun i => .int .i64 ((fun i => if i = 0 then x else y) i)) :=
  sl_new hg (fun i hi => by
    have h2 : i = 0 ∨ i = 1 := by omega
    rcases h2 with rfl | rfl <;> rfl)
/-- the error of a kernel and a part -/
def wtE (k p : Int) : Int := if inB k 0 2 = true then (if inB p 0 15 = true then 0 else 2) else 15
theorem weights_wrong (k p : Int) (w : World) (hw : wtE k p ≠ 0) : Calls Try.prog 7 #[.int .i64 k, .int .i64 p] w fun e w' => e = .returned (.tuple #[.slice none 0 0, .float .f32 0, .int .i64 (wtE k p)]) ∧ Below w.heap.size w w' := by
  have hfe : fe (fun i => if i = 0 then eif (!inB k 0 2) 15 else eif (!inB p 0 15) 2) 2 = wtE k p := by
    unfold wtE
    cases h1 : inB k 0 2 <;> cases h2 : inB p 0 15 <;> rfl
  have HFE := Lib.hid hfe
  have d : (wtE k p != 0) = true := by simpa using hw
  clear hfe hw
  go_enter Try.func7, Try.ntmps7
  go_wp2_with (first
    | (go_at_call 35; (with_reducible refine (mWithin_any _ _ _ _).mono ?_); rintro e w' ⟨rfl, rfl⟩)
    | (go_at_call 33; (with_reducible refine (checkKernel_any _ _).mono ?_); rintro e w' ⟨rfl, rfl⟩)
    | (go_at_call 34; (with_reducible refine (errorIf_any _ _ _).mono ?_); rintro e w' ⟨rfl, rfl⟩)
    | (go_at_call 32; refine (firstError_any _ 2 2 (fun i => if i = 0 then eif (!inB k 0 2) 15 else eif (!inB p 0 15) 2) _ ?_ (by decide)).mono ?_; (exact sl_two rfl); rintro e w' ⟨rfl, rfl⟩; rw [HFE.out]))
  refine bodyPost_ret (v := .tuple #[.slice none 0 0, .float .f32 0, .int .i64 (wtE k p)]) (by simp [results, Try.results7, go_sem, *]) rfl ⟨rfl, ?_⟩
  repeat (first | (with_reducible exact Below.refl _ _) | (with_reducible refine Below.drew ?_) | (with_reducible refine below_drewNs ?_) | (with_reducible refine below_new ?_ (by first | omega | (simp; done) | (simp; omega))))
end Go.Proofs.Ytoaecfblpkgehaa
