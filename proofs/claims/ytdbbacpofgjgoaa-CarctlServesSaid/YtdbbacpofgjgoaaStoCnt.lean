/-
  How many stops there are: the walk of math/bits.OnesCount64 and of stops.Count.
  Conditions: the numbers fit 64 bits.
-/
import Derived.Test.YtdbbacpofgjgoaaStoRef
import Derived.Test.YtdbbacpofgjgoaaStoPop
namespace Go.Proofs.Ytdbbacpofgjgoaa.St
set_option linter.unusedVariables false
set_option linter.unusedSimpArgs false
open Go.RowKit Go.Proofs.Ytdbbacpofgjgoaa.Ba
set_option maxRecDepth 100000
theorem onesT (x : Int) (hx : R x) (w : World) : Calls Try.prog 59 #[.int .u64 x] w fun e w' => e = .returned (.int .i64 (cn x)) ∧ w = w' := by
  have HS := Lib.hid (swar x hx)
  have hx0 := hx.1
  clear hx
  go_enter Try.func59, Try.ntmps59
  go_wp2
  go_ret
  exact ⟨ret_int HS.out, rfl⟩
theorem countT (p u d : Int) (hp : R p) (hu : R u) (hd : R d) (w : World) : Calls Try.prog 34 #[.agg #[.int .u64 p, .int .u64 u, .int .u64 d]] w fun e w' => e = .returned (.int .i64 (cn p + cn u + cn d)) ∧ Since w w' := by
  have a1 := cn_lo p
  have a2 := cn_hi p
  have a3 := cn_lo u
  have a4 := cn_hi u
  have a5 := cn_lo d
  have a6 := cn_hi d
  go_enter Try.func34, Try.ntmps34
  go_wp2_with fail
  go_quiet ((go_at_call 59; exact quiet_eq (onesT _ (by assumption) _)))
  go_wp2
  go_ret
  exact ⟨rfl, (by repeat (first | exact Since.refl _ | assumption | refine Since.setCell ?_ (by first | (simp; done) | (simp; omega)) _ | refine Since.drew ?_ | refine Since.drewN ?_ _ | refine Since.alloc ?_ _ | refine Since.trans ?_ (by assumption) | refine Since.trans ?_ (Hid.out (by assumption))))⟩
end Go.Proofs.Ytdbbacpofgjgoaa.St
