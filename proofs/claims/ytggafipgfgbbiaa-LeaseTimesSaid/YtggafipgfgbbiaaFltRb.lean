/-
  The walks of the reference's fleets (layer 17).
  No condition.
-/
import Derived.Test.YtggafipgfgbbiaaFltW
import Derived.Test.YtggafipgfgbbiaaRow
namespace Go.Proofs.Ytggafipgfgbbiaa.Fl
set_option linter.unusedVariables false
set_option linter.unusedSimpArgs false
open Go.RowKit Go.Proofs.Ytggafipgfgbbiaa.Ba Go.Proofs.Ytggafipgfgbbiaa.Mo Go.Proofs.Ytggafipgfgbbiaa.Ty
open Go.Proofs.Ytggafipgfgbbiaa.Ce (ms massT)
set_option maxRecDepth 100000
theorem nearestR (n lo hi : Int) (w : World) : Calls Try.prog 63 #[.int .i64 n, .int .i64 lo, .int .i64 hi] w fun e w' => e = .returned (.int .i64 (btw n lo hi)) ∧ w = w' := by
  go_enter Try.func63, Try.ntmps63
  go_wp2
  all_goals
    go_ret
    exact ⟨ret_int (by unfold btw; repeat' split <;> omega), rfl⟩
theorem massR (n : Int) (w : World) : Calls Try.prog 68 #[.int .i64 n] w fun e w' => e = .returned (.int .i64 (ms n)) ∧ w = w' := by
  go_enter Try.func68, Try.ntmps68
  go_wp2
  all_goals
    go_ret
    exact ⟨ret_int (by unfold ms; repeat' split <;> omega), rfl⟩
theorem mayB_iff (c : CfgV) (a : AskV) : mayB c a = true ↔ ((0 ≤ a.se ∧ a.se < btw c.se 1 64) ∧ (0 ≤ a.fl ∧ a.fl < btw c.ft 1 8) ∧ (0 ≤ a.fm ∧ a.fm < fl c.fl) ∧ (0 ≤ a.to ∧ a.to < fl c.fl) ∧ a.fm ≠ a.to ∧ 1 ≤ a.ma ∧ a.ma ≤ ms c.lo) := by
  unfold mayB belB; simp [and_assoc]
end Go.Proofs.Ytggafipgfgbbiaa.Fl
