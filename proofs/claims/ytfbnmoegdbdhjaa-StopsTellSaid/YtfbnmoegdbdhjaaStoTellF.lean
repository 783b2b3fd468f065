/-
  StopsTell, as the frame wants it (layer 12).
  Conditions: each argument fits its kind.
-/
import Derived.Test.YtfbnmoegdbdhjaaStoTell
namespace Go.Proofs.Ytfbnmoegdbdhjaa.St
set_option linter.unusedVariables false
set_option linter.unusedSimpArgs false
open Go.RowKit Go.Proofs.Ytfbnmoegdbdhjaa.Ba
theorem tellF (p u d f way : Int) (w : World) (wp : (Lit.int .u64 p).wf = true) (wu : (Lit.int .u64 u).wf = true) (wd : (Lit.int .u64 d).wf = true) (_ : (Lit.int .i64 f).wf = true) (_ : (Lit.int .i64 way).wf = true) :
    Calls Try.prog 7 #[.agg #[.int .u64 p, .int .u64 u, .int .u64 d], .int .i64 f, .int .i64 way] w fun e w' => e = .returned (.bool true) ∧ Since w w' := by
  have ⟨p0, p1⟩ := bounds_u64 wp
  have ⟨u0, u1⟩ := bounds_u64 wu
  have ⟨d0, d1⟩ := bounds_u64 wd
  exact tell1 p u d f way (by unfold R; omega) (by unfold R; omega) (by unfold R; omega) w
end Go.Proofs.Ytfbnmoegdbdhjaa.St
