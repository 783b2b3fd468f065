/-
  StopsChange and StopsOnce, as the frames want them (layer 12).
  Conditions: each argument fits its kind.
-/
import Derived.Test.YtfbnmoegdbdhjaaStoChg
import Derived.Test.YtfbnmoegdbdhjaaStoOnce
namespace Go.Proofs.Ytfbnmoegdbdhjaa.St
set_option linter.unusedVariables false
set_option linter.unusedSimpArgs false
open Go.RowKit Go.Proofs.Ytfbnmoegdbdhjaa.Ba
theorem R.wf' {x : Int} (h : (Lit.int .u64 x).wf = true) : R x := by have := bounds_u64 h; unfold R; omega
theorem changeF (p u d f way : Int) (w : World) (_ : (Lit.int .u64 p).wf = true) (_ : (Lit.int .u64 u).wf = true) (_ : (Lit.int .u64 d).wf = true) (_ : (Lit.int .i64 f).wf = true) (_ : (Lit.int .i64 way).wf = true) :
    Calls Try.prog 6 #[.agg #[.int .u64 p, .int .u64 u, .int .u64 d], .int .i64 f, .int .i64 way] w fun e w' => e = .returned (.bool true) ∧ Since w w' := change p u d f way w
theorem onceF (p u d f8 w8 : Int) (w : World) (wp : (Lit.int .u64 p).wf = true) (wu : (Lit.int .u64 u).wf = true) (wd : (Lit.int .u64 d).wf = true) (wf : (Lit.int .u8 f8).wf = true) (ww : (Lit.int .u8 w8).wf = true) :
    Calls Try.prog 8 #[.agg #[.int .u64 p, .int .u64 u, .int .u64 d], .int .u8 f8, .int .u8 w8] w fun e w' => e = .returned (.bool true) ∧ Since w w' := by
  have ⟨f1, f2⟩ := bounds_u8 wf
  have ⟨w1, w2⟩ := bounds_u8 ww
  exact once p u d f8 w8 w (R.wf' wp) (R.wf' wu) (R.wf' wd) f1 f2 w1 w2
end Go.Proofs.Ytfbnmoegdbdhjaa.St
