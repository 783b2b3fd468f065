/-
  Which cars are good: the reference's word (layer 11): a number that does not wrap.
  No condition.
-/
import Derived.Test.YtdbbacpofgjgoaaPlaK
import Derived.Test.YtdbbacpofgjgoaaDoorRef
namespace Go.Proofs.Ytdbbacpofgjgoaa.Pl
set_option linter.unusedVariables false
set_option linter.unusedSimpArgs false
open Go.RowKit Go.Proofs.Ytdbbacpofgjgoaa.Ba Go.Proofs.Ytdbbacpofgjgoaa.Do Go.Proofs.Ytdbbacpofgjgoaa.Mo Go.Proofs.Ytdbbacpofgjgoaa.Ty
set_option maxRecDepth 100000
theorem wrap4 (n : Int) : IntKind.i64.wrap (4 * IntKind.i64.wrap (fl n - 1)) = 4 * (fl n - 1) := by
  have h1 := fl_lo n
  have h2 := fl_hi n
  generalize fl n = k at h1 h2 ⊢
  have e1 : IntKind.i64.wrap (k - 1) = k - 1 := by simp only [IntKind.wrap, IntKind.bits, IntKind.signed]; simp; omega
  rw [e1]
  simp only [IntKind.wrap, IntKind.bits, IntKind.signed]; simp; omega
end Go.Proofs.Ytdbbacpofgjgoaa.Pl
