/-
  Which cars are good: the reference's word (layer 11), whole.
  No condition.
-/
import Derived.Test.YtfbnmoegdbdhjaaPlaGd0
import Derived.Test.YtfbnmoegdbdhjaaPlaGd1
import Derived.Test.YtfbnmoegdbdhjaaPlaGd2
import Derived.Test.YtfbnmoegdbdhjaaPlaGd3
import Derived.Test.YtfbnmoegdbdhjaaPlaGd4
import Derived.Test.YtfbnmoegdbdhjaaPlaGd5
import Derived.Test.YtfbnmoegdbdhjaaPlaGd6
namespace Go.Proofs.Ytfbnmoegdbdhjaa.Pl
set_option linter.unusedVariables false
set_option linter.unusedSimpArgs false
open Go.RowKit Go.Proofs.Ytfbnmoegdbdhjaa.Ba Go.Proofs.Ytfbnmoegdbdhjaa.Do Go.Proofs.Ytfbnmoegdbdhjaa.Mo Go.Proofs.Ytfbnmoegdbdhjaa.Ty
set_option maxRecDepth 100000
theorem goodCarR (c : CfgV) (x : CarV) (w : World) : Calls Try.prog 18 #[.agg #[.int .i64 c.ca, .int .i64 c.fl, .int .i64 c.ft, .int .i64 c.se, .int .i64 c.dr, .int .i64 c.dw, .int .i64 c.ho, .int .i64 c.re, .int .i64 c.yi, .int .i64 c.qu, .int .i64 c.qo, .int .i64 c.lo, .int .i64 c.sl, .int .i64 c.rt, .int .i64 c.cp, .int .i64 c.tr, .int .i64 c.de, .int .i64 c.wi], .agg #[.int .i64 x.ds, .int .i64 x.da, .int .i64 x.un, .int .i64 x.wy, .int .i64 x.ti, .int .i64 x.ju, .int .i64 x.lo, .bool x.bl, .bool x.br, .int .i64 x.mo, .int .i64 x.ta, .bool x.ho, .int .u64 x.sp, .int .u64 x.su, .int .u64 x.sd]] w fun e w' => e = .returned (.bool (goodB c x)) ∧ Since w w' := by
  obtain ⟨ds, da, un, wy, ti, ju, lo, bl, br, mo, ta, ho, sp, su, sd⟩ := x
  by_cases hg : gd ds da c.dr = true
  · by_cases hu1 : 0 ≤ un
    · by_cases hu2 : un ≤ 4 * (fl c.fl - 1)
      · by_cases hw1 : 0 ≤ wy
        · by_cases hw2 : wy ≤ 2
          · by_cases hd : ds = 0
            · subst hd; exact gc0 c da un wy ti ju lo bl br mo ta ho sp su sd hg hu1 hu2 hw1 hw2 w
            · exact gc1 c ds da un wy ti ju lo bl br mo ta ho sp su sd hg hu1 hu2 hw1 hw2 hd w
          · exact gc2 c ds da un wy ti ju lo bl br mo ta ho sp su sd hg hu1 hu2 hw1 hw2 w
        · exact gc3 c ds da un wy ti ju lo bl br mo ta ho sp su sd hg hu1 hu2 hw1 w
      · exact gc4 c ds da un wy ti ju lo bl br mo ta ho sp su sd hg hu1 hu2 w
    · exact gc5 c ds da un wy ti ju lo bl br mo ta ho sp su sd hg hu1 w
  · exact gc6 c ds da un wy ti ju lo bl br mo ta ho sp su sd hg w
end Go.Proofs.Ytfbnmoegdbdhjaa.Pl
