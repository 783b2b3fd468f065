/-
  plant.Step (layer 11), whole.
  Conditions: a door's place is from 0 to 1000.
-/
import Derived.Test.YtdbbacpofgjgoaaPlaStepA
import Derived.Test.YtdbbacpofgjgoaaPlaStepB
import Derived.Test.YtdbbacpofgjgoaaPlaStepC
import Derived.Test.YtdbbacpofgjgoaaPlaStepD
import Derived.Test.YtdbbacpofgjgoaaPlaStepE
import Derived.Test.YtdbbacpofgjgoaaPlaShut
namespace Go.Proofs.Ytdbbacpofgjgoaa.Pl
set_option linter.unusedVariables false
set_option linter.unusedSimpArgs false
open Go.RowKit Go.Proofs.Ytdbbacpofgjgoaa.Ba Go.Proofs.Ytdbbacpofgjgoaa.Do Go.Proofs.Ytdbbacpofgjgoaa.Mo Go.Proofs.Ytdbbacpofgjgoaa.Ty
set_option maxRecDepth 100000
theorem stepT (c : CfgV) (x : CarV) (r : Int) (o k : Bool) (h0 : 0 ≤ x.da) (h1 : x.da ≤ 1000) (u0 : -9223372036854775808 ≤ x.un) (u1 : x.un ≤ 9223372036854775807) (w : World) : Calls Try.prog 18 #[.agg #[.int .i64 c.ca, .int .i64 c.fl, .int .i64 c.ft, .int .i64 c.se, .int .i64 c.dr, .int .i64 c.dw, .int .i64 c.ho, .int .i64 c.re, .int .i64 c.yi, .int .i64 c.qu, .int .i64 c.qo, .int .i64 c.lo, .int .i64 c.sl, .int .i64 c.rt, .int .i64 c.cp, .int .i64 c.tr, .int .i64 c.de, .int .i64 c.wi], .agg #[.int .i64 x.ds, .int .i64 x.da, .int .i64 x.un, .int .i64 x.wy, .int .i64 x.ti, .int .i64 x.ju, .int .i64 x.lo, .bool x.bl, .bool x.br, .int .i64 x.mo, .int .i64 x.ta, .bool x.ho, .int .u64 x.sp, .int .u64 x.su, .int .u64 x.sd], .agg #[.int .i64 r, .bool o, .bool k]] w fun e w' => e = .returned (.agg #[.int .i64 (dS1 c x o k), .int .i64 (dA1 c x o k), .int .i64 (un1 c x r o k), .int .i64 (wy1 c x r o k), .int .i64 x.ti, .int .i64 x.ju, .int .i64 x.lo, .bool x.bl, .bool x.br, .int .i64 x.mo, .int .i64 x.ta, .bool x.ho, .int .u64 x.sp, .int .u64 x.su, .int .u64 x.sd]) ∧ Since w w' := by
  obtain ⟨ds, da, un, wy, ti, ju, lo, bl, br, mo, ta, ho, sp, su, sd⟩ := x
  cases br
  · by_cases hd : ds = 0
    · subst hd
      cases hz : (tS (toldS 0 un o k) da c.dr bl == 0)
      · exact shut_opens c ⟨0, da, un, wy, ti, ju, lo, bl, false, mo, ta, ho, sp, su, sd⟩ r o k h0 h1 u0 u1 hz w
      · by_cases hr1 : r = 1
        · subst hr1; exact shut_up c ⟨0, da, un, wy, ti, ju, lo, bl, false, mo, ta, ho, sp, su, sd⟩ o k h0 h1 u0 u1 hz w
        · by_cases hr2 : r = 2
          · subst hr2; exact shut_down c ⟨0, da, un, wy, ti, ju, lo, bl, false, mo, ta, ho, sp, su, sd⟩ o k h0 h1 u0 u1 hz w
          · exact shut_still c ⟨0, da, un, wy, ti, ju, lo, bl, false, mo, ta, ho, sp, su, sd⟩ r o k h0 h1 u0 u1 hz hr1 hr2 w
    · exact step_open c ⟨ds, da, un, wy, ti, ju, lo, bl, false, mo, ta, ho, sp, su, sd⟩ r o k h0 h1 u0 u1 hd w
  · exact step_br c ⟨ds, da, un, wy, ti, ju, lo, bl, true, mo, ta, ho, sp, su, sd⟩ r o k h0 h1 u0 u1 w
end Go.Proofs.Ytdbbacpofgjgoaa.Pl
