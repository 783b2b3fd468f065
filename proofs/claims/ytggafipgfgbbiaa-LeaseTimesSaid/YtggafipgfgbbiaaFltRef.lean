/-
  The walks of the reference's fleets (layer 17).
  No condition.
-/
import Derived.Test.YtggafipgfgbbiaaFltR0
import Derived.Test.YtggafipgfgbbiaaFltR1
import Derived.Test.YtggafipgfgbbiaaFltR2
namespace Go.Proofs.Ytggafipgfgbbiaa.Fl
set_option linter.unusedVariables false
set_option linter.unusedSimpArgs false
open Go.RowKit Go.Proofs.Ytggafipgfgbbiaa.Mem Go.Proofs.Ytggafipgfgbbiaa.Ba Go.Proofs.Ytggafipgfgbbiaa.Mo Go.Proofs.Ytggafipgfgbbiaa.Ty
open Go.Proofs.Ytggafipgfgbbiaa.Ce (ms massT)
set_option maxRecDepth 100000
theorem mayR (c : CfgV) (a : AskV) (w : World) : Calls Try.prog 23 #[.agg #[.int .i64 c.ca, .int .i64 c.fl, .int .i64 c.ft, .int .i64 c.se, .int .i64 c.dr, .int .i64 c.dw, .int .i64 c.ho, .int .i64 c.re, .int .i64 c.yi, .int .i64 c.qu, .int .i64 c.qo, .int .i64 c.lo, .int .i64 c.sl, .int .i64 c.rt, .int .i64 c.cp, .int .i64 c.tr, .int .i64 c.de, .int .i64 c.wi], .agg #[.int .i64 a.se, .int .i64 a.fl, .int .i64 a.fm, .int .i64 a.to, .int .i64 a.ma]] w fun e w' => e = .returned (.bool (mayB c a)) ∧ Since w w' := by
  by_cases h0 : 0 ≤ a.se
  · skip
    by_cases h1 : a.se < btw c.se 1 64
    · skip
      by_cases h2 : 0 ≤ a.fl
      · skip
        by_cases h3 : a.fl < btw c.ft 1 8
        · skip
          by_cases h4 : 0 ≤ a.fm
          · skip
            by_cases h5 : a.fm < fl c.fl
            · skip
              by_cases h6 : 0 ≤ a.to
              · skip
                by_cases h7 : a.to < fl c.fl
                · skip
                  by_cases h8 : a.fm ≠ a.to
                  · skip
                    by_cases h9 : 1 ≤ a.ma
                    · skip
                      by_cases h10 : a.ma ≤ ms c.lo
                      · skip
                        exact my_ok c a h0 h1 h2 h3 h4 h5 h6 h7 h8 h9 h10 w
                      · exact my10 c a h0 h1 h2 h3 h4 h5 h6 h7 h8 h9 h10 w
                    · exact my9 c a h0 h1 h2 h3 h4 h5 h6 h7 h8 h9 w
                  · exact my8 c a h0 h1 h2 h3 h4 h5 h6 h7 h8 w
                · exact my7 c a h0 h1 h2 h3 h4 h5 h6 h7 w
              · exact my6 c a h0 h1 h2 h3 h4 h5 h6 w
            · exact my5 c a h0 h1 h2 h3 h4 h5 w
          · exact my4 c a h0 h1 h2 h3 h4 w
        · exact my3 c a h0 h1 h2 h3 w
      · exact my2 c a h0 h1 h2 w
    · exact my1 c a h0 h1 w
  · exact my0 c a h0 w
end Go.Proofs.Ytggafipgfgbbiaa.Fl
