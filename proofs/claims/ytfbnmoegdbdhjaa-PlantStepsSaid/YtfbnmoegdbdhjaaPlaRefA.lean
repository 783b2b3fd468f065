/-
  The reference's Step (layer 11), whole.
  Conditions: a door's place is from 0 to 1000.
-/
import Derived.Test.YtfbnmoegdbdhjaaPlaRef1
import Derived.Test.YtfbnmoegdbdhjaaPlaRef2
import Derived.Test.YtfbnmoegdbdhjaaPlaRef3
import Derived.Test.YtfbnmoegdbdhjaaPlaRef4
namespace Go.Proofs.Ytfbnmoegdbdhjaa.Pl
set_option linter.unusedVariables false
set_option linter.unusedSimpArgs false
open Go.RowKit Go.Proofs.Ytfbnmoegdbdhjaa.Ba Go.Proofs.Ytfbnmoegdbdhjaa.Do Go.Proofs.Ytfbnmoegdbdhjaa.Mo Go.Proofs.Ytfbnmoegdbdhjaa.Ty
set_option maxRecDepth 100000
theorem stepR (c : CfgV) (x : CarV) (r : Int) (o k : Bool) (h0 : 0 ≤ x.da) (h1 : x.da ≤ 1000) (u0 : -9223372036854775808 ≤ x.un) (u1 : x.un ≤ 9223372036854775807) (w : World) : Calls Try.prog 21 #[.agg #[.int .i64 c.ca, .int .i64 c.fl, .int .i64 c.ft, .int .i64 c.se, .int .i64 c.dr, .int .i64 c.dw, .int .i64 c.ho, .int .i64 c.re, .int .i64 c.yi, .int .i64 c.qu, .int .i64 c.qo, .int .i64 c.lo, .int .i64 c.sl, .int .i64 c.rt, .int .i64 c.cp, .int .i64 c.tr, .int .i64 c.de, .int .i64 c.wi], .agg #[.int .i64 x.ds, .int .i64 x.da, .int .i64 x.un, .int .i64 x.wy, .int .i64 x.ti, .int .i64 x.ju, .int .i64 x.lo, .bool x.bl, .bool x.br, .int .i64 x.mo, .int .i64 x.ta, .bool x.ho, .int .u64 x.sp, .int .u64 x.su, .int .u64 x.sd], .agg #[.int .i64 r, .bool o, .bool k]] w fun e w' => e = .returned (.agg #[.int .i64 (dS1 c x o k), .int .i64 (dA1 c x o k), .int .i64 (un1 c x r o k), .int .i64 (wy1 c x r o k), .int .i64 x.ti, .int .i64 x.ju, .int .i64 x.lo, .bool x.bl, .bool x.br, .int .i64 x.mo, .int .i64 x.ta, .bool x.ho, .int .u64 x.sp, .int .u64 x.su, .int .u64 x.sd]) ∧ Since w w' := by
  obtain ⟨ds, da, un, wy, ti, ju, lo, bl, br, mo, ta, ho, sp, su, sd⟩ := x
  cases br
  · by_cases hd0 : ds = 0
    · subst hd0
      cases o
      ·
        cases k
        ·
          by_cases hr1 : r = 1
          · subst hr1
            exact rf_nfup c ⟨0, da, un, wy, ti, ju, lo, bl, false, mo, ta, ho, sp, su, sd⟩ h0 h1 u0 u1 w
          · by_cases hr2 : r = 2
            · subst hr2
              exact rf_nfdown c ⟨0, da, un, wy, ti, ju, lo, bl, false, mo, ta, ho, sp, su, sd⟩ h0 h1 u0 u1 w
            · exact rf_nfstill c ⟨0, da, un, wy, ti, ju, lo, bl, false, mo, ta, ho, sp, su, sd⟩ r h0 h1 u0 u1 hr1 hr2 w
        ·
          by_cases hr1 : r = 1
          · subst hr1
            exact rf_ntup c ⟨0, da, un, wy, ti, ju, lo, bl, false, mo, ta, ho, sp, su, sd⟩ h0 h1 u0 u1 w
          · by_cases hr2 : r = 2
            · subst hr2
              exact rf_ntdown c ⟨0, da, un, wy, ti, ju, lo, bl, false, mo, ta, ho, sp, su, sd⟩ h0 h1 u0 u1 w
            · exact rf_ntstill c ⟨0, da, un, wy, ti, ju, lo, bl, false, mo, ta, ho, sp, su, sd⟩ r h0 h1 u0 u1 hr1 hr2 w
      · cases hl : lvB un
        ·
          cases k
          ·
            by_cases hr1 : r = 1
            · subst hr1
              exact rf_lfup c ⟨0, da, un, wy, ti, ju, lo, bl, false, mo, ta, ho, sp, su, sd⟩ h0 h1 u0 u1 hl w
            · by_cases hr2 : r = 2
              · subst hr2
                exact rf_lfdown c ⟨0, da, un, wy, ti, ju, lo, bl, false, mo, ta, ho, sp, su, sd⟩ h0 h1 u0 u1 hl w
              · exact rf_lfstill c ⟨0, da, un, wy, ti, ju, lo, bl, false, mo, ta, ho, sp, su, sd⟩ r h0 h1 u0 u1 hl hr1 hr2 w
          ·
            by_cases hr1 : r = 1
            · subst hr1
              exact rf_ltup c ⟨0, da, un, wy, ti, ju, lo, bl, false, mo, ta, ho, sp, su, sd⟩ h0 h1 u0 u1 hl w
            · by_cases hr2 : r = 2
              · subst hr2
                exact rf_ltdown c ⟨0, da, un, wy, ti, ju, lo, bl, false, mo, ta, ho, sp, su, sd⟩ h0 h1 u0 u1 hl w
              · exact rf_ltstill c ⟨0, da, un, wy, ti, ju, lo, bl, false, mo, ta, ho, sp, su, sd⟩ r h0 h1 u0 u1 hl hr1 hr2 w
        ·
          exact rf_oo0 c ⟨0, da, un, wy, ti, ju, lo, bl, false, mo, ta, ho, sp, su, sd⟩ k r h0 h1 u0 u1 hl w
    · cases o
      ·
        cases k
        ·
          exact rf_nfx c ⟨ds, da, un, wy, ti, ju, lo, bl, false, mo, ta, ho, sp, su, sd⟩ r h0 h1 u0 u1 hd0 w
        ·
          by_cases hd1 : ds = 1
          · subst hd1
            exact rf_nt1 c ⟨1, da, un, wy, ti, ju, lo, bl, false, mo, ta, ho, sp, su, sd⟩ r h0 h1 u0 u1 w
          · by_cases hd2 : ds = 2
            · subst hd2
              exact rf_nt2 c ⟨2, da, un, wy, ti, ju, lo, bl, false, mo, ta, ho, sp, su, sd⟩ r h0 h1 u0 u1 w
            ·
              exact rf_ntx c ⟨ds, da, un, wy, ti, ju, lo, bl, false, mo, ta, ho, sp, su, sd⟩ r h0 h1 u0 u1 hd0 hd1 hd2 w
      · cases hl : lvB un
        ·
          cases k
          ·
            exact rf_lfx c ⟨ds, da, un, wy, ti, ju, lo, bl, false, mo, ta, ho, sp, su, sd⟩ r h0 h1 u0 u1 hl hd0 w
          ·
            by_cases hd1 : ds = 1
            · subst hd1
              exact rf_lt1 c ⟨1, da, un, wy, ti, ju, lo, bl, false, mo, ta, ho, sp, su, sd⟩ r h0 h1 u0 u1 hl w
            · by_cases hd2 : ds = 2
              · subst hd2
                exact rf_lt2 c ⟨2, da, un, wy, ti, ju, lo, bl, false, mo, ta, ho, sp, su, sd⟩ r h0 h1 u0 u1 hl w
              ·
                exact rf_ltx c ⟨ds, da, un, wy, ti, ju, lo, bl, false, mo, ta, ho, sp, su, sd⟩ r h0 h1 u0 u1 hl hd0 hd1 hd2 w
        · by_cases hd3 : ds = 3
          · subst hd3
            exact rf_oo3 c ⟨3, da, un, wy, ti, ju, lo, bl, false, mo, ta, ho, sp, su, sd⟩ k r h0 h1 u0 u1 hl w
          ·
            exact rf_oox c ⟨ds, da, un, wy, ti, ju, lo, bl, false, mo, ta, ho, sp, su, sd⟩ k r h0 h1 u0 u1 hl hd0 hd3 w
  ·
    exact rf_br c ⟨ds, da, un, wy, ti, ju, lo, bl, true, mo, ta, ho, sp, su, sd⟩ o k r h0 h1 u0 u1 w
end Go.Proofs.Ytfbnmoegdbdhjaa.Pl
