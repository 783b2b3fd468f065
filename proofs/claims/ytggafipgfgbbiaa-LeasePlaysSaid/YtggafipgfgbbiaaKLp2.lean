/-
  What is wanted by the last of these texts, part 2.
  No condition.
-/

namespace Go.Proofs.Ytggafipgfgbbiaa.Ty
set_option linter.unusedVariables false
set_option linter.unusedSimpArgs false
/-- A setting. -/
structure CfgV where
  ca : Int
  fl : Int
  ft : Int
  se : Int
  dr : Int
  dw : Int
  ho : Int
  re : Int
  yi : Int
  qu : Int
  qo : Int
  lo : Int
  sl : Int
  rt : Int
  cp : Int
  tr : Int
  de : Int
  wi : Int
/-- A robot's request. -/
structure AskV where
  se : Int
  fl : Int
  fm : Int
  to : Int
  ma : Int
/-- A car's lease. -/
structure LeaseV where
  se : Int
  fl : Int
  fm : Int
  to : Int
  ma : Int
  ca : Int
  ph : Int
  un : Int
  re : Int
  gr : Int
end Go.Proofs.Ytggafipgfgbbiaa.Ty
