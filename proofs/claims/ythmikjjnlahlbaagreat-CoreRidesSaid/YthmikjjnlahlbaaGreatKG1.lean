/-
  What is wanted by the last of these texts, part 1.
  No condition.
-/

namespace Go.Proofs.YthmikjjnlahlbaaGreat.Ty
set_option linter.unusedSectionVars false
set_option linter.unusedVariables false
set_option linter.unusedSimpArgs false
/-- All that is known of a car. -/
structure CarV where
  ds : Int
  da : Int
  un : Int
  wy : Int
  ti : Int
  ju : Int
  lo : Int
  bl : Bool
  br : Bool
  mo : Int
  ta : Int
  ho : Bool
  sp : Int
  su : Int
  sd : Int
/-- A setting. -/
structure CfgV where
  ca : Int
  fl : Int
  ft : Int
  se : Int
  dr : Int
  dw : Int
  ho : Int
  re : Int
  yi : Int
  qu : Int
  qo : Int
  lo : Int
  sl : Int
  rt : Int
  cp : Int
  tr : Int
  de : Int
  wi : Int
/-- A robot's request. -/
structure AskV where
  se : Int
  fl : Int
  fm : Int
  to : Int
  ma : Int
/-- A car's lease. -/
structure LeaseV where
  se : Int
  fl : Int
  fm : Int
  to : Int
  ma : Int
  ca : Int
  ph : Int
  un : Int
  re : Int
  gr : Int
end Go.Proofs.YthmikjjnlahlbaaGreat.Ty
