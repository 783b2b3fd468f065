/-
  Wanted: NGNn.
  No condition.
-/
import Derived.Test.YtepfmfalebmcnaaGreatDoorPU17
set_option linter.all false
namespace Go.Proofs.YtepfmfalebmcnaaGreatDoor
namespace Gw
open Go.RowKit Ba Mem En Go.Proofs.YtepfmfalebmcnaaGreatDoor.Ty Mp
open Co (Hold.ob)
set_option maxRecDepth 100000
attribute [local irreducible] Go.Calls
set_option maxHeartbeats 1000000 in
theorem noneG (sk sa sb n:Int) (dA:Option Addr) (dn dc:Nat) (hk:(Lit.int .i64 sk).wf=true) (w:World):Calls Tryz.prog 7 #[.agg #[.int .i64 sk,.int .i64 sa,.int .i64 sb,.slice dA dn dc],.int .i64 n] w fun e w'=>e=.returned (.bool true)∧Since w w':=by
 refine ent tab_ok [.a [.i .i64 sk,.i .i64 sa,.i .i64 sb,.v (.slice dA dn dc)],.i .i64 n] Tryz.func7 Tryz.ntmps7 rfl rfl ?_
 repeat' (first | refine gs_ ?_|((conv=>whnf); first | intro b0 | refine bto ?_|refine bfo ?_|refine wr_i ?_|refine br_t (by rfl) ?_|refine And.intro ?_ ?_|refine callH (f:=18) (.b true) (fun w1 hH=>answersT w1) ?_|refine callH (f:=24) (.t [.v (.slice none 0 0),.i .i64 1]) (fun w1 hH=>doNil sk sa sb dA dn dc hk w1) ?_|refine callH (f:=27) (.v (.pointer none)) (fun w1 hH=>coreNil w1) ?_|refine callH (f:=31) (.v (.slice none 0 0)) (fun w1 hH=>sessionsNil w1) ?_|refine callH (f:=32) (.v (.slice none 0 0)) (fun w1 hH=>viewsNil w1) ?_|refine callH (f:=23) (.i .i64 0) (fun w1 hH=>epochNil n w1) ?_|refine fin_s ?_))
 all_goals rfl
end Gw
end Go.Proofs.YtepfmfalebmcnaaGreatDoor
