/-
  Wanted: part 5.
  No condition.
-/
import Derived.Test.YtpiiblkiddcgcaaGreatPK4
import Derived.Test.YtpiiblkiddcgcaaGreatPK2
import Derived.Test.YtpiiblkiddcgcaaGreatPK1
import Derived.Test.YtpiiblkiddcgcaaGreatProg
import Derived.Laws.CopyRow
import Derived.Laws.MakeOwn
set_option linter.all false
namespace Go.Proofs.YtpiiblkiddcgcaaGreat
namespace Ct
open Go.RowKit Ba Mem En Do Mo Go.Proofs.YtpiiblkiddcgcaaGreat.Ty Ce Go.Proofs.YtpiiblkiddcgcaaGreat.St Sc Pl
set_option maxRecDepth 100000
attribute [local irreducible] lvB Go.Calls ov atB
def bdX (x:CarV):Prop:=(0≤x.da∧x.da≤1000) ∧ -9223372036854775808≤x.un∧x.un≤9223372036854775807
theorem ld_bd {x:CarV} (h:bdX x):bdX (ldX x):=by unfold ldX; split <;> exact h
theorem go_bd {c:CfgV} {x:CarV} (h:bdX x):bdX (goX c x):=by unfold goX; repeat' split <;> first | exact h | skip
theorem st_bd {c:CfgV} {x:CarV} (h:bdX x):bdX (stX c x):=by unfold stX; split <;> exact h
def tkX (c:CfgV) (x:CarV):CarV:=if x.br=true then x else if x.mo=1 then ldX x else if x.ds=0 then goX c x else if x.ds=2 then stX c x else x
def tkR (x:CarV):Int:=if x.br=true then 0 else if x.mo=1 then ldR x else if x.ds=0 then goR x else 0
def tkO (x:CarV):Bool:=if x.br=true then false else if x.mo=1 then ldO x else if x.ds=0 then goO x else false
def tkK (c:CfgV) (x:CarV):Bool:=if x.br=true then false else if x.mo=1 then ldK x else if x.ds=0 then false else if x.ds=2 then stK c x else false
def tkS (x:CarV):Bool:=if x.br=true then false else if x.mo=1 then false else if x.ds=0 then goS x else false
def tkF (x:CarV):Int:=if x.br=true then 0 else if x.mo=1 then 0 else if x.ds=0 then goF x else 0
def tkW (x:CarV):Int:=if x.br=true then 0 else if x.mo=1 then 0 else if x.ds=0 then goW x else 0
def tkV (c:CfgV) (x:CarV):CarV:=stepV c (tkX c x) (tkR x) (tkO x) (tkK c x)
set_option maxHeartbeats 2000000 in
theorem tickT (c:CfgV) (x:CarV) (w:World) (hbd:bdX x) (hp:R x.sp) (hu:R x.su) (hd:R x.sd) (hta:x.mo=1 → -1099511627776≤x.ta∧x.ta≤1099511627776) (ht0 : -1000000000≤x.ti) (ht1:x.ti≤1000000000) :
  Calls Tryz.prog 28 #[.agg (cfgA c),.agg (carA x)] w fun e w'=>e=.returned (.tuple #[.agg (carA (tkV c x)),.agg #[.int .i64 (tkF x),.int .i64 (tkW x)],.bool (tkS x)])∧Since w w':=by
 refine ent tab_ok [.a (sCfg c),.a (sCar x)] Tryz.func28 Tryz.ntmps28 rfl rfl ?_
 repeat' (first | refine gs_ ?_|((conv=>whnf); first | intro b | refine b3_ (fun h=>?_) (fun h=>?_)|refine callR (f:=80) 4 (.t []) (ctlS (ldX x) (ldR x) (ldO x) (ldK x)) (fun w hb=>leadT _ x w hb (hta (by assumption)).1 (hta (by assumption)).2) ?_|refine callR (f:=81) 4 (.t [.a [.i .i64 _,.i .i64 _],.b _]) (ctlS (goX c x) (goR x) (goO x) false) (fun w hb=>goT _ c x w hb hp hu hd) ?_|refine callR (f:=82) 4 (.t []) (ctlS (stX c x) 0 false (stK c x)) (fun w hb=>stayT _ c x w hb ht0 ht1) ?_|refine callS (f:=83) (.a [.i .i64 (stepV c x 0 false false).ds,.i .i64 (stepV c x 0 false false).da,.i .i64 (stepV c x 0 false false).un,.i .i64 (stepV c x 0 false false).wy,.i .i64 (stepV c x 0 false false).ti,.i .i64 (stepV c x 0 false false).ju,.i .i64 (stepV c x 0 false false).lo,.b (stepV c x 0 false false).bl,.b (stepV c x 0 false false).br,.i .i64 (stepV c x 0 false false).mo,.i .i64 (stepV c x 0 false false).ta,.b (stepV c x 0 false false).ho,.i .u64 (stepV c x 0 false false).sp,.i .u64 (stepV c x 0 false false).su,.i .u64 (stepV c x 0 false false).sd]) (Pl.stepT c x _ _ _ (hbd).1.1 (hbd).1.2 (hbd).2) ?_|refine callS (f:=83) (.a [.i .i64 (stepV c (ldX x) (ldR x) (ldO x) (ldK x)).ds,.i .i64 (stepV c (ldX x) (ldR x) (ldO x) (ldK x)).da,.i .i64 (stepV c (ldX x) (ldR x) (ldO x) (ldK x)).un,.i .i64 (stepV c (ldX x) (ldR x) (ldO x) (ldK x)).wy,.i .i64 (stepV c (ldX x) (ldR x) (ldO x) (ldK x)).ti,.i .i64 (stepV c (ldX x) (ldR x) (ldO x) (ldK x)).ju,.i .i64 (stepV c (ldX x) (ldR x) (ldO x) (ldK x)).lo,.b (stepV c (ldX x) (ldR x) (ldO x) (ldK x)).bl,.b (stepV c (ldX x) (ldR x) (ldO x) (ldK x)).br,.i .i64 (stepV c (ldX x) (ldR x) (ldO x) (ldK x)).mo,.i .i64 (stepV c (ldX x) (ldR x) (ldO x) (ldK x)).ta,.b (stepV c (ldX x) (ldR x) (ldO x) (ldK x)).ho,.i .u64 (stepV c (ldX x) (ldR x) (ldO x) (ldK x)).sp,.i .u64 (stepV c (ldX x) (ldR x) (ldO x) (ldK x)).su,.i .u64 (stepV c (ldX x) (ldR x) (ldO x) (ldK x)).sd]) (Pl.stepT c (ldX x) _ _ _ (ld_bd hbd).1.1 (ld_bd hbd).1.2 (ld_bd hbd).2) ?_|refine callS (f:=83) (.a [.i .i64 (stepV c (goX c x) (goR x) (goO x) false).ds,.i .i64 (stepV c (goX c x) (goR x) (goO x) false).da,.i .i64 (stepV c (goX c x) (goR x) (goO x) false).un,.i .i64 (stepV c (goX c x) (goR x) (goO x) false).wy,.i .i64 (stepV c (goX c x) (goR x) (goO x) false).ti,.i .i64 (stepV c (goX c x) (goR x) (goO x) false).ju,.i .i64 (stepV c (goX c x) (goR x) (goO x) false).lo,.b (stepV c (goX c x) (goR x) (goO x) false).bl,.b (stepV c (goX c x) (goR x) (goO x) false).br,.i .i64 (stepV c (goX c x) (goR x) (goO x) false).mo,.i .i64 (stepV c (goX c x) (goR x) (goO x) false).ta,.b (stepV c (goX c x) (goR x) (goO x) false).ho,.i .u64 (stepV c (goX c x) (goR x) (goO x) false).sp,.i .u64 (stepV c (goX c x) (goR x) (goO x) false).su,.i .u64 (stepV c (goX c x) (goR x) (goO x) false).sd]) (Pl.stepT c (goX c x) _ _ _ (go_bd hbd).1.1 (go_bd hbd).1.2 (go_bd hbd).2) ?_|refine callS (f:=83) (.a [.i .i64 (stepV c (stX c x) 0 false (stK c x)).ds,.i .i64 (stepV c (stX c x) 0 false (stK c x)).da,.i .i64 (stepV c (stX c x) 0 false (stK c x)).un,.i .i64 (stepV c (stX c x) 0 false (stK c x)).wy,.i .i64 (stepV c (stX c x) 0 false (stK c x)).ti,.i .i64 (stepV c (stX c x) 0 false (stK c x)).ju,.i .i64 (stepV c (stX c x) 0 false (stK c x)).lo,.b (stepV c (stX c x) 0 false (stK c x)).bl,.b (stepV c (stX c x) 0 false (stK c x)).br,.i .i64 (stepV c (stX c x) 0 false (stK c x)).mo,.i .i64 (stepV c (stX c x) 0 false (stK c x)).ta,.b (stepV c (stX c x) 0 false (stK c x)).ho,.i .u64 (stepV c (stX c x) 0 false (stK c x)).sp,.i .u64 (stepV c (stX c x) 0 false (stK c x)).su,.i .u64 (stepV c (stX c x) 0 false (stK c x)).sd]) (Pl.stepT c (stX c x) _ _ _ (st_bd hbd).1.1 (st_bd hbd).1.2 (st_bd hbd).2) ?_|refine fin_s ?_))
 all_goals (simp only [denL,den,tkV,tkX,tkR,tkO,tkK,tkS,tkF,tkW, *]; (try simp) <;> first | done | rfl)
end Ct
namespace Et
open Go.RowKit Ba Mem En Mo Go.Proofs.YtpiiblkiddcgcaaGreat.Ty Go.Proofs.YtpiiblkiddcgcaaGreat.St
open Do (hd_lo hd_hi)
set_option maxRecDepth 100000
attribute [local irreducible] Go.Calls lvB
theorem spanT (n:Int) (w:World):Calls Tryz.prog 198 #[.int .i64 n] w fun e w'=>e=.returned (.int .i64 (Do.hd n))∧Since w w':=by
 refine ent tab_ok [.i .i64 n] Tryz.func198 Tryz.ntmps198 rfl rfl ?_
 repeat' (first | refine gq_ ?_|((conv=>whnf); first | refine fin_s ?_))
 exact congrArg (Value.int .i64) (by unfold Do.hd; repeat' split <;> omega)
def behB (wy t:Int):Bool:=decide ((wy=1∧t=2)∨(wy=2∧t=1))
theorem behindT (x:CarV) (f:Int) (h0 : -1099511627776≤f∧f≤1099511627776) (w:World):Calls Tryz.prog 221 #[.agg #[.int .i64 x.ds,.int .i64 x.da,.int .i64 x.un,.int .i64 x.wy,.int .i64 x.ti,.int .i64 x.ju,.int .i64 x.lo,.bool x.bl,.bool x.br,.int .i64 x.mo,.int .i64 x.ta,.bool x.ho,.int .u64 x.sp,.int .u64 x.su,.int .u64 x.sd],.int .i64 f] w fun e w'=>e=.returned (.bool (behB x.wy (tw x.un f)))∧Since w w':=by
 refine ent tab_ok [.a (sCar x),.i .i64 f] Tryz.func221 Tryz.ntmps221 rfl rfl ?_
 repeat' (first | refine gs_ ?_|((conv=>whnf); first | intro b | refine b3_ (fun h=>?_) (fun h=>?_)|refine callS (f:=154) (.i .i64 _) (towardT _ _ h0) ?_|refine fin_s ?_))
 all_goals exact congrArg Value.bool (by unfold behB; simp_all <;> rfl)
def onB (wy cw t:Int):Bool:=decide (wy=0∨(wy=cw∧behB wy t=false))
theorem onT (x:CarV) (f cw:Int) (h0 : -1099511627776≤f∧f≤1099511627776) (w:World):Calls Tryz.prog 199 #[.agg #[.int .i64 x.ds,.int .i64 x.da,.int .i64 x.un,.int .i64 x.wy,.int .i64 x.ti,.int .i64 x.ju,.int .i64 x.lo,.bool x.bl,.bool x.br,.int .i64 x.mo,.int .i64 x.ta,.bool x.ho,.int .u64 x.sp,.int .u64 x.su,.int .u64 x.sd],.agg #[.int .i64 f,.int .i64 cw]] w fun e w'=>e=.returned (.bool (onB x.wy cw (tw x.un f)))∧Since w w':=by
 refine ent tab_ok [.a (sCar x),.a [.i .i64 f,.i .i64 cw]] Tryz.func199 Tryz.ntmps199 rfl rfl ?_
 repeat' (first | refine gs_ ?_|((conv=>whnf); first | intro b | refine b3_ (fun h=>?_) (fun h=>?_)|refine callS (f:=221) (.b _) (behindT x _ h0) ?_|refine fin_s ?_))
 all_goals exact congrArg Value.bool (by unfold onB; simp_all)
attribute [local irreducible] onB behB
def stV (c:CfgV):Int:=2*Do.hd c.dr+Do.hd c.dw
def baV (c:CfgV) (x:CarV) (f:Int):Int:=fr x.un f+(cn x.sp+cn x.su+cn x.sd)*stV c
def coV (c:CfgV) (x:CarV) (f cw:Int):Int:=if onB x.wy cw (tw x.un f)=true then baV c x f else baV c x f+8*(fl c.fl - 1)
theorem mul_bd (a b A B:Int) (h0:0≤a) (h1:a≤A) (k0:0≤b) (k1:b≤B):0≤a*b∧a*b≤A*B :=
 ⟨Int.mul_nonneg h0 k0,Int.mul_le_mul h1 k1 k0 (by omega)⟩
theorem st_bd (c:CfgV):0≤stV c∧stV c≤3000:=by have:=hd_lo c.dr; have:=hd_hi c.dr; have:=hd_lo c.dw; have:=hd_hi c.dw; unfold stV; omega
theorem on_bd (x:CarV):0≤cn x.sp+cn x.su+cn x.sd∧cn x.sp+cn x.su+cn x.sd≤192:=by have:=cn_lo x.sp; have:=cn_lo x.su; have:=cn_lo x.sd; have:=cn_hi x.sp; have:=cn_hi x.su; have:=cn_hi x.sd; omega
theorem fr_bd (u f:Int) (h0:0≤u) (h1:u≤252) (g0:0≤f) (g1:f≤63):0≤fr u f∧fr u f≤252:=by unfold fr; split <;> omega
theorem ba_bd (c:CfgV) (x:CarV) (f:Int) (h0:0≤x.un) (h1:x.un≤252) (g0:0≤f) (g1:f≤63):0≤baV c x f∧baV c x f≤600000:=by
 have a:=fr_bd x.un f h0 h1 g0 g1
 have b:=on_bd x
 have d:=st_bd c
 have e:=mul_bd _ _ 192 3000 b.1 b.2 d.1 d.2
 unfold baV; omega
theorem costT (c:CfgV) (x:CarV) (f cw:Int) (h0:0≤x.un) (h1:x.un≤252) (g0:0≤f) (g1:f≤63) (hp:R x.sp) (hu:R x.su) (hdd:R x.sd) (w:World):Calls Tryz.prog 152 #[(aCfg c),.agg #[.int .i64 x.ds,.int .i64 x.da,.int .i64 x.un,.int .i64 x.wy,.int .i64 x.ti,.int .i64 x.ju,.int .i64 x.lo,.bool x.bl,.bool x.br,.int .i64 x.mo,.int .i64 x.ta,.bool x.ho,.int .u64 x.sp,.int .u64 x.su,.int .u64 x.sd],.agg #[.int .i64 f,.int .i64 cw]] w fun e w'=>e=.returned (.int .i64 (coV c x f cw))∧Since w w':=by
 have b1:=ba_bd c x f h0 h1 g0 g1
 have b2:=fr_bd x.un f h0 h1 g0 g1
 have b3:=on_bd x
 have b4:=st_bd c
 have b5:=mul_bd _ _ 192 3000 b3.1 b3.2 b4.1 b4.2
 have b6:=fl_lo c.fl
 have b7:=fl_hi c.fl
 have b8:=hd_lo c.dr
 have b9:=hd_hi c.dr
 have b10:=hd_lo c.dw
 have b11:=hd_hi c.dw
 refine ent tab_ok [.a (sCfg c),.a (sCar x),.a [.i .i64 f,.i .i64 cw]] Tryz.func152 Tryz.ntmps152 rfl rfl ?_
 repeat' (first | refine gs_ ?_|((conv=>whnf); first | intro b | refine b3_ (fun h=>?_) (fun h=>?_)|refine wr_i ?_|refine wr_i (x:=(cn x.sp+cn x.su+cn x.sd)*stV c) ?_|refine callS (f:=198) (.i .i64 _) (spanT _) ?_|refine callS (f:=185) (.i .i64 _) (farT _ _ (by omega) (by omega)) ?_|refine callS (f:=172) (.i .i64 _) (countT _ _ _ hp hu hdd) ?_|refine callS (f:=199) (.b _) (onT x _ _ (by omega)) ?_|refine callS (f:=171) (.i .i64 _) (floorsT _) ?_|refine fin_s ?_))
 all_goals exact congrArg (Value.int .i64) (by unfold coV baV; simp [*])
end Et
namespace Gr
open Go.RowKit Ba Mem En Mo Go.Proofs.YtpiiblkiddcgcaaGreat.Ty Go.Proofs.YtpiiblkiddcgcaaGreat.St
open Ct (carA)
set_option maxRecDepth 100000
attribute [local irreducible] Go.Calls lvB
def idB (x:CarV):Bool:=decide (x.mo=0∧x.br=false∧lvB x.un=true∧x.ds=0∧x.wy=0∧cn x.sp+cn x.su+cn x.sd=0)
theorem idlT (x:CarV) (w:World) (hp:R x.sp) (hu:R x.su) (hd:R x.sd):Calls Tryz.prog 106 #[.agg (carA x)] w fun e w'=>e=.returned (.bool (idB x))∧Since w w':=by
 refine ent tab_ok [.a (sCar x)] Tryz.func106 Tryz.ntmps106 rfl rfl ?_
 repeat' (first | refine gs_ ?_|((conv=>whnf); first | intro b | refine b3_ (fun h=>?_) (fun h=>?_)|refine callS (f:=109) (.t [.i .i64 _,.b _]) (levelT _) ?_|refine callS (f:=172) (.i .i64 _) (countT _ _ _ hp hu hd) ?_|refine fin_s ?_))
 all_goals exact congrArg Value.bool (by unfold idB; simp_all <;> rfl)
end Gr
namespace Gr
open Go.RowKit Ba Mem Go.Proofs.YtpiiblkiddcgcaaGreat.Ty Mo Go.Proofs.YtpiiblkiddcgcaaGreat.St
open Ct (cfgA carA)
theorem wrG (x:Int) (h0 : -9223372036854775808≤x) (h1:x≤9223372036854775807):IntKind.i64.wrap x=x:=by
 simp only [IntKind.wrap,IntKind.bits,IntKind.signed]; simp; omega
structure WaitV where
 fl:Int
 wy:Int
 ca:Int
 si:Int
deriving DecidableEq
def waitL (a:WaitV):List Value:=[.int .i64 a.fl,.int .i64 a.wy,.int .i64 a.ca,.int .i64 a.si]
def waitA (a:WaitV):Array Value:=#[.int .i64 a.fl,.int .i64 a.wy,.int .i64 a.ca,.int .i64 a.si]
def carL (x:CarV):List Value:=[.int .i64 x.ds,.int .i64 x.da,.int .i64 x.un,.int .i64 x.wy,.int .i64 x.ti,.int .i64 x.ju,.int .i64 x.lo,.bool x.bl,.bool x.br,.int .i64 x.mo,.int .i64 x.ta,.bool x.ho,.int .u64 x.sp,.int .u64 x.su,.int .u64 x.sd]
theorem waitL_len (a:WaitV):(waitL a).length=4:=rfl
theorem carL_len (x:CarV):(carL x).length=15:=rfl
theorem waitL_one (a:WaitV):∀ u∈waitL a,u.oneCell'=true:=by
 intro u hu
 simp only [waitL,List.mem_cons,List.not_mem_nil,or_false] at hu
 rcases hu with rfl | rfl | rfl | rfl <;> rfl
theorem carL_one (x:CarV):∀ u∈carL x,u.oneCell'=true:=by
 intro u hu
 simp only [carL,List.mem_cons,List.not_mem_nil,or_false] at hu
 rcases hu with rfl | rfl | rfl | rfl | rfl | rfl | rfl | rfl | rfl | rfl | rfl | rfl | rfl | rfl | rfl <;> rfl
theorem waits_one (ls:List WaitV):∀ u∈rowsOf waitL ls,u.oneCell'=true:=rowsOf_one' waitL_one ls
theorem cars_one (ls:List CarV):∀ u∈rowsOf carL ls,u.oneCell'=true:=rowsOf_one' carL_one ls
structure GrV where
 c:CfgV
 cars:List CarV
 waits:List WaitV
 now:Int
def grpA (G:GrV) (v1 v2:Value):Array Value:=#[.int .i64 G.c.ca,.int .i64 G.c.fl,.int .i64 G.c.ft,.int .i64 G.c.se,.int .i64 G.c.dr,.int .i64 G.c.dw,.int .i64 G.c.ho,.int .i64 G.c.re,.int .i64 G.c.yi,.int .i64 G.c.qu,.int .i64 G.c.qo,.int .i64 G.c.lo,.int .i64 G.c.sl,.int .i64 G.c.rt,.int .i64 G.c.cp,.int .i64 G.c.tr,.int .i64 G.c.de,.int .i64 G.c.wi,v1,v2,.int .i64 G.now]
def CarsAt (lo:Nat) (A:Option Addr) (n c:Nat) (ls:List CarV) (w:World):Prop:=w.ownsRow lo 67 15 (.slice A n c) n (rowsOf carL ls)
def WaitsAt (lo:Nat) (A:Option Addr) (n c:Nat) (ls:List WaitV) (w:World):Prop:=w.ownsRow lo 76 4 (.slice A n c) n (rowsOf waitL ls)
def GO (lo q:Nat) (G:GrV) (S:List Nat) (w:World):Prop :=
 lo≤q∧∃ A1 c1 A2 c2,S=q::(blkOf A1++blkOf A2)∧Blk w q 70 (grpA G (.slice A1 G.cars.length c1) (.slice A2 G.waits.length c2)) ∧
  CarsAt lo A1 G.cars.length c1 G.cars w∧WaitsAt lo A2 G.waits.length c2 G.waits w
section
variable {w w':World} {lo q b:Nat} {G:GrV} {S T:List Nat}
theorem GO.upd (k:Upd T w w') (h:GO lo q G S w) (hT:∀ g∈S,g∉T):GO lo q G S w':=by
 obtain ⟨h0,A1,c1,A2,c2,rfl,B,O1,O2⟩:=h
 exact ⟨h0,A1,c1,A2,c2,rfl,k.blk B (hT _ (by simp)),k.own O1 (fun g hg=>hT g (by simp [hg])),k.own O2 (fun g hg=>hT g (by simp [hg]))⟩
theorem GO.low (h:GO lo q G S w):∀ g∈S,lo≤g:=by
 obtain ⟨h0,A1,c1,A2,c2,rfl,B,O1,O2⟩:=h
 intro g hg
 rcases List.mem_cons.1 hg with rfl | hg
 ·exact h0
 ·rcases List.mem_append.1 hg with hg | hg
  ·exact own_low O1 g hg
  ·exact own_low O2 g hg
theorem GO.lt (h:GO lo q G S w):∀ g∈S,g < w.heap.size:=by
 obtain ⟨h0,A1,c1,A2,c2,rfl,B,O1,O2⟩:=h
 intro g hg
 rcases List.mem_cons.1 hg with rfl | hg
 ·exact B.lt
 ·rcases List.mem_append.1 hg with hg | hg
  ·exact own_lt O1 g hg
  ·exact own_lt O2 g hg
theorem GO.base {lo':Nat} (h:GO lo q G S w) (hb:lo'≤lo):GO lo' q G S w:=by
 obtain ⟨h0,A1,c1,A2,c2,rfl,B,O1,O2⟩:=h
 exact ⟨by omega,A1,c1,A2,c2,rfl,B,own_base O1 hb,own_base O2 hb⟩
end
def GrV.car (G:GrV) (i:Nat) (x:CarV):GrV:={ G with cars:=G.cars.set i x }
end Gr
namespace Et
open Go.RowKit Ba Mem En Mo Go.Proofs.YtpiiblkiddcgcaaGreat.Ty Go.Proofs.YtpiiblkiddcgcaaGreat.St Gr
open Ct (cfgA carA)
set_option maxRecDepth 100000
attribute [local irreducible] Go.Calls lvB onB behB coV
def carsO (lo:Nat) (A:Option Addr) (n c:Nat) (ls:List CarV) (rw:Bool):Asr:=⟨blkOf A,rw,CarsAt lo A n c ls,fun k h hs=>k.own hs h,fun h=>own_lt h⟩
def blL (c:CfgV) (f cw:Int) (ls:List CarV):Nat→Int×Int
 | 0=>(-1,0)
 | k+1=>match ls[k]? with
  | none=>blL c f cw ls k
  | some x=>if (x.mo=0∧x.br=false)∧((blL c f cw ls k).1 < 0∨coV c x f cw < (blL c f cw ls k).2) then ((k:Int),coV c x f cw) else blL c f cw ls k
def inL (x:CarV):Prop:=(0≤x.un∧x.un≤252)∧R x.sp∧R x.su∧R x.sd
theorem car_rng {lo g n c i:Nat} {ls:List CarV} {w:World} (h:CarsAt lo (some ⟨g,0,none⟩) n c ls w) (hi:i < ls.length):w.rangeAt g (0+i*15) (carL ls[i]):=by
 obtain ⟨P,S,hP,hB,_⟩:=own_el carL_len h hi
 have:=el_part (P:=P) (S:=S) (cs:=(carL ls[i]).toArray) (j:=0) (n:=15) (l:=carL ls[i]) hP (by show List.take 15 (carL ls[i])=_; rw [List.take_of_length_le (by rw [carL_len]; exact Nat.le_refl _)]) (by simp [carL_len])
 exact range_of hB this (carL_len _)
theorem car_at {lo g n c k:Nat} {ls:List CarV} {w:World} {x:CarV} (h:CarsAt lo (some ⟨g,0,none⟩) n c ls w) (hx:ls[k]?=some x):w.rangeAt g (0+k*15) (carL x):=by
 obtain ⟨hi,rfl⟩:=List.getElem?_eq_some_iff.1 hx
 exact car_rng h hi
theorem bestT (c:CfgV) (f cw:Int) (lo:Nat) (A:Option Addr) (n cap:Nat) (ls:List CarV) (w:World) (h:CarsAt lo A n cap ls w) (hn:ls.length=n) (hl:n≤1000000) (hf:0≤f∧f≤63) (hin:∀ x∈ls,inL x) :
  Calls Tryz.prog 76 #[(aCfg c),.slice A n cap,.agg #[.int .i64 f,.int .i64 cw]] w fun e w'=>e=.returned (.int .i64 (blL c f cw ls n).1)∧Since w w':=by
 obtain ⟨g,hA⟩:∃ g,0 < n→A=some ⟨g,0,none⟩:=by
  rcases own_at h with ⟨_,h0,_⟩ | ⟨g,_,h1,_⟩
  ·exact ⟨0,fun k=>by omega⟩
  ·exact ⟨g,fun _=>h1⟩
 refine entH tab_ok (Hold.addObj (Hold.nil _ tab [] 41 w) (carsO lo A n cap ls false) h (by intro k; cases k) (by intro r hr; cases hr) (by intro A hA; cases hA)) [.a (sCfg c),.v (.slice A n cap),.a [.i .i64 f,.i .i64 cw]] Tryz.func76 Tryz.ntmps76 rfl rfl ?_
 repeat' (first | refine gs_ ?_|((conv=>whnf); first | intro b | refine b3_ (fun h=>?_) (fun h=>?_)|refine fin_s ?_))
 rename_i b0
 conv=>whnf
 refine lp ⟨tab_ok⟩ (ι:={k:Nat // k≤n}) (fun p=>match p with | ⟨k,_⟩=>⟨[(3,.p 0 0),(5,.p 1 0),(6,.i .i64 0),(7,.i .i64 (blL c f cw ls k).1),(8,.i .i64 (blL c f cw ls k).2),(12,.v (.slice A n cap)),(13,.i .i64 n),(14,.i .i64 (k:Int))],[⟨b0,23,true,0,[],(sCfg c),[],true⟩,⟨b,74,true,0,[],[.i .i64 f,.i .i64 cw],[],true⟩],[carsO lo A n cap ls false]⟩) (fun k=>n - k.1) ⟨0,Nat.zero_le _⟩ (wk ?_) ?_
 ·repeat' (first | exact trivial | rfl | ((conv=>whnf); refine And.intro ?_ ?_))
 rintro ⟨k,hk⟩
 by_cases hlt:k < n
 ·obtain ⟨x,hx⟩:∃ x,ls[k]?=some x:=⟨_,List.getElem?_eq_getElem (by omega)⟩
  obtain rfl:=hA (by omega)
  have hix:=hin x (List.mem_of_getElem? hx)
  repeat' (first | refine gs_ ?_|((conv=>whnf); first | intro b2 | refine bto ?_|refine bfo ?_|refine wr_i ?_|refine opiv ⟨tab_ok⟩ (by rfl) (by rfl) (by rfl) (by rfl) (by rfl) (by rfl) ⟨by omega,by omega⟩ ?_|refine opix (g:=g) (off:=0+k*15) (sCar x) (fun w hH=>car_at (hH.obj (carsO lo (some ⟨g,0,none⟩) n cap ls false) (List.mem_singleton.2 rfl)) hx) ⟨tab_ok⟩ (by rfl) (by rfl) (by show Addr.add ⟨g,0,none⟩ (k*15)=_; rw [Go.WideShapes.add_plain]) ?_|refine back ⟨k+1,by omega⟩ (wk ?_) ?_|refine b3_ (fun h=>?_) (fun h=>?_)|refine callS (f:=152) (.i .i64 _) (costT c x f cw hix.1.1 hix.1.2 hf.1 hf.2 hix.2.1 hix.2.2.1 hix.2.2.2) ?_|refine fin_s ?_))
  all_goals first | (show n - (k+1) < n - k; omega)|skip
  all_goals (repeat' (first | exact trivial | rfl | ((conv=>whnf); refine And.intro ?_ ?_)))
  all_goals (simp only [den,blL,hx])
  all_goals (simp [*]; done)
 ·repeat' (first | refine gs_ ?_|((conv=>whnf); first | intro b2 | refine bto ?_|refine bfo ?_|refine wr_i ?_|refine fin_s ?_))
  obtain rfl:k=n:=by omega
  rfl
end Et
namespace Gr
open Go.RowKit Ba Mem En Mo Go.Proofs.YtpiiblkiddcgcaaGreat.Ty Go.Proofs.YtpiiblkiddcgcaaGreat.St
open Ct (cfgA carA dwV m1)
set_option maxRecDepth 100000
attribute [local irreducible] Go.Calls lvB idB
def pressX (v:Int) (x:CarV):CarV:=if x.br=true∨x.mo=1 then x else { x with sp:=bits .or .u64 x.sp (bit v) }
def pressE (x:CarV):Int:=if x.br=true∨x.mo=1 then 7 else 0
def takeX (v:Int) (x:CarV):CarV:=if idB x=true then { x with mo:=1,ta:=v,ho:=true } else x
def takeE (x:CarV):Int:=if idB x=true then 0 else 7
def aimX (v:Int) (u:Bool) (x:CarV):CarV:=if x.mo=1 then { x with ta:=v,ho:=u } else x
def aimE (x:CarV):Int:=if x.mo=1 then 0 else 7
def givX (c:CfgV) (x:CarV):CarV:=if x.mo=1 then { x with mo:=0,ta:=0,ho:=false,ju := -1,ti:=dwV c.dw,wy:=if lvB x.un=true then 0 else x.wy } else x
theorem dwE (n:Int):(if 1000 < (if 1 > n then 1 else n) then 1000 else (if 1 > n then 1 else n))=dwV n:=by unfold dwV m1; rfl
section
variable (g off:Nat) (P S:List Value) (x:CarV) (cp cq:Nat) (w:World) (hb:Blk w g 67 (el P (carA x) S)) (hp:P.length=off)
include hb hp
theorem load1T (v:Int) (hcp:Blk w cp 3 #[.int .i64 v]):Calls Tryz.prog 101 #[.pointer (some ⟨g,off,none⟩),.pointer (some ⟨cp,0,none⟩)] w fun e w'=>e=.returned (.int .i64 0)∧Blk w' g 67 (el P (carA { x with lo:=v }) S)∧Upd [g] w w':=by
 refine entH tab_ok (hold_e1 (sCar x) (.i .i64 v) hb hp hcp (by decide) rfl rfl) [.p 0 0,.p 1 0] Tryz.func101 Tryz.ntmps101 rfl rfl ?_
 repeat' (first | refine gs_ ?_|((conv=>whnf); first | refine b3_ (fun h=>?_) (fun h=>?_)|refine fin_s ?_|refine fin_r ?_ ?_|refine fin_e ?_ ?_))
 all_goals rfl
theorem curt1T (v:Bool) (hcp:Blk w cp 4 #[.bool v]):Calls Tryz.prog 102 #[.pointer (some ⟨g,off,none⟩),.pointer (some ⟨cp,0,none⟩)] w fun e w'=>e=.returned (.int .i64 0)∧Blk w' g 67 (el P (carA { x with bl:=v }) S)∧Upd [g] w w':=by
 refine entH tab_ok (hold_e1 (sCar x) (.b v) hb hp hcp (by decide) rfl rfl) [.p 0 0,.p 1 0] Tryz.func102 Tryz.ntmps102 rfl rfl ?_
 repeat' (first | refine gs_ ?_|((conv=>whnf); first | refine b3_ (fun h=>?_) (fun h=>?_)|refine fin_s ?_|refine fin_r ?_ ?_|refine fin_e ?_ ?_))
 all_goals rfl
theorem press1T (v:Int) (hcp:Blk w cp 3 #[.int .i64 v]):Calls Tryz.prog 99 #[.pointer (some ⟨g,off,none⟩),.pointer (some ⟨cp,0,none⟩)] w fun e w'=>e=.returned (.int .i64 (pressE x))∧Blk w' g 67 (el P (carA (pressX v x)) S)∧Upd [g] w w':=by
 refine entH tab_ok (hold_e1 (sCar x) (.i .i64 v) hb hp hcp (by decide) rfl rfl) [.p 0 0,.p 1 0] Tryz.func99 Tryz.ntmps99 rfl rfl ?_
 repeat' (first | refine gs_ ?_|((conv=>whnf); first | refine b3_ (fun h=>?_) (fun h=>?_)|refine callS (f:=100) (.a [.i .u64 _,.i .u64 _,.i .u64 _]) (pressT _ _ _ _) ?_|refine fin_s ?_|refine fin_r ?_ ?_|refine fin_e ?_ ?_))
 all_goals first | rfl | (simp only [pressX,pressE]; split <;> first | rfl | (exfalso; simp_all; done))
theorem take1T (v:Int) (hcp:Blk w cp 3 #[.int .i64 v]) (hr:R x.sp∧R x.su∧R x.sd):Calls Tryz.prog 105 #[.pointer (some ⟨g,off,none⟩),.pointer (some ⟨cp,0,none⟩)] w fun e w'=>e=.returned (.int .i64 (takeE x))∧Blk w' g 67 (el P (carA (takeX v x)) S)∧Upd [g] w w':=by
 refine entH tab_ok (hold_e1 (sCar x) (.i .i64 v) hb hp hcp (by decide) rfl rfl) [.p 0 0,.p 1 0] Tryz.func105 Tryz.ntmps105 rfl rfl ?_
 repeat' (first | refine gs_ ?_|((conv=>whnf); first | refine b3_ (fun h=>?_) (fun h=>?_)|refine callS (f:=106) (.b _) (fun w=>idlT x w hr.1 hr.2.1 hr.2.2) ?_|refine fin_s ?_|refine fin_r ?_ ?_|refine fin_e ?_ ?_))
 all_goals first | rfl | (simp only [takeX,takeE]; split <;> first | rfl | (exfalso; simp_all; done))
theorem aim1T (v:Int) (u:Bool) (hcp:Blk w cp 3 #[.int .i64 v]) (hcq:Blk w cq 4 #[.bool u]):Calls Tryz.prog 107 #[.pointer (some ⟨g,off,none⟩),.pointer (some ⟨cp,0,none⟩),.pointer (some ⟨cq,0,none⟩)] w fun e w'=>e=.returned (.int .i64 (aimE x))∧Blk w' g 67 (el P (carA (aimX v u x)) S)∧Upd [g] w w':=by
 refine entH tab_ok (hold_e2 (sCar x) (.i .i64 v) (.b u) hb hp hcp hcq (by decide) (by decide) (by decide) rfl rfl rfl) [.p 0 0,.p 1 0,.p 2 0] Tryz.func107 Tryz.ntmps107 rfl rfl ?_
 repeat' (first | refine gs_ ?_|((conv=>whnf); first | refine b3_ (fun h=>?_) (fun h=>?_)|refine fin_s ?_|refine fin_r ?_ ?_|refine fin_e ?_ ?_))
 all_goals first | rfl | (simp only [aimX,aimE]; split <;> first | rfl | (exfalso; simp_all; done))
theorem give1T (q:Nat) (G:GrV) (v1 v2:Value) (hcp:Blk w cp 25 #[.pointer (some ⟨q,0,none⟩)]) (hq:Blk w q 70 (grpA G v1 v2)):Calls Tryz.prog 108 #[.pointer (some ⟨g,off,none⟩),.pointer (some ⟨cp,0,none⟩)] w fun e w'=>e=.returned (.int .i64 (aimE x))∧Blk w' g 67 (el P (carA (givX G.c x)) S)∧Upd [g] w w':=by
 refine entH tab_ok (Hold.addRow (Hold.addRow (hold_e0 (sCar x) hb hp rfl) ⟨q,70,true,0,[],[.i .i64 G.c.ca,.i .i64 G.c.fl,.i .i64 G.c.ft,.i .i64 G.c.se,.i .i64 G.c.dr,.i .i64 G.c.dw,.i .i64 G.c.ho,.i .i64 G.c.re,.i .i64 G.c.yi,.i .i64 G.c.qu,.i .i64 G.c.qo,.i .i64 G.c.lo,.i .i64 G.c.sl,.i .i64 G.c.rt,.i .i64 G.c.cp,.i .i64 G.c.tr,.i .i64 G.c.de,.i .i64 G.c.wi,.v v1,.v v2,.i .i64 G.now],[],false⟩ hq (by intro h; cases h) (by intro r hr _; rw [List.mem_singleton] at hr; subst hr; exact Blk.ne_ hb hq (by decide)) (by intro A hA; cases hA)) ⟨cp,25,true,0,[],[.p 1 0],[],false⟩ hcp (by intro h; cases h) (by intro r hr _; simp only [List.mem_append,List.mem_singleton] at hr; rcases hr with rfl | rfl <;> exact Blk.ne_ (by assumption) hcp (by decide)) (by intro A hA; cases hA)) [.p 0 0,.p 2 0] Tryz.func108 Tryz.ntmps108 rfl rfl ?_
 repeat' (first | refine gs_ ?_|((conv=>whnf); first | refine b3_ (fun h=>?_) (fun h=>?_)|refine callS (f:=109) (.t [.i .i64 _,.b _]) (levelT _) ?_|refine fin_s ?_|refine fin_r ?_ ?_|refine fin_e ?_ ?_))
 all_goals first | rfl | (simp only [givX,aimE, *,dwE,if_true,if_false,reduceIte,Bool.false_eq_true]; first | done | rfl)
end
end Gr
namespace Gr
open Go.RowKit Ba Mem En Mo Go.Proofs.YtpiiblkiddcgcaaGreat.Ty Go.Proofs.YtpiiblkiddcgcaaGreat.St
open Ct (cfgA carA)
set_option maxRecDepth 100000
attribute [local irreducible] Go.Calls
def hasF (c:CfgV) (f:Int):Bool:=decide (0≤f∧f < fl c.fl)
def hasC (c:CfgV) (f wy:Int):Bool:=if wy=1 then hasF c f && hasF c (f+1) else if wy=2 then hasF c f && hasF c (f - 1) else false
theorem hasF_rng {c:CfgV} {f:Int} (h:hasF c f=true):0≤f∧f≤63:=by
 have h1:0≤f∧f < fl c.fl:=of_decide_eq_true h
 have h2:fl c.fl≤64:=fl_hi c.fl
 omega
section
variable (q:Nat) (G:GrV) (v1 v2:Value) (w:World) (hq:Blk w q 70 (grpA G v1 v2))
include hq
theorem hasFT (f:Int):Calls Tryz.prog 98 #[.pointer (some ⟨q,0,none⟩),.int .i64 f] w fun e w'=>e=.returned (.bool (hasF G.c f))∧Since w w':=by
 refine entH tab_ok (hold_q (S:=[]) [.i .i64 G.c.ca,.i .i64 G.c.fl,.i .i64 G.c.ft,.i .i64 G.c.se,.i .i64 G.c.dr,.i .i64 G.c.dw,.i .i64 G.c.ho,.i .i64 G.c.re,.i .i64 G.c.yi,.i .i64 G.c.qu,.i .i64 G.c.qo,.i .i64 G.c.lo,.i .i64 G.c.sl,.i .i64 G.c.rt,.i .i64 G.c.cp,.i .i64 G.c.tr,.i .i64 G.c.de,.i .i64 G.c.wi,.v v1,.v v2,.i .i64 G.now] hq) [.p 0 0,.i .i64 f] Tryz.func98 Tryz.ntmps98 rfl rfl ?_
 repeat' (first | refine gs_ ?_|((conv=>whnf); first | refine b3_ (fun h=>?_) (fun h=>?_)|refine callS (f:=171) (.i .i64 _) (floorsT _) ?_|refine fin_s ?_))
 all_goals (unfold hasF; simp [den, *])
end
attribute [local irreducible] hasF
theorem hasCT (q:Nat) (G:GrV) (v1 v2:Value) (f wy:Int) (w:World) (hq:Blk w q 70 (grpA G v1 v2)):Calls Tryz.prog 97 #[.pointer (some ⟨q,0,none⟩),.agg #[.int .i64 f,.int .i64 wy]] w fun e w'=>e=.returned (.bool (hasC G.c f wy))∧Since w w':=by
 have hb:=fun h=>hasF_rng (c:=G.c) (f:=f) h
 unfold hasC
 cases hA:hasF G.c f with
 | false =>
  refine entH tab_ok (hold_q (S:=[]) [.i .i64 G.c.ca,.i .i64 G.c.fl,.i .i64 G.c.ft,.i .i64 G.c.se,.i .i64 G.c.dr,.i .i64 G.c.dw,.i .i64 G.c.ho,.i .i64 G.c.re,.i .i64 G.c.yi,.i .i64 G.c.qu,.i .i64 G.c.qo,.i .i64 G.c.lo,.i .i64 G.c.sl,.i .i64 G.c.rt,.i .i64 G.c.cp,.i .i64 G.c.tr,.i .i64 G.c.de,.i .i64 G.c.wi,.v v1,.v v2,.i .i64 G.now] hq) [.p 0 0,.a [.i .i64 f,.i .i64 wy]] Tryz.func97 Tryz.ntmps97 rfl rfl ?_
  repeat' (first | refine gs_ ?_|((conv=>whnf); first | intro b | refine b3_ (fun h=>?_) (fun h=>?_)|refine callH (f:=98) (.b (hasF G.c f)) (fun w hH=>hasFT q G v1 v2 w (hH.row 0 _ rfl rfl) f) ?_|refine fin_s ?_))
  all_goals (simp [den, *])
 | true =>
  have hb:=hasF_rng hA
  refine entH tab_ok (hold_q (S:=[]) [.i .i64 G.c.ca,.i .i64 G.c.fl,.i .i64 G.c.ft,.i .i64 G.c.se,.i .i64 G.c.dr,.i .i64 G.c.dw,.i .i64 G.c.ho,.i .i64 G.c.re,.i .i64 G.c.yi,.i .i64 G.c.qu,.i .i64 G.c.qo,.i .i64 G.c.lo,.i .i64 G.c.sl,.i .i64 G.c.rt,.i .i64 G.c.cp,.i .i64 G.c.tr,.i .i64 G.c.de,.i .i64 G.c.wi,.v v1,.v v2,.i .i64 G.now] hq) [.p 0 0,.a [.i .i64 f,.i .i64 wy]] Tryz.func97 Tryz.ntmps97 rfl rfl ?_
  repeat' (first | refine gs_ ?_|((conv=>whnf); first | intro b | refine wr_i ?_|refine b3_ (fun h=>?_) (fun h=>?_)|refine callH (f:=98) (.b (hasF G.c _)) (fun w hH=>hasFT q G v1 v2 w (hH.row 0 _ rfl rfl) _) ?_|refine fin_s ?_))
  all_goals (simp [den, *])
def isW (f wy:Int) (a:WaitV):Bool:=a.fl == f && a.wy == wy
theorem find1T (cp:Nat) (f wy:Int) (a:WaitV) (w:World) (hb:Blk w cp 74 #[.int .i64 f,.int .i64 wy]):Calls Tryz.prog 85 #[.agg (waitA a),.pointer (some ⟨cp,0,none⟩)] w fun e w'=>e=.returned (.bool (isW f wy a))∧Since w w':=by
 refine entH tab_ok (hold_q (S:=[]) [.i .i64 f,.i .i64 wy] hb) [.a [.i .i64 a.fl,.i .i64 a.wy,.i .i64 a.ca,.i .i64 a.si],.p 0 0] Tryz.func85 Tryz.ntmps85 rfl rfl ?_
 repeat' (first | refine gs_ ?_|((conv=>whnf); first | intro b | refine wr_i ?_|refine b3_ (fun h=>?_) (fun h=>?_)|refine fin_s ?_))
 all_goals (unfold isW; simp [den, *])
def oI (y:Option Nat):Int:=match y with | some k=>(k:Int)|none => -1
def atP (ls:List WaitV) (p:WaitV→Bool):Option Nat:=ls.findIdx? p
theorem atP_some {ls:List WaitV} {p:WaitV→Bool} {k:Nat} (h:atP ls p=some k):k < ls.length∧(∀ hk:k < ls.length,p ls[k]=true)∧∀ j,j < k→∀ hj:j < ls.length,p ls[j]=false:=by
 obtain ⟨hk,h1,h2⟩:=List.findIdx?_eq_some_iff_getElem.1 h
 exact ⟨hk,fun _=>h1,fun j hj _=>by have:=h2 j hj; simpa using this⟩
theorem atP_none {ls:List WaitV} {p:WaitV→Bool} (h:atP ls p=none):∀ j,∀ hj:j < ls.length,p ls[j]=false:=by
 intro j hj
 exact List.findIdx?_eq_none_iff.1 h ls[j] (List.getElem_mem hj)
def waitsO (lo:Nat) (A:Option Addr) (n c:Nat) (ls:List WaitV) (rw:Bool):Asr:=⟨blkOf A,rw,WaitsAt lo A n c ls,fun k h hs=>k.own hs h,fun h=>own_lt h⟩
theorem wait_at {lo g n c k:Nat} {ls:List WaitV} {w:World} {x:WaitV} (h:WaitsAt lo (some ⟨g,0,none⟩) n c ls w) (hx:ls[k]?=some x):w.rangeAt g (0+k*4) (waitL x):=by
 obtain ⟨hi,rfl⟩:=List.getElem?_eq_some_iff.1 hx
 obtain ⟨P,S,hP,hB,_⟩:=own_el waitL_len h hi
 have:=el_part (P:=P) (S:=S) (cs:=(waitL ls[k]).toArray) (j:=0) (n:=4) (l:=waitL ls[k]) hP (by show List.take 4 (waitL ls[k])=_; rw [List.take_of_length_le (by rw [waitL_len]; exact Nat.le_refl _)]) (by simp [waitL_len])
 exact range_of hB this (waitL_len _)
theorem indexT (lo:Nat) (A:Option Addr) (n c:Nat) (ls:List WaitV) (F:FuncId) (cp:Value) (p:WaitV→Bool) (w:World) (ho:WaitsAt lo A n c ls w) (hn:ls.length=n) (hl:n≤1000000) (hp:∀ (l:WaitV) (w1:World),Since w w1→Calls Tryz.prog F #[.agg (waitA l),cp] w1 fun e w2=>e=.returned (.bool (p l))∧Since w1 w2) (hcf:∀ (args:Array Value) (w1:World),(callFunc F args).run Tryz.prog w1=.ok (.enter F args) w1) :
  Calls Tryz.prog 84 #[.slice A n c,.func (.func F) #[] #[cp]] w fun e w'=>e=.returned (.int .i64 (oI (atP ls p)))∧Since w w':=by
 obtain ⟨g,hA⟩:∃ g,0 < n→A=some ⟨g,0,none⟩:=by
  rcases own_at ho with ⟨_,h0,_⟩ | ⟨g,_,h1,_⟩
  ·exact ⟨0,fun k=>by omega⟩
  ·exact ⟨g,fun _=>h1⟩
 refine entH tab_ok (Hold.addObj (Hold.nil _ tab [] _ w) (waitsO lo A n c ls false) ho (by intro k; cases k) (by intro r hr; cases hr) (by intro A hA; cases hA)) [.v (.slice A n c),.f F [.v cp]] Tryz.func84 Tryz.ntmps84 rfl rfl ?_
 repeat' (first | refine gs_ ?_|((conv=>whnf); first | intro b | refine b3_ (fun h=>?_) (fun h=>?_)|refine fin_s ?_))
 conv=>whnf
 refine lp ⟨tab_ok⟩ (ι:={k:Nat // k≤n∧∀ j,j < k→∀ hj:j < ls.length,p ls[j]=false}) (fun x=>match x with | ⟨k,_⟩=>⟨[(0,.v (.slice A n c)),(1,.f F [.v cp]),(4,.i .i64 0),(7,.i .i64 n),(8,.i .i64 (k:Int))],[],[waitsO lo A n c ls false]⟩) (fun x=>n - x.1) ⟨0,Nat.zero_le _,fun j hj=>by omega⟩ (wk ?_) ?_
 ·repeat' (first | exact trivial | rfl | ((conv=>whnf); refine And.intro ?_ ?_))
 rintro ⟨k,hk,hno⟩
 by_cases hlt:k < n
 ·obtain ⟨x,hx⟩:∃ x,ls[k]?=some x:=⟨_,List.getElem?_eq_getElem (by omega)⟩
  obtain ⟨hkl,hxe⟩:=List.getElem?_eq_some_iff.1 hx
  obtain rfl:=hA (by omega)
  cases hpx:p x with
  | true =>
   repeat' (first | refine gs_ ?_|((conv=>whnf); first | intro b2 | refine bto ?_|refine bfo ?_|refine wr_i ?_|refine opiv ⟨tab_ok⟩ (by rfl) (by rfl) (by rfl) (by rfl) (by rfl) (by rfl) ⟨by omega,by omega⟩ ?_|refine opix (g:=g) (off:=0+k*4) [.i .i64 x.fl,.i .i64 x.wy,.i .i64 x.ca,.i .i64 x.si] (fun w hH=>wait_at (hH.obj (waitsO lo (some ⟨g,0,none⟩) n c ls false) (List.mem_singleton.2 rfl)) hx) ⟨tab_ok⟩ (by rfl) (by rfl) (by show Addr.add ⟨g,0,none⟩ (k*4)=_; rw [Go.WideShapes.add_plain]) ?_|refine callHF hcf (.b (p x)) (fun w hH=>hp x w (hH.out rfl)) ?_|refine b3_ (fun h=>?_) (fun h=>?_)|refine fin_s ?_))
   have e:atP ls p=some k:=List.findIdx?_eq_some_iff_getElem.2 ⟨hkl,by rw [hxe]; exact hpx,fun j hj=>by simpa using hno j hj (by omega)⟩
   rw [e]; rfl
  | false =>
   repeat' (first | refine gs_ ?_|((conv=>whnf); first | intro b2 | refine bto ?_|refine bfo ?_|refine wr_i ?_|refine opiv ⟨tab_ok⟩ (by rfl) (by rfl) (by rfl) (by rfl) (by rfl) (by rfl) ⟨by omega,by omega⟩ ?_|refine opix (g:=g) (off:=0+k*4) [.i .i64 x.fl,.i .i64 x.wy,.i .i64 x.ca,.i .i64 x.si] (fun w hH=>wait_at (hH.obj (waitsO lo (some ⟨g,0,none⟩) n c ls false) (List.mem_singleton.2 rfl)) hx) ⟨tab_ok⟩ (by rfl) (by rfl) (by show Addr.add ⟨g,0,none⟩ (k*4)=_; rw [Go.WideShapes.add_plain]) ?_|refine callHF hcf (.b (p x)) (fun w hH=>hp x w (hH.out rfl)) ?_|refine b3_ (fun h=>?_) (fun h=>?_)|refine back ⟨k+1,by omega,fun j hj hjl=>(Nat.lt_succ_iff_lt_or_eq.1 hj).elim (fun h=>hno j h hjl) (fun h=>by subst h; rw [hxe]; exact hpx)⟩ (wk ?_) ?_|refine fin_s ?_))
   all_goals first | (show n - (k+1) < n - k; omega)|skip
   all_goals (repeat' (first | exact trivial | rfl | ((conv=>whnf); refine And.intro ?_ ?_)))
 ·repeat' (first | refine gs_ ?_|((conv=>whnf); first | intro b2 | refine bto ?_|refine bfo ?_|refine wr_i ?_|refine fin_s ?_))
  obtain rfl:k=n:=by omega
  have e:atP ls p=none:=List.findIdx?_eq_none_iff.2 fun x hx=>by
   obtain ⟨j,hj,rfl⟩:=List.mem_iff_getElem.1 hx
   exact hno j (by omega) hj
  rw [e]; rfl
theorem findT (lo q:Nat) (G:GrV) (v1:Value) (A2:Option Addr) (c2:Nat) (f wy:Int) (w:World) (hq:Blk w q 70 (grpA G v1 (.slice A2 G.waits.length c2))) (ho:WaitsAt lo A2 G.waits.length c2 G.waits w) (hl:G.waits.length≤1000000):Calls Tryz.prog 29 #[.pointer (some ⟨q,0,none⟩),.agg #[.int .i64 f,.int .i64 wy]] w fun e w'=>e=.returned (.int .i64 (oI (atP G.waits (isW f wy))))∧Since w w':=by
 refine entH tab_ok (Hold.addObj (hold_q (S:=[]) [.i .i64 G.c.ca,.i .i64 G.c.fl,.i .i64 G.c.ft,.i .i64 G.c.se,.i .i64 G.c.dr,.i .i64 G.c.dw,.i .i64 G.c.ho,.i .i64 G.c.re,.i .i64 G.c.yi,.i .i64 G.c.qu,.i .i64 G.c.qo,.i .i64 G.c.lo,.i .i64 G.c.sl,.i .i64 G.c.rt,.i .i64 G.c.cp,.i .i64 G.c.tr,.i .i64 G.c.de,.i .i64 G.c.wi,.v v1,.v (.slice A2 G.waits.length c2),.i .i64 G.now] hq) (waitsO lo A2 G.waits.length c2 G.waits false) ho (by intro k; cases k) (by intro r hr _; rw [List.mem_singleton] at hr; subst hr; exact own_ne_ty ho hq (by decide)) (by intro A hA; cases hA)) [.p 0 0,.a [.i .i64 f,.i .i64 wy]] Tryz.func29 Tryz.ntmps29 rfl rfl ?_
 repeat' (first | refine gs_ ?_|((conv=>whnf); first | intro b | refine b3_ (fun h=>?_) (fun h=>?_)|refine callH (f:=84) (.i .i64 (oI (atP G.waits (isW f wy)))) (fun w hH=>indexT lo A2 _ c2 G.waits 85 _ (isW f wy) w (hH.obj (waitsO lo A2 G.waits.length c2 G.waits false) (List.mem_singleton.2 rfl)) rfl hl (fun l w1 hs=>find1T _ f wy l w1 (keep_blk hs (hH.row 1 _ rfl rfl))) (entC (by kernel_rfl))) ?_|refine fin_s ?_))
 all_goals rfl
theorem change0 (q:Nat) (G:GrV) (A:Option Addr) (n c1:Nat) (v2:Value) (i:Int) (V:Value) (w:World) (hq:Blk w q 70 (grpA G (.slice A n c1) v2)) (hi:i < 0∨(n:Int)≤i):Calls Tryz.prog 77 #[.pointer (some ⟨q,0,none⟩),.int .i64 i,V] w fun e w'=>e=.returned (.int .i64 1)∧Since w w':=by
 refine entH tab_ok (hold_q (S:=[]) [.i .i64 G.c.ca,.i .i64 G.c.fl,.i .i64 G.c.ft,.i .i64 G.c.se,.i .i64 G.c.dr,.i .i64 G.c.dw,.i .i64 G.c.ho,.i .i64 G.c.re,.i .i64 G.c.yi,.i .i64 G.c.qu,.i .i64 G.c.qo,.i .i64 G.c.lo,.i .i64 G.c.sl,.i .i64 G.c.rt,.i .i64 G.c.cp,.i .i64 G.c.tr,.i .i64 G.c.de,.i .i64 G.c.wi,.v (.slice A n c1),.v v2,.i .i64 G.now] hq) [.p 0 0,.i .i64 i,.v V] Tryz.func77 Tryz.ntmps77 rfl rfl ?_
 repeat' (first | refine gs_ ?_|((conv=>whnf); first | intro b | refine bto ?_|refine bfo ?_|refine b3_ (fun h=>?_) (fun h=>?_)|refine fin_s ?_))
 all_goals rfl
theorem change1 (q g:Nat) (G:GrV) (n c1:Nat) (v2:Value) (i:Int) (k:Nat) (F:FuncId) (p0:Value) (r:Int) (O B:Asr) (w:World) (hq:Blk w q 70 (grpA G (.slice (some ⟨g,0,none⟩) n c1) v2)) (hO:O.st w) (hqO:q∉O.F) (hi:i=(k:Int)) (hk:k < n) (h1:O.rw=true) (h2:B.rw=true) (hcf:∀ (args:Array Value) (w1:World),(callFunc F args).run Tryz.prog w1=.ok (.enter F args) w1)
  (hf:∀ w1,Upd O.F w w1→O.st w1→Calls Tryz.prog F #[.pointer (some ⟨g,0+k*15,none⟩),p0] w1 fun e w'=>e=.returned (.int .i64 r)∧B.st w'∧Upd O.F w1 w'∧∀ g∈B.F,g∈O.F∨w1.heap.size≤g) :
  Calls Tryz.prog 77 #[.pointer (some ⟨q,0,none⟩),.int .i64 i,.func (.func F) #[] #[p0]] w fun e w'=>e=.returned (.int .i64 r)∧B.st w'∧Upd O.F w w'∧∀ g∈B.F,g∈O.F∨w.heap.size≤g:=by
 subst hi
 refine entH tab_ok (Hold.addObj (hold_q (S:=O.F) [.i .i64 G.c.ca,.i .i64 G.c.fl,.i .i64 G.c.ft,.i .i64 G.c.se,.i .i64 G.c.dr,.i .i64 G.c.dw,.i .i64 G.c.ho,.i .i64 G.c.re,.i .i64 G.c.yi,.i .i64 G.c.qu,.i .i64 G.c.qo,.i .i64 G.c.lo,.i .i64 G.c.sl,.i .i64 G.c.rt,.i .i64 G.c.cp,.i .i64 G.c.tr,.i .i64 G.c.de,.i .i64 G.c.wi,.v (.slice (some ⟨g,0,none⟩) n c1),.v v2,.i .i64 G.now] hq) O hO (fun _ g hg=>.inl hg) (by intro r hr _; rw [List.mem_singleton] at hr; subst hr; exact hqO) (by intro A hA; cases hA)) [.p 0 0,.i .i64 (k:Int),.f F [.v p0]] Tryz.func77 Tryz.ntmps77 rfl rfl ?_
 repeat' (first | refine gs_ ?_|((conv=>whnf); first | intro b | refine bto ?_|refine bfo ?_|refine b3_ (fun h=>?_) (fun h=>?_)|refine opiv ⟨tab_ok⟩ (by rfl) (by rfl) (by rfl) (by rfl) (by rfl) (by rfl) ⟨by omega,by omega⟩ ?_|refine callOF hcf 0 (.i .i64 r) B (fun w1 hH hw=>by have:=hf w1 hH.upd hw; rwa [show (⟨g,0+k*15,none⟩:Addr)=Addr.add ⟨g,0,none⟩ (k*15) by rw [Go.WideShapes.add_plain]] at this) ?_ (by rfl) h1 | refine fin fun w' hH=>⟨rfl,hH.obj B (List.mem_singleton.2 rfl),hH.upd,hH.own B (List.mem_singleton.2 rfl) h2⟩|refine fin_s ?_))
theorem change2 (q g:Nat) (G:GrV) (n c1:Nat) (v2:Value) (i:Int) (k:Nat) (F:FuncId) (p0 p1:Value) (r:Int) (O B:Asr) (w:World) (hq:Blk w q 70 (grpA G (.slice (some ⟨g,0,none⟩) n c1) v2)) (hO:O.st w) (hqO:q∉O.F) (hi:i=(k:Int)) (hk:k < n) (h1:O.rw=true) (h2:B.rw=true) (hcf:∀ (args:Array Value) (w1:World),(callFunc F args).run Tryz.prog w1=.ok (.enter F args) w1)
  (hf:∀ w1,Upd O.F w w1→O.st w1→Calls Tryz.prog F #[.pointer (some ⟨g,0+k*15,none⟩),p0,p1] w1 fun e w'=>e=.returned (.int .i64 r)∧B.st w'∧Upd O.F w1 w'∧∀ g∈B.F,g∈O.F∨w1.heap.size≤g) :
  Calls Tryz.prog 77 #[.pointer (some ⟨q,0,none⟩),.int .i64 i,.func (.func F) #[] #[p0,p1]] w fun e w'=>e=.returned (.int .i64 r)∧B.st w'∧Upd O.F w w'∧∀ g∈B.F,g∈O.F∨w.heap.size≤g:=by
 subst hi
 refine entH tab_ok (Hold.addObj (hold_q (S:=O.F) [.i .i64 G.c.ca,.i .i64 G.c.fl,.i .i64 G.c.ft,.i .i64 G.c.se,.i .i64 G.c.dr,.i .i64 G.c.dw,.i .i64 G.c.ho,.i .i64 G.c.re,.i .i64 G.c.yi,.i .i64 G.c.qu,.i .i64 G.c.qo,.i .i64 G.c.lo,.i .i64 G.c.sl,.i .i64 G.c.rt,.i .i64 G.c.cp,.i .i64 G.c.tr,.i .i64 G.c.de,.i .i64 G.c.wi,.v (.slice (some ⟨g,0,none⟩) n c1),.v v2,.i .i64 G.now] hq) O hO (fun _ g hg=>.inl hg) (by intro r hr _; rw [List.mem_singleton] at hr; subst hr; exact hqO) (by intro A hA; cases hA)) [.p 0 0,.i .i64 (k:Int),.f F [.v p0,.v p1]] Tryz.func77 Tryz.ntmps77 rfl rfl ?_
 repeat' (first | refine gs_ ?_|((conv=>whnf); first | intro b | refine bto ?_|refine bfo ?_|refine b3_ (fun h=>?_) (fun h=>?_)|refine opiv ⟨tab_ok⟩ (by rfl) (by rfl) (by rfl) (by rfl) (by rfl) (by rfl) ⟨by omega,by omega⟩ ?_|refine callOF hcf 0 (.i .i64 r) B (fun w1 hH hw=>by have:=hf w1 hH.upd hw; rwa [show (⟨g,0+k*15,none⟩:Addr)=Addr.add ⟨g,0,none⟩ (k*15) by rw [Go.WideShapes.add_plain]] at this) ?_ (by rfl) h1 | refine fin fun w' hH=>⟨rfl,hH.obj B (List.mem_singleton.2 rfl),hH.upd,hH.own B (List.mem_singleton.2 rfl) h2⟩|refine fin_s ?_))
theorem change3 (q g:Nat) (G:GrV) (n c1:Nat) (v2:Value) (i:Int) (k:Nat) (F:FuncId) (p0 p1 p2:Value) (r:Int) (O B:Asr) (w:World) (hq:Blk w q 70 (grpA G (.slice (some ⟨g,0,none⟩) n c1) v2)) (hO:O.st w) (hqO:q∉O.F) (hi:i=(k:Int)) (hk:k < n) (h1:O.rw=true) (h2:B.rw=true) (hcf:∀ (args:Array Value) (w1:World),(callFunc F args).run Tryz.prog w1=.ok (.enter F args) w1)
  (hf:∀ w1,Upd O.F w w1→O.st w1→Calls Tryz.prog F #[.pointer (some ⟨g,0+k*15,none⟩),p0,p1,p2] w1 fun e w'=>e=.returned (.int .i64 r)∧B.st w'∧Upd O.F w1 w'∧∀ g∈B.F,g∈O.F∨w1.heap.size≤g) :
  Calls Tryz.prog 77 #[.pointer (some ⟨q,0,none⟩),.int .i64 i,.func (.func F) #[] #[p0,p1,p2]] w fun e w'=>e=.returned (.int .i64 r)∧B.st w'∧Upd O.F w w'∧∀ g∈B.F,g∈O.F∨w.heap.size≤g:=by
 subst hi
 refine entH tab_ok (Hold.addObj (hold_q (S:=O.F) [.i .i64 G.c.ca,.i .i64 G.c.fl,.i .i64 G.c.ft,.i .i64 G.c.se,.i .i64 G.c.dr,.i .i64 G.c.dw,.i .i64 G.c.ho,.i .i64 G.c.re,.i .i64 G.c.yi,.i .i64 G.c.qu,.i .i64 G.c.qo,.i .i64 G.c.lo,.i .i64 G.c.sl,.i .i64 G.c.rt,.i .i64 G.c.cp,.i .i64 G.c.tr,.i .i64 G.c.de,.i .i64 G.c.wi,.v (.slice (some ⟨g,0,none⟩) n c1),.v v2,.i .i64 G.now] hq) O hO (fun _ g hg=>.inl hg) (by intro r hr _; rw [List.mem_singleton] at hr; subst hr; exact hqO) (by intro A hA; cases hA)) [.p 0 0,.i .i64 (k:Int),.f F [.v p0,.v p1,.v p2]] Tryz.func77 Tryz.ntmps77 rfl rfl ?_
 repeat' (first | refine gs_ ?_|((conv=>whnf); first | intro b | refine bto ?_|refine bfo ?_|refine b3_ (fun h=>?_) (fun h=>?_)|refine opiv ⟨tab_ok⟩ (by rfl) (by rfl) (by rfl) (by rfl) (by rfl) (by rfl) ⟨by omega,by omega⟩ ?_|refine callOF hcf 0 (.i .i64 r) B (fun w1 hH hw=>by have:=hf w1 hH.upd hw; rwa [show (⟨g,0+k*15,none⟩:Addr)=Addr.add ⟨g,0,none⟩ (k*15) by rw [Go.WideShapes.add_plain]] at this) ?_ (by rfl) h1 | refine fin fun w' hH=>⟨rfl,hH.obj B (List.mem_singleton.2 rfl),hH.upd,hH.own B (List.mem_singleton.2 rfl) h2⟩|refine fin_s ?_))
end Gr
namespace Gr
open Go.RowKit Ba Mem En Mo Go.Proofs.YtpiiblkiddcgcaaGreat.Ty Go.Proofs.YtpiiblkiddcgcaaGreat.St
open Ct (cfgA carA)
open Et (carsO)
set_option maxRecDepth 100000
attribute [local irreducible] Go.Calls hasF lvB idB
def one (G:GrV) (i:Int) (f:CarV→CarV×Int):GrV×Int :=
 if h:0≤i∧i.toNat < G.cars.length then (G.car i.toNat (f (G.cars[i.toNat]'h.2)).1,(f (G.cars[i.toNat]'h.2)).2) else (G,1)
theorem one_in {G:GrV} {k:Nat} {f:CarV→CarV×Int} (hk:k < G.cars.length):one G (k:Int) f=(G.car k (f G.cars[k]).1,(f G.cars[k]).2):=dif_pos ⟨by omega,by simpa using hk⟩
theorem one_out {G:GrV} {i:Int} {f:CarV→CarV×Int} (h:i < 0∨(G.cars.length:Int)≤i):one G i f=(G,1):=dif_neg (by omega)
abbrev goM (q:Nat) (G:GrV) (A1:Option Addr) (n1 c1:Nat) (A2:Option Addr) (n2 c2:Nat):List Row:=[⟨q,70,true,0,[],[.i .i64 G.c.ca,.i .i64 G.c.fl,.i .i64 G.c.ft,.i .i64 G.c.se,.i .i64 G.c.dr,.i .i64 G.c.dw,.i .i64 G.c.ho,.i .i64 G.c.re,.i .i64 G.c.yi,.i .i64 G.c.qu,.i .i64 G.c.qo,.i .i64 G.c.lo,.i .i64 G.c.sl,.i .i64 G.c.rt,.i .i64 G.c.cp,.i .i64 G.c.tr,.i .i64 G.c.de,.i .i64 G.c.wi,.v (.slice A1 n1 c1),.v (.slice A2 n2 c2),.i .i64 G.now],[],true⟩]
theorem hold_go {lo q n:Nat} {G:GrV} {S:List Nat} {w:World} (hg:GO lo q G S w):∃ A1 c1 A2 c2,lo≤q∧S=q::(blkOf A1++blkOf A2)∧Hold ⟨Tryz.prog,tab,S,w,n,[]⟩ (goM q G A1 G.cars.length c1 A2 G.waits.length c2) [carsO lo A1 G.cars.length c1 G.cars true,waitsO lo A2 G.waits.length c2 G.waits true] w:=by
 obtain ⟨h0,A1,c1,A2,c2,rfl,B,O1,O2⟩:=hg
 refine ⟨A1,c1,A2,c2,h0,rfl, ?_⟩
 have hq1:q∉blkOf A1:=own_ne_ty O1 B (by decide)
 have hq2:q∉blkOf A2:=own_ne_ty O2 B (by decide)
 refine Hold.addObj (Hold.addObj (Hold.addRow (m:=[]) (Hold.nil _ tab _ n w) ⟨q,70,true,0,[],[.i .i64 G.c.ca,.i .i64 G.c.fl,.i .i64 G.c.ft,.i .i64 G.c.se,.i .i64 G.c.dr,.i .i64 G.c.dw,.i .i64 G.c.ho,.i .i64 G.c.re,.i .i64 G.c.yi,.i .i64 G.c.qu,.i .i64 G.c.qo,.i .i64 G.c.lo,.i .i64 G.c.sl,.i .i64 G.c.rt,.i .i64 G.c.cp,.i .i64 G.c.tr,.i .i64 G.c.de,.i .i64 G.c.wi,.v (.slice A1 G.cars.length c1),.v (.slice A2 G.waits.length c2),.i .i64 G.now],[],true⟩ B (fun _=>.inl (by simp)) (by intro q hq; cases hq) (by intro A hA; cases hA)) (carsO lo A1 G.cars.length c1 G.cars true) O1 (fun _ g hg=>.inl (List.mem_cons_of_mem _ (List.mem_append.2 (.inl hg)))) (by intro r hr _; simp only [List.nil_append,List.mem_singleton] at hr; subst hr; exact hq1) (by intro A hA; cases hA))
  (waitsO lo A2 G.waits.length c2 G.waits true) O2 (fun _ g hg=>.inl (List.mem_cons_of_mem _ (List.mem_append.2 (.inr hg)))) (by intro r hr _; simp only [List.nil_append,List.mem_singleton] at hr; subst hr; exact hq2) ?_
 intro A hA
 simp only [List.nil_append,List.mem_singleton] at hA
 subst hA
 intro _ g hg hg2
 rcases own_at O1 with ⟨h,_⟩ | ⟨g1,cur,h,_,B1,_⟩
 ·subst h; cases hg
 ·subst h
  have:g=g1:=by simpa [blkOf,carsO] using hg
  subst this
  exact own_ne_ty O2 B1 (by decide) hg2
theorem fin_go {lo q n n1 n2 c1 c2:Nat} {G:GrV} {A1 A2:Option Addr} {S:List Nat} {w:World} {V:Value} {v:SV} {fr:List (Nat×SV)} {cs:List SV} {ls:List CarV} {ws:List WaitV} {rest:List Row} {obr:List Asr} {st:St}
  (hst:st=⟨fr,⟨q,70,true,0,[],cs,[],true⟩::rest,carsO lo A1 n1 c1 ls true::waitsO lo A2 n2 c2 ws true::obr⟩)
  (hv:∀ m,den m v=V) (h0:lo≤q) (hS:S=q::(blkOf A1++blkOf A2)) (h1:n1=G.cars.length) (h2:n2=G.waits.length) (h3:ls=G.cars) (h4:ws=G.waits) (hcs:∀ m,(denL m cs).toArray=grpA G (.slice A1 n1 c1) (.slice A2 n2 c2)) :
  Fin ⟨Tryz.prog,tab,S,w,n,[]⟩ (fun e w'=>e=.returned V∧∃ S',GO lo q G S' w'∧Upd S w w'∧∀ g∈S',g∈S∨w.heap.size≤g) v st:=by
 subst hst h1 h2 h3 h4 hS
 refine fin fun w' hH=>⟨by rw [hv],_,⟨h0,A1,c1,A2,c2,rfl, ?_,hH.obj _ (List.mem_cons_self ..),hH.obj (waitsO lo A2 _ c2 _ true) (List.mem_cons_of_mem _ (List.mem_cons_self ..))⟩,hH.upd,fun g hg=>.inl hg⟩
 have:=hH.row 0 _ rfl rfl
 rw [rowA_nil rfl rfl] at this
 rw [← hcs]; exact this
theorem car_lift {lo g n c k:Nat} {ls:List CarV} {F:FuncId} {args:Array Value} {r:Int} {w:World} {y:CarV} (h:CarsAt lo (some ⟨g,0,none⟩) n c ls w) (hk:k < ls.length)
  (hf:∀ P S,P.length=0+k*15→Blk w g 67 (el P (carA ls[k]) S)→Calls Tryz.prog F args w fun e w'=>e=.returned (.int .i64 r)∧Blk w' g 67 (el P (carA y) S)∧Upd [g] w w') :
  Calls Tryz.prog F args w fun e w'=>e=.returned (.int .i64 r)∧(carsO lo (some ⟨g,0,none⟩) n c (ls.set k y) true).st w'∧Upd (blkOf (some ⟨g,0,none⟩)) w w'∧∀ j∈blkOf (some ⟨g,0,none⟩),j∈blkOf (some ⟨g,0,none⟩)∨w.heap.size≤j:=by
 obtain ⟨P,S,hP,hB,hback⟩:=own_el carL_len h hk
 refine (hf P S hP hB).mono ?_
 rintro e w' ⟨rfl,hb,hu⟩
 exact ⟨rfl,hback y w' hb,hu,fun _ h=>.inl h⟩
theorem chg1 {lo q g n c1 k:Nat} {G:GrV} {v2:Value} {i:Int} {F:FuncId} {p0:Value} {r:Int} {y:CarV} {ls:List CarV} {w:World} (hq:Blk w q 70 (grpA G (.slice (some ⟨g,0,none⟩) n c1) v2)) (hA:(carsO lo (some ⟨g,0,none⟩) n c1 ls true).st w) (hqO:q∉blkOf (some ⟨g,0,none⟩)) (hi:i=(k:Int)) (hk:k < ls.length) (hn:ls.length=n) (he:entChk Tryz.prog F=true)
  (hf:∀ w1 P S,Upd (blkOf (some ⟨g,0,none⟩)) w w1→P.length=0+k*15→Blk w1 g 67 (el P (carA ls[k]) S)→Calls Tryz.prog F #[.pointer (some ⟨g,0+k*15,none⟩),p0] w1 fun e w'=>e=.returned (.int .i64 r)∧Blk w' g 67 (el P (carA y) S)∧Upd [g] w1 w') :
  Calls Tryz.prog 77 #[.pointer (some ⟨q,0,none⟩),.int .i64 i,.func (.func F) #[] #[p0]] w fun e w'=>∃ _:Unit,e=.returned (.int .i64 r)∧(carsO lo (some ⟨g,0,none⟩) n c1 (ls.set k y) true).st w'∧Upd (blkOf (some ⟨g,0,none⟩)) w w'∧∀ j∈blkOf (some ⟨g,0,none⟩),j∈blkOf (some ⟨g,0,none⟩)∨w.heap.size≤j :=
 (change1 q g G n c1 v2 i k F p0 r (carsO lo (some ⟨g,0,none⟩) n c1 ls true) (carsO lo (some ⟨g,0,none⟩) n c1 (ls.set k y) true) w hq hA hqO hi (by omega) rfl rfl (entC he) (fun w1 hu hO=>car_lift hO hk (fun P S hP hB=>hf w1 P S hu hP hB))).mono (fun e w' h=>⟨(),h⟩)
theorem chg2 {lo q g n c1 k:Nat} {G:GrV} {v2:Value} {i:Int} {F:FuncId} {p0 p1:Value} {r:Int} {y:CarV} {ls:List CarV} {w:World} (hq:Blk w q 70 (grpA G (.slice (some ⟨g,0,none⟩) n c1) v2)) (hA:(carsO lo (some ⟨g,0,none⟩) n c1 ls true).st w) (hqO:q∉blkOf (some ⟨g,0,none⟩)) (hi:i=(k:Int)) (hk:k < ls.length) (hn:ls.length=n) (he:entChk Tryz.prog F=true)
  (hf:∀ w1 P S,Upd (blkOf (some ⟨g,0,none⟩)) w w1→P.length=0+k*15→Blk w1 g 67 (el P (carA ls[k]) S)→Calls Tryz.prog F #[.pointer (some ⟨g,0+k*15,none⟩),p0,p1] w1 fun e w'=>e=.returned (.int .i64 r)∧Blk w' g 67 (el P (carA y) S)∧Upd [g] w1 w') :
  Calls Tryz.prog 77 #[.pointer (some ⟨q,0,none⟩),.int .i64 i,.func (.func F) #[] #[p0,p1]] w fun e w'=>∃ _:Unit,e=.returned (.int .i64 r)∧(carsO lo (some ⟨g,0,none⟩) n c1 (ls.set k y) true).st w'∧Upd (blkOf (some ⟨g,0,none⟩)) w w'∧∀ j∈blkOf (some ⟨g,0,none⟩),j∈blkOf (some ⟨g,0,none⟩)∨w.heap.size≤j :=
 (change2 q g G n c1 v2 i k F p0 p1 r (carsO lo (some ⟨g,0,none⟩) n c1 ls true) (carsO lo (some ⟨g,0,none⟩) n c1 (ls.set k y) true) w hq hA hqO hi (by omega) rfl rfl (entC he) (fun w1 hu hO=>car_lift hO hk (fun P S hP hB=>hf w1 P S hu hP hB))).mono (fun e w' h=>⟨(),h⟩)
def loadR (G:GrV) (i v:Int):GrV×Int:=one G i (fun x=>({ x with lo:=v },0))
def curtR (G:GrV) (i:Int) (y:Bool):GrV×Int:=one G i (fun x=>({ x with bl:=y },0))
def pressR (G:GrV) (i v:Int):GrV×Int:=if hasF G.c v=true then one G i (fun x=>(pressX v x,pressE x)) else (G,1)
def takeR (G:GrV) (i v:Int):GrV×Int:=if hasF G.c v=true then one G i (fun x=>(takeX v x,takeE x)) else (G,1)
def aimR (G:GrV) (i v:Int) (y:Bool):GrV×Int:=if hasF G.c v=true then one G i (fun x=>(aimX v y x,aimE x)) else (G,1)
def giveR (G:GrV) (i:Int):GrV×Int:=one G i (fun x=>(givX G.c x,aimE x))
section
variable {lo q:Nat} {G:GrV} {S:List Nat} {w:World}
theorem loadG (hg:GO lo q G S w) (i v:Int):Calls Tryz.prog 38 #[.pointer (some ⟨q,0,none⟩),.int .i64 i,.int .i64 v] w fun e w'=>e=.returned (.int .i64 (loadR G i v).2)∧∃ S',GO lo q (loadR G i v).1 S' w'∧Upd S w w'∧∀ g∈S',g∈S∨w.heap.size≤g:=by
 unfold loadR
 obtain ⟨A1,c1,A2,c2,h0,hS,hH⟩:=hold_go (n:=_) hg
 by_cases hi:i < 0∨(G.cars.length:Int)≤i
 ·rw [one_out hi]
  refine entH tab_ok (hH) [.p 0 0,.i .i64 _,.i .i64 v] Tryz.func38 Tryz.ntmps38 rfl rfl ?_
  repeat' (first | refine gs_ ?_|((conv=>whnf); first | intro b | refine b3_ (fun h=>?_) (fun h=>?_)|refine callH (f:=77) (.i .i64 1) (fun w hH=>change0 q G A1 _ c1 _ i _ w (hH.row 0 _ rfl rfl) hi) ?_|refine fin_go (by rfl) (by intro m; rfl) h0 hS (by first | rfl | simp [GrV.car,List.length_set]) (by rfl) (by rfl) (by rfl) (by intro m; rfl)|refine fin_s ?_))
 ·obtain ⟨k,rfl⟩:∃ k:Nat,i=(k:Int):=⟨i.toNat,by omega⟩
  have hk:k < G.cars.length:=by omega
  rw [one_in hk]
  obtain ⟨g,rfl⟩:=own_addr (hH.obj (carsO lo A1 _ c1 _ true) (List.mem_cons_self ..)) (by omega)
  refine entH tab_ok (hH) [.p 0 0,.i .i64 _,.i .i64 v] Tryz.func38 Tryz.ntmps38 rfl rfl ?_
  repeat' (first | refine gs_ ?_|((conv=>whnf); first | intro b | refine b3_ (fun h=>?_) (fun h=>?_)|refine callO 0 (fun _:Unit=>.i .i64 (0)) (fun _=>carsO lo (some ⟨g,0,none⟩) _ c1 (G.cars.set k ({ G.cars[k] with lo:=v })) true) (fun w hH hA=>chg1 (hH.row 0 _ rfl rfl) hA (hH.far _ (List.mem_cons_self ..) 0 _ rfl rfl) rfl hk rfl (by kernel_rfl) (fun w1 P S hu hP hB=>load1T g _ P S _ _ w1 hB hP v (hu.blk (hH.row 1 _ rfl rfl) (hH.far _ (List.mem_cons_self ..) 1 _ rfl rfl)))) (fun _=>?_)|refine fin_go (by rfl) (by intro m; rfl) (G:=G.car k ({ G.cars[k] with lo:=v })) h0 hS (by first | rfl | simp [GrV.car,List.length_set]) (by rfl) (by rfl) (by rfl) (by intro m; rfl)|refine fin_s ?_))
theorem curtG (hg:GO lo q G S w) (i:Int) (v:Bool):Calls Tryz.prog 39 #[.pointer (some ⟨q,0,none⟩),.int .i64 i,.bool v] w fun e w'=>e=.returned (.int .i64 (curtR G i v).2)∧∃ S',GO lo q (curtR G i v).1 S' w'∧Upd S w w'∧∀ g∈S',g∈S∨w.heap.size≤g:=by
 unfold curtR
 obtain ⟨A1,c1,A2,c2,h0,hS,hH⟩:=hold_go (n:=_) hg
 by_cases hi:i < 0∨(G.cars.length:Int)≤i
 ·rw [one_out hi]
  refine entH tab_ok (hH) [.p 0 0,.i .i64 _,.b v] Tryz.func39 Tryz.ntmps39 rfl rfl ?_
  repeat' (first | refine gs_ ?_|((conv=>whnf); first | intro b | refine b3_ (fun h=>?_) (fun h=>?_)|refine callH (f:=77) (.i .i64 1) (fun w hH=>change0 q G A1 _ c1 _ i _ w (hH.row 0 _ rfl rfl) hi) ?_|refine fin_go (by rfl) (by intro m; rfl) h0 hS (by first | rfl | simp [GrV.car,List.length_set]) (by rfl) (by rfl) (by rfl) (by intro m; rfl)|refine fin_s ?_))
 ·obtain ⟨k,rfl⟩:∃ k:Nat,i=(k:Int):=⟨i.toNat,by omega⟩
  have hk:k < G.cars.length:=by omega
  rw [one_in hk]
  obtain ⟨g,rfl⟩:=own_addr (hH.obj (carsO lo A1 _ c1 _ true) (List.mem_cons_self ..)) (by omega)
  refine entH tab_ok (hH) [.p 0 0,.i .i64 _,.b v] Tryz.func39 Tryz.ntmps39 rfl rfl ?_
  repeat' (first | refine gs_ ?_|((conv=>whnf); first | intro b | refine b3_ (fun h=>?_) (fun h=>?_)|refine callO 0 (fun _:Unit=>.i .i64 (0)) (fun _=>carsO lo (some ⟨g,0,none⟩) _ c1 (G.cars.set k ({ G.cars[k] with bl:=v })) true) (fun w hH hA=>chg1 (hH.row 0 _ rfl rfl) hA (hH.far _ (List.mem_cons_self ..) 0 _ rfl rfl) rfl hk rfl (by kernel_rfl) (fun w1 P S hu hP hB=>curt1T g _ P S _ _ w1 hB hP v (hu.blk (hH.row 1 _ rfl rfl) (hH.far _ (List.mem_cons_self ..) 1 _ rfl rfl)))) (fun _=>?_)|refine fin_go (by rfl) (by intro m; rfl) (G:=G.car k ({ G.cars[k] with bl:=v })) h0 hS (by first | rfl | simp [GrV.car,List.length_set]) (by rfl) (by rfl) (by rfl) (by intro m; rfl)|refine fin_s ?_))
theorem pressG (hg:GO lo q G S w) (i v:Int):Calls Tryz.prog 37 #[.pointer (some ⟨q,0,none⟩),.int .i64 i,.int .i64 v] w fun e w'=>e=.returned (.int .i64 (pressR G i v).2)∧∃ S',GO lo q (pressR G i v).1 S' w'∧Upd S w w'∧∀ g∈S',g∈S∨w.heap.size≤g:=by
 unfold pressR
 obtain ⟨A1,c1,A2,c2,h0,hS,hH⟩:=hold_go (n:=_) hg
 cases hf:hasF G.c v with
 | false =>
  rw [if_neg (by decide)]
  refine entH tab_ok (hH) [.p 0 0,.i .i64 _,.i .i64 v] Tryz.func37 Tryz.ntmps37 rfl rfl ?_
  repeat' (first | refine gs_ ?_|((conv=>whnf); first | intro b | refine b3_ (fun h=>?_) (fun h=>?_)|refine callH (f:=98) (.b (hasF G.c v)) (fun w hH=>hasFT q G _ _ w (hH.row 0 _ rfl rfl) v) ?_|refine fin_go (by rfl) (by intro m; rfl) h0 hS (by first | rfl | simp [GrV.car,List.length_set]) (by rfl) (by rfl) (by rfl) (by intro m; rfl)|refine fin_s ?_))
 | true =>
  rw [if_pos rfl]
  by_cases hi:i < 0∨(G.cars.length:Int)≤i
  ·rw [one_out hi]
   refine entH tab_ok (hH) [.p 0 0,.i .i64 _,.i .i64 v] Tryz.func37 Tryz.ntmps37 rfl rfl ?_
   repeat' (first | refine gs_ ?_|((conv=>whnf); first | intro b | refine b3_ (fun h=>?_) (fun h=>?_)|refine callH (f:=98) (.b (hasF G.c v)) (fun w hH=>hasFT q G _ _ w (hH.row 0 _ rfl rfl) v) ?_|refine callH (f:=77) (.i .i64 1) (fun w hH=>change0 q G A1 _ c1 _ i _ w (hH.row 0 _ rfl rfl) hi) ?_|refine fin_go (by rfl) (by intro m; rfl) h0 hS (by first | rfl | simp [GrV.car,List.length_set]) (by rfl) (by rfl) (by rfl) (by intro m; rfl)|refine fin_s ?_))
  ·obtain ⟨k,rfl⟩:∃ k:Nat,i=(k:Int):=⟨i.toNat,by omega⟩
   have hk:k < G.cars.length:=by omega
   rw [one_in hk]
   obtain ⟨g,rfl⟩:=own_addr (hH.obj (carsO lo A1 _ c1 _ true) (List.mem_cons_self ..)) (by omega)
   refine entH tab_ok (hH) [.p 0 0,.i .i64 _,.i .i64 v] Tryz.func37 Tryz.ntmps37 rfl rfl ?_
   repeat' (first | refine gs_ ?_|((conv=>whnf); first | intro b | refine b3_ (fun h=>?_) (fun h=>?_)|refine callH (f:=98) (.b (hasF G.c v)) (fun w hH=>hasFT q G _ _ w (hH.row 0 _ rfl rfl) v) ?_|refine callO 0 (fun _:Unit=>.i .i64 (pressE G.cars[k])) (fun _=>carsO lo (some ⟨g,0,none⟩) _ c1 (G.cars.set k (pressX v G.cars[k])) true) (fun w hH hA=>chg1 (hH.row 0 _ rfl rfl) hA (hH.far _ (List.mem_cons_self ..) 0 _ rfl rfl) rfl hk rfl (by kernel_rfl) (fun w1 P S hu hP hB=>press1T g _ P S _ _ w1 hB hP v (hu.blk (hH.row 1 _ rfl rfl) (hH.far _ (List.mem_cons_self ..) 1 _ rfl rfl)))) (fun _=>?_)|refine fin_go (by rfl) (by intro m; rfl) (G:=G.car k (pressX v G.cars[k])) h0 hS (by first | rfl | simp [GrV.car,List.length_set]) (by rfl) (by rfl) (by rfl) (by intro m; rfl)|refine fin_s ?_))
theorem takeG (hg:GO lo q G S w) (hR:∀ x∈G.cars,R x.sp∧R x.su∧R x.sd) (i v:Int):Calls Tryz.prog 41 #[.pointer (some ⟨q,0,none⟩),.int .i64 i,.int .i64 v] w fun e w'=>e=.returned (.int .i64 (takeR G i v).2)∧∃ S',GO lo q (takeR G i v).1 S' w'∧Upd S w w'∧∀ g∈S',g∈S∨w.heap.size≤g:=by
 unfold takeR
 obtain ⟨A1,c1,A2,c2,h0,hS,hH⟩:=hold_go (n:=_) hg
 cases hf:hasF G.c v with
 | false =>
  rw [if_neg (by decide)]
  refine entH tab_ok (hH) [.p 0 0,.i .i64 _,.i .i64 v] Tryz.func41 Tryz.ntmps41 rfl rfl ?_
  repeat' (first | refine gs_ ?_|((conv=>whnf); first | intro b | refine b3_ (fun h=>?_) (fun h=>?_)|refine callH (f:=98) (.b (hasF G.c v)) (fun w hH=>hasFT q G _ _ w (hH.row 0 _ rfl rfl) v) ?_|refine fin_go (by rfl) (by intro m; rfl) h0 hS (by first | rfl | simp [GrV.car,List.length_set]) (by rfl) (by rfl) (by rfl) (by intro m; rfl)|refine fin_s ?_))
 | true =>
  rw [if_pos rfl]
  by_cases hi:i < 0∨(G.cars.length:Int)≤i
  ·rw [one_out hi]
   refine entH tab_ok (hH) [.p 0 0,.i .i64 _,.i .i64 v] Tryz.func41 Tryz.ntmps41 rfl rfl ?_
   repeat' (first | refine gs_ ?_|((conv=>whnf); first | intro b | refine b3_ (fun h=>?_) (fun h=>?_)|refine callH (f:=98) (.b (hasF G.c v)) (fun w hH=>hasFT q G _ _ w (hH.row 0 _ rfl rfl) v) ?_|refine callH (f:=77) (.i .i64 1) (fun w hH=>change0 q G A1 _ c1 _ i _ w (hH.row 0 _ rfl rfl) hi) ?_|refine fin_go (by rfl) (by intro m; rfl) h0 hS (by first | rfl | simp [GrV.car,List.length_set]) (by rfl) (by rfl) (by rfl) (by intro m; rfl)|refine fin_s ?_))
  ·obtain ⟨k,rfl⟩:∃ k:Nat,i=(k:Int):=⟨i.toNat,by omega⟩
   have hk:k < G.cars.length:=by omega
   rw [one_in hk]
   obtain ⟨g,rfl⟩:=own_addr (hH.obj (carsO lo A1 _ c1 _ true) (List.mem_cons_self ..)) (by omega)
   refine entH tab_ok (hH) [.p 0 0,.i .i64 _,.i .i64 v] Tryz.func41 Tryz.ntmps41 rfl rfl ?_
   repeat' (first | refine gs_ ?_|((conv=>whnf); first | intro b | refine b3_ (fun h=>?_) (fun h=>?_)|refine callH (f:=98) (.b (hasF G.c v)) (fun w hH=>hasFT q G _ _ w (hH.row 0 _ rfl rfl) v) ?_|refine callO 0 (fun _:Unit=>.i .i64 (takeE G.cars[k])) (fun _=>carsO lo (some ⟨g,0,none⟩) _ c1 (G.cars.set k (takeX v G.cars[k])) true) (fun w hH hA=>chg1 (hH.row 0 _ rfl rfl) hA (hH.far _ (List.mem_cons_self ..) 0 _ rfl rfl) rfl hk rfl (by kernel_rfl) (fun w1 P S hu hP hB=>take1T g _ P S _ _ w1 hB hP v (hu.blk (hH.row 1 _ rfl rfl) (hH.far _ (List.mem_cons_self ..) 1 _ rfl rfl)) (hR _ (List.getElem_mem hk)))) (fun _=>?_)|refine fin_go (by rfl) (by intro m; rfl) (G:=G.car k (takeX v G.cars[k])) h0 hS (by first | rfl | simp [GrV.car,List.length_set]) (by rfl) (by rfl) (by rfl) (by intro m; rfl)|refine fin_s ?_))
theorem aimG (hg:GO lo q G S w) (i v:Int) (u:Bool):Calls Tryz.prog 42 #[.pointer (some ⟨q,0,none⟩),.int .i64 i,.int .i64 v,.bool u] w fun e w'=>e=.returned (.int .i64 (aimR G i v u).2)∧∃ S',GO lo q (aimR G i v u).1 S' w'∧Upd S w w'∧∀ g∈S',g∈S∨w.heap.size≤g:=by
 unfold aimR
 obtain ⟨A1,c1,A2,c2,h0,hS,hH⟩:=hold_go (n:=_) hg
 cases hf:hasF G.c v with
 | false =>
  rw [if_neg (by decide)]
  refine entH tab_ok (hH) [.p 0 0,.i .i64 _,.i .i64 v,.b u] Tryz.func42 Tryz.ntmps42 rfl rfl ?_
  repeat' (first | refine gs_ ?_|((conv=>whnf); first | intro b | refine b3_ (fun h=>?_) (fun h=>?_)|refine callH (f:=98) (.b (hasF G.c v)) (fun w hH=>hasFT q G _ _ w (hH.row 0 _ rfl rfl) v) ?_|refine fin_go (by rfl) (by intro m; rfl) h0 hS (by first | rfl | simp [GrV.car,List.length_set]) (by rfl) (by rfl) (by rfl) (by intro m; rfl)|refine fin_s ?_))
 | true =>
  rw [if_pos rfl]
  by_cases hi:i < 0∨(G.cars.length:Int)≤i
  ·rw [one_out hi]
   refine entH tab_ok (hH) [.p 0 0,.i .i64 _,.i .i64 v,.b u] Tryz.func42 Tryz.ntmps42 rfl rfl ?_
   repeat' (first | refine gs_ ?_|((conv=>whnf); first | intro b | refine b3_ (fun h=>?_) (fun h=>?_)|refine callH (f:=98) (.b (hasF G.c v)) (fun w hH=>hasFT q G _ _ w (hH.row 0 _ rfl rfl) v) ?_|refine callH (f:=77) (.i .i64 1) (fun w hH=>change0 q G A1 _ c1 _ i _ w (hH.row 0 _ rfl rfl) hi) ?_|refine fin_go (by rfl) (by intro m; rfl) h0 hS (by first | rfl | simp [GrV.car,List.length_set]) (by rfl) (by rfl) (by rfl) (by intro m; rfl)|refine fin_s ?_))
  ·obtain ⟨k,rfl⟩:∃ k:Nat,i=(k:Int):=⟨i.toNat,by omega⟩
   have hk:k < G.cars.length:=by omega
   rw [one_in hk]
   obtain ⟨g,rfl⟩:=own_addr (hH.obj (carsO lo A1 _ c1 _ true) (List.mem_cons_self ..)) (by omega)
   refine entH tab_ok (hH) [.p 0 0,.i .i64 _,.i .i64 v,.b u] Tryz.func42 Tryz.ntmps42 rfl rfl ?_
   repeat' (first | refine gs_ ?_|((conv=>whnf); first | intro b | refine b3_ (fun h=>?_) (fun h=>?_)|refine callH (f:=98) (.b (hasF G.c v)) (fun w hH=>hasFT q G _ _ w (hH.row 0 _ rfl rfl) v) ?_|refine callO 0 (fun _:Unit=>.i .i64 (aimE G.cars[k])) (fun _=>carsO lo (some ⟨g,0,none⟩) _ c1 (G.cars.set k (aimX v u G.cars[k])) true) (fun w hH hA=>chg2 (hH.row 0 _ rfl rfl) hA (hH.far _ (List.mem_cons_self ..) 0 _ rfl rfl) rfl hk rfl (by kernel_rfl) (fun w1 P S hu hP hB=>aim1T g _ P S _ _ _ w1 hB hP v u (hu.blk (hH.row 1 _ rfl rfl) (hH.far _ (List.mem_cons_self ..) 1 _ rfl rfl)) (hu.blk (hH.row 2 _ rfl rfl) (hH.far _ (List.mem_cons_self ..) 2 _ rfl rfl)))) (fun _=>?_)|refine fin_go (by rfl) (by intro m; rfl) (G:=G.car k (aimX v u G.cars[k])) h0 hS (by first | rfl | simp [GrV.car,List.length_set]) (by rfl) (by rfl) (by rfl) (by intro m; rfl)|refine fin_s ?_))
theorem giveG (hg:GO lo q G S w) (i:Int):Calls Tryz.prog 43 #[.pointer (some ⟨q,0,none⟩),.int .i64 i] w fun e w'=>e=.returned (.int .i64 (giveR G i).2)∧∃ S',GO lo q (giveR G i).1 S' w'∧Upd S w w'∧∀ g∈S',g∈S∨w.heap.size≤g:=by
 unfold giveR
 obtain ⟨A1,c1,A2,c2,h0,hS,hH⟩:=hold_go (n:=_) hg
 by_cases hi:i < 0∨(G.cars.length:Int)≤i
 ·rw [one_out hi]
  refine entH tab_ok (hH) [.p 0 0,.i .i64 _] Tryz.func43 Tryz.ntmps43 rfl rfl ?_
  repeat' (first | refine gs_ ?_|((conv=>whnf); first | intro b | refine b3_ (fun h=>?_) (fun h=>?_)|refine callH (f:=77) (.i .i64 1) (fun w hH=>change0 q G A1 _ c1 _ i _ w (hH.row 0 _ rfl rfl) hi) ?_|refine fin_go (by rfl) (by intro m; rfl) h0 hS (by first | rfl | simp [GrV.car,List.length_set]) (by rfl) (by rfl) (by rfl) (by intro m; rfl)|refine fin_s ?_))
 ·obtain ⟨k,rfl⟩:∃ k:Nat,i=(k:Int):=⟨i.toNat,by omega⟩
  have hk:k < G.cars.length:=by omega
  rw [one_in hk]
  obtain ⟨g,rfl⟩:=own_addr (hH.obj (carsO lo A1 _ c1 _ true) (List.mem_cons_self ..)) (by omega)
  refine entH tab_ok (hH) [.p 0 0,.i .i64 _] Tryz.func43 Tryz.ntmps43 rfl rfl ?_
  repeat' (first | refine gs_ ?_|((conv=>whnf); first | intro b | refine b3_ (fun h=>?_) (fun h=>?_)|refine callO 0 (fun _:Unit=>.i .i64 (aimE G.cars[k])) (fun _=>carsO lo (some ⟨g,0,none⟩) _ c1 (G.cars.set k (givX G.c G.cars[k])) true) (fun w hH hA=>chg1 (hH.row 0 _ rfl rfl) hA (hH.far _ (List.mem_cons_self ..) 0 _ rfl rfl) rfl hk rfl (by kernel_rfl) (fun w1 P S hu hP hB=>give1T g _ P S _ _ w1 hB hP q G _ _ (hu.blk (hH.row 1 _ rfl rfl) (hH.far _ (List.mem_cons_self ..) 1 _ rfl rfl)) (hu.blk (hH.row 0 _ rfl rfl) (hH.far _ (List.mem_cons_self ..) 0 _ rfl rfl)))) (fun _=>?_)|refine fin_go (by rfl) (by intro m; rfl) (G:=G.car k (givX G.c G.cars[k])) h0 hS (by first | rfl | simp [GrV.car,List.length_set]) (by rfl) (by rfl) (by rfl) (by intro m; rfl)|refine fin_s ?_))
end
end Gr
namespace Gr
open Go.RowKit Ba Mem Go.Proofs.YtpiiblkiddcgcaaGreat.Ty Mo Go.Proofs.YtpiiblkiddcgcaaGreat.St Sc Pl
open Ct (cfgA carA m1 dwV bdX tkV tkF tkW tkS tickT)
set_option maxRecDepth 100000
attribute [local irreducible] Go.wpList
namespace C1
set_option maxHeartbeats 4000000 in
theorem cloneNil (w:World):Calls Tryz.prog 95 #[.slice none 0 0] w fun e w'=>e=.returned (.slice none 0 0)∧Since w w':=by
 go_enter Tryz.func95,Tryz.ntmps95
 go_upto_region 1 with fail
 have HS1:=Lib.hid (Since.refl w)
 refine wp_region_lit ?_
 refine tkL (.slice none 0 0) (h:=?_)
 try simp only[Act.put,sA,sB,sC]
 refine tkL (.bool true) (h:=?_)
 try simp only[Act.put,sA,sB,sC]
 refine wpList_nil ?_
 go_upto_region 2 with fail
 refine wp_region_lit ?_
 refine tkL (.slice none 0 0) (h:=?_)
 try simp only[Act.put,sA,sB,sC]
 refine wpList_nil ?_
 (try go_wp2_with fail)
 go_ret
 exact ⟨rfl,HS1.out⟩
set_option maxHeartbeats 4000000 in
theorem cloneSome (ad:Addr) (n c:Nat) (ls:List CarV) (w:World) (hR:Reads w w.heap.size 15 (some ad) n (rowsOf carL ls)) (hN:n≤1000000):Calls Tryz.prog 95 #[.slice (some ad) n c] w fun e w'=>∃ A' c',e=.returned (.slice A' n c')∧w'.ownsRow w.heap.size 67 15 (.slice A' n c') n (rowsOf carL ls)∧Since w w':=by
 have HR:=Lib.hid hR
 clear hR
 have HN:=Lib.hid hN
 clear hN
 go_enter Tryz.func95,Tryz.ntmps95
 go_upto_region 1 with fail
 have HS1:=Lib.hid (Since.refl w)
 refine wp_region_lit ?_
 refine tkL (.slice (some ad) n c) (h:=?_)
 try simp only[Act.put,sA,sB,sC]
 refine tkL (.bool false) (h:=?_)
 try simp only[Act.put,sA,sB,sC]
 refine wpList_nil ?_
 go_upto_region 3 with fail
 refine wp_region_lit ?_
 refine wpList_wp (by rfl) (fun K hK=>?_)
 refine wp_new (fun b=>.slice (some ⟨b,0,none⟩) 0 0) 67 #[] (by rintro b rfl; first | rfl | kernel_rfl) ?_
 intro bn5 w2 hge hB hb
 refine hK.out _ _ ?_
 clear hK K
 try simp only[Act.put,sA,sB,sC]
 have HGn5:=Lib.hid (show w.heap.size≤bn5 by have:=Since.size HS1.out; omega)
 have HS2:=Lib.hid (Since.trans HS1.out hb)
 clear HS1 
 clear hb hge
 have HBn52:=Lib.hid hB
 clear hB
 refine tkL (.slice (some ad) n c) (h:=?_)
 try simp only[Act.put,sA,sB,sC]
 refine wpList_wp (by rfl) (fun K hK=>?_)
 have HOE:=Lib.hid (own_empty (e:=67) (size:=15) HBn52.out HGn5.out)
 clear HBn52
 refine wp_append_row (.tmp 5) (.tmp 6) 59 rfl w.heap.size 67 (Value.agg #[.int .i64 0,.int .i64 0,.int .i64 0,.int .i64 0,.int .i64 0,.int .i64 0,.int .i64 0,.bool false,.bool false,.int .i64 0,.int .i64 0,.bool false,.int .u64 0,.int .u64 0,.int .u64 0]) 15 112 Tryz.underlying59 (by kernel_rfl) rfl (by decide) (by decide) (some ⟨bn5,0,none⟩) 0 0 ([]) rfl HOE.out _ (some ad) n c (rowsOf carL ls) rfl (own_reads_since HS2.out (Nat.le_refl _) HR.out) (cars_one ls) (by have:=HN.out; omega) HS2.out.size n (rowsOf carL ls) (Nat.zero_add _) rfl ?_
 intro A_1 c_1 w3 hown hupd hfar
 refine hK.out _ _ ?_
 clear hK K
 try simp only[Act.put,sA,sB,sC]
 have HS3:=Lib.hid (Since.upd HS2.out hupd (own_low HOE.out))
 have HFr3:=Lib.hid hown
 clear hupd hown hfar HS2 HOE
 refine tkL (.slice A_1 n c_1) (h:=?_)
 try simp only[Act.put,sA,sB,sC]
 refine wpList_nil ?_
 (try go_wp2_with fail)
 go_ret
 exact ⟨A_1,c_1,rfl,HFr3.out,HS3.out⟩
theorem cloneT (lo:Nat) (A:Option Addr) (c:Nat) (ls:List CarV) (w:World) (hO:w.ownsRow lo 67 15 (.slice A ls.length c) ls.length (rowsOf carL ls)) (hl:ls.length≤1000000):Calls Tryz.prog 95 #[.slice A ls.length c] w fun e w'=>∃ A' c',e=.returned (.slice A' ls.length c')∧w'.ownsRow w.heap.size 67 15 (.slice A' ls.length c') ls.length (rowsOf carL ls)∧Since w w':=by
 rcases own_at hO with ⟨rfl,h0,hx⟩ | ⟨g,cur,rfl,_⟩
 ·have hc:c=0:=by
   rcases hO.2 with ⟨hv,_⟩ | ⟨_,_,_,hv,_⟩
   ·simp at hv; exact hv.2
   ·simp at hv
  subst hc
  rw [hx,h0]
  refine (cloneNil w).mono ?_
  rintro e w1 ⟨rfl,hb⟩
  exact ⟨none,0,rfl,World.ownsRow_nil _ _ _ _,hb⟩
 ·exact cloneSome _ _ c ls w (own_reads hO) hl
end C1
namespace C2
set_option maxHeartbeats 4000000 in
theorem cloneNil (w:World):Calls Tryz.prog 96 #[.slice none 0 0] w fun e w'=>e=.returned (.slice none 0 0)∧Since w w':=by
 go_enter Tryz.func96,Tryz.ntmps96
 go_upto_region 1 with fail
 have HS1:=Lib.hid (Since.refl w)
 refine wp_region_lit ?_
 refine tkL (.slice none 0 0) (h:=?_)
 try simp only[Act.put,sA,sB,sC]
 refine tkL (.bool true) (h:=?_)
 try simp only[Act.put,sA,sB,sC]
 refine wpList_nil ?_
 go_upto_region 2 with fail
 refine wp_region_lit ?_
 refine tkL (.slice none 0 0) (h:=?_)
 try simp only[Act.put,sA,sB,sC]
 refine wpList_nil ?_
 (try go_wp2_with fail)
 go_ret
 exact ⟨rfl,HS1.out⟩
set_option maxHeartbeats 4000000 in
theorem cloneSome (ad:Addr) (n c:Nat) (ls:List WaitV) (w:World) (hR:Reads w w.heap.size 4 (some ad) n (rowsOf waitL ls)) (hN:n≤1000000):Calls Tryz.prog 96 #[.slice (some ad) n c] w fun e w'=>∃ A' c',e=.returned (.slice A' n c')∧w'.ownsRow w.heap.size 76 4 (.slice A' n c') n (rowsOf waitL ls)∧Since w w':=by
 have HR:=Lib.hid hR
 clear hR
 have HN:=Lib.hid hN
 clear hN
 go_enter Tryz.func96,Tryz.ntmps96
 go_upto_region 1 with fail
 have HS1:=Lib.hid (Since.refl w)
 refine wp_region_lit ?_
 refine tkL (.slice (some ad) n c) (h:=?_)
 try simp only[Act.put,sA,sB,sC]
 refine tkL (.bool false) (h:=?_)
 try simp only[Act.put,sA,sB,sC]
 refine wpList_nil ?_
 go_upto_region 3 with fail
 refine wp_region_lit ?_
 refine wpList_wp (by rfl) (fun K hK=>?_)
 refine wp_new (fun b=>.slice (some ⟨b,0,none⟩) 0 0) 76 #[] (by rintro b rfl; first | rfl | kernel_rfl) ?_
 intro bn5 w2 hge hB hb
 refine hK.out _ _ ?_
 clear hK K
 try simp only[Act.put,sA,sB,sC]
 have HGn5:=Lib.hid (show w.heap.size≤bn5 by have:=Since.size HS1.out; omega)
 have HS2:=Lib.hid (Since.trans HS1.out hb)
 clear HS1 
 clear hb hge
 have HBn52:=Lib.hid hB
 clear hB
 refine tkL (.slice (some ad) n c) (h:=?_)
 try simp only[Act.put,sA,sB,sC]
 refine wpList_wp (by rfl) (fun K hK=>?_)
 have HOE:=Lib.hid (own_empty (e:=76) (size:=4) HBn52.out HGn5.out)
 clear HBn52
 refine wp_append_row (.tmp 5) (.tmp 6) 32 rfl w.heap.size 76 (Value.agg #[.int .i64 0,.int .i64 0,.int .i64 0,.int .i64 0]) 4 32 Tryz.underlying32 (by kernel_rfl) rfl (by decide) (by decide) (some ⟨bn5,0,none⟩) 0 0 ([]) rfl HOE.out _ (some ad) n c (rowsOf waitL ls) rfl (own_reads_since HS2.out (Nat.le_refl _) HR.out) (waits_one ls) (by have:=HN.out; omega) HS2.out.size n (rowsOf waitL ls) (Nat.zero_add _) rfl ?_
 intro A_1 c_1 w3 hown hupd hfar
 refine hK.out _ _ ?_
 clear hK K
 try simp only[Act.put,sA,sB,sC]
 have HS3:=Lib.hid (Since.upd HS2.out hupd (own_low HOE.out))
 have HFr3:=Lib.hid hown
 clear hupd hown hfar HS2 HOE
 refine tkL (.slice A_1 n c_1) (h:=?_)
 try simp only[Act.put,sA,sB,sC]
 refine wpList_nil ?_
 (try go_wp2_with fail)
 go_ret
 exact ⟨A_1,c_1,rfl,HFr3.out,HS3.out⟩
theorem cloneT (lo:Nat) (A:Option Addr) (c:Nat) (ls:List WaitV) (w:World) (hO:w.ownsRow lo 76 4 (.slice A ls.length c) ls.length (rowsOf waitL ls)) (hl:ls.length≤1000000):Calls Tryz.prog 96 #[.slice A ls.length c] w fun e w'=>∃ A' c',e=.returned (.slice A' ls.length c')∧w'.ownsRow w.heap.size 76 4 (.slice A' ls.length c') ls.length (rowsOf waitL ls)∧Since w w':=by
 rcases own_at hO with ⟨rfl,h0,hx⟩ | ⟨g,cur,rfl,_⟩
 ·have hc:c=0:=by
   rcases hO.2 with ⟨hv,_⟩ | ⟨_,_,_,hv,_⟩
   ·simp at hv; exact hv.2
   ·simp at hv
  subst hc
  rw [hx,h0]
  refine (cloneNil w).mono ?_
  rintro e w1 ⟨rfl,hb⟩
  exact ⟨none,0,rfl,World.ownsRow_nil _ _ _ _,hb⟩
 ·exact cloneSome _ _ c ls w (own_reads hO) hl
set_option maxHeartbeats 4000000 in
theorem deleteT (lo g m c i:Nat) (ls:List WaitV) (w:World) (hO:w.ownsRow lo 76 4 (.slice (some ⟨g,0,none⟩) (m+1) c) (m+1) (rowsOf waitL ls)) (hl:ls.length=m+1) (hi:i≤m) (hc:m+1≤c) (hm:m+1≤1000000):Calls Tryz.prog 30 #[.slice (some ⟨g,0,none⟩) (m+1) c,.int .i64 (i:Int),.int .i64 ((i:Int)+1)] w fun e w'=>e=.returned (.slice (some ⟨g,0,none⟩) m c)∧w'.ownsRow lo 76 4 (.slice (some ⟨g,0,none⟩) m c) m (rowsOf waitL (ls.eraseIdx i))∧Upd [g] w w':=by
 have HOW:=Lib.hid hO
 clear hO
 have HL:=Lib.hid hl
 clear hl
 have HI:=Lib.hid hi
 clear hi
 have HC:=Lib.hid hc
 clear hc
 have HM:=Lib.hid hm
 clear hm
 go_enter Tryz.func30,Tryz.ntmps30
 go_upto_region 1 with fail
 have HS1:=Lib.hid (Upd.refl [g] w)
 refine wp_region_lit ?_
 refine tkL (.slice (some ⟨g,0,none⟩) (m+1) c) (h:=?_)
 try simp only[Act.put,sA,sB,sC]
 refine tkL (.int .i64 (i:Int)) (h:=?_)
 try simp only[Act.put,sA,sB,sC]
 refine tkL (.int .i64 ((i:Int)+1)) (h:=?_)
 try simp only[Act.put,sA,sB,sC]
 refine tkL (.slice (some ⟨g,0,none⟩) (m+1) c) (h:=?_)
 try simp only[Act.put,sA,sB,sC]
 refine tkL (.int .i64 ((m+1:Nat):Int)) (h:=?_)
 try simp only[Act.put,sA,sB,sC]
 refine wpList_q (by rfl) (.slice (cutA (m+1) i (some ⟨g,0,none⟩:Option Addr) 4) (i+1 - i) (m+1 - i)) ?he ?_
 case he=>exact exec_slice (s:=4) 32 76 _ _ _ _ rfl rfl Tryz.underlying32 (by kernel_rfl) (sb_lhm _ _ _ _ (l:=i) (h:=i+1) (m:=m+1) rfl (by push_cast; rfl) rfl (by omega) (by have q0:=HI.out; omega) HC.out) (by rfl) rfl rfl
 try simp only[Act.put,sA,sB,sC]
 refine wpList_nil ?_
 go_upto_region 2 with fail
 refine wp_region_lit ?_
 refine tkL (.int .i64 (i:Int)) (h:=?_)
 try simp only[Act.put,sA,sB,sC]
 refine tkL (.int .i64 ((i:Int)+1)) (h:=?_)
 try simp only[Act.put,sA,sB,sC]
 refine wpList_q (by rfl) (.bool false) ?he ?_
 case he=>(go_simp; (first | done | rfl | omega))
 try simp only[Act.put,sA,sB,sC]
 refine wpList_nil ?_
 go_upto_region 4 with fail
 refine wp_region_lit ?_
 refine tkL (.slice (some ⟨g,0,none⟩) (m+1) c) (h:=?_)
 try simp only[Act.put,sA,sB,sC]
 refine tkL (.int .i64 ((m+1:Nat):Int)) (h:=?_)
 try simp only[Act.put,sA,sB,sC]
 refine tkL (.int .i64 ((m+1:Nat):Int)) (h:=?_)
 try simp only[Act.put,sA,sB,sC]
 refine wpList_nil ?_
 go_upto_region 5 with fail
 have HKS:Hid (KeepS (fun W:World=>Upd [g] w W) w):=Lib.hid ⟨fun W W' k h=>h.trans k,HS1.out⟩
 have HRK:=Lib.hid HKS.out.1
 have HEr:=Lib.hid (show ((World.drew w)).ownsRow lo 76 4 (.slice (some ⟨g,0,none⟩) (m+1) c) (m+1) (rowsOf waitL ls) from HOW.out)
 clear HOW
 refine wp_held HKS.out (by kernel_rfl) (fun hHeld=>?_)
 refine tkQ 0 (.slice (some ⟨g,0,none⟩) (m+1) c) hHeld (h:=?_)
 try simp only[Act.put,sA,sB,sC]
 refine tkQ 1 (.int .i64 (i:Int)) hHeld (h:=?_)
 try simp only[Act.put,sA,sB,sC]
 refine tkQ 2 (.slice (some ⟨g,0,none⟩) i c) hHeld (he:=by intro w hSw; exact exec_slice (s:=4) 32 76 _ _ _ _ rfl rfl Tryz.underlying32 (by kernel_rfl) (sb_h _ _ (h:=i) rfl (by have q0:=HI.out; have q1:=HC.out; omega)) (by split <;> simp [Addr.add]) rfl rfl) (h:=?_)
 try simp only[Act.put,sA,sB,sC]
 refine tkQ 3 (.slice (some ⟨g,0,none⟩) (m+1) c) hHeld (h:=?_)
 try simp only[Act.put,sA,sB,sC]
 refine tkQ 4 (.int .i64 ((i:Int)+1)) hHeld (h:=?_)
 try simp only[Act.put,sA,sB,sC]
 refine tkQ 5 (.slice (cutA c (i+1) (some ⟨g,0,none⟩:Option Addr) 4) (m+1 - (i+1)) (c - (i+1))) hHeld (he:=by intro w hSw; exact exec_slice (s:=4) 32 76 _ _ _ _ rfl rfl Tryz.underlying32 (by kernel_rfl) (sb_l _ _ (l:=i+1) (by push_cast; rfl) (by have q0:=HI.out; omega)) (by rfl) rfl rfl) (h:=?_)
 try simp only[Act.put,sA,sB,sC]
 refine wpAnyH_ready (rs:=[6]) (by kernel_rfl) (by simp) ?_
 refine AllReadyH.cons (o:=?o5__6) ?h5__6 (fun K hK=>?_) AllReadyH.nil
 case h5__6=>(first | (simp only [gA,gB,gC]; done)|(simp only [gA,gB,gC]; exact rfl))
 rw [if_pos (by rfl)]
 refine wp_append_room (.tmp 22) (.tmp 25) 32 rfl lo 76 4 Tryz.underlying32 (by kernel_rfl) g i c ((rowsOf waitL ls).take (i*4)) rfl (own_prefix HEr.out (by have q0:=HI.out; omega)) _ (cutA c (i+1) (some ⟨g,0,none⟩:Option Addr) 4) (m+1 - (i+1)) (c - (i+1)) ((rowsOf waitL ls).drop ((i+1)*4)) rfl (reads_cut (own_reads HEr.out) (by have q0:=HI.out; omega) HC.out) (fun u hu=>waits_one ls u (List.mem_of_mem_drop hu)) (by have q0:=HI.out; have q1:=HC.out; omega) m (rowsOf waitL (ls.eraseIdx i)) (by have q0:=HI.out; omega) (erase_rows waitL_len (by have q0:=HI.out; have q2:=HL.out; omega)) ?_
 intro w2 hown hupd
 skip
 have hHeld3:=HKS.out.at_ w2 (Upd.comp hHeld hupd (fun _ h=>.inl h))
 have HOW_w2:=Lib.hid hown
 refine hK.out _ _ hHeld3 (fun hHeld2=>?_)
 clear hK K hHeld hHeld3 hupd hown  HEr 
 have hHeld:=hHeld2
 clear hHeld2
 try simp only[Act.put,sA,sB,sC]
 refine tkQ 7 (.slice (some ⟨g,0,none⟩) m c) hHeld (h:=?_)
 try simp only[Act.put,sA,sB,sC]
 refine wpAnyH_done (by kernel_rfl) ?_ _
 have HSd5:=Lib.hid hHeld
 clear hHeld HRK HKS HS1 
 have HFrd5:=Lib.hid HOW_w2.out
 clear HOW_w2
 go_upto_region 6 with fail
 refine wp_region_lit ?_
 refine tkL (.slice (some ⟨g,0,none⟩) m c) (h:=?_)
 try simp only[Act.put,sA,sB,sC]
 refine tkL (.slice (some ⟨g,0,none⟩) m c) (h:=?_)
 try simp only[Act.put,sA,sB,sC]
 refine tkL (.int .i64 (m:Int)) (h:=?_)
 try simp only[Act.put,sA,sB,sC]
 refine tkL (.int .i64 ((m+1:Nat):Int)) (h:=?_)
 try simp only[Act.put,sA,sB,sC]
 refine wpList_q (by rfl) (.slice (some ⟨g,m*4,none⟩) 1 (c - m)) ?he ?_
 case he=>exact exec_slice (s:=4) 32 76 _ _ _ _ rfl rfl Tryz.underlying32 (by kernel_rfl) (sb_lh _ _ _ (l:=m) (h:=m+1) rfl rfl (by omega) HC.out) (by have q1:=HC.out; rw [if_neg (by omega)]; simp [Go.WideShapes.add_plain]) (by omega) rfl
 try simp only[Act.put,sA,sB,sC]
 refine wpList_wp (by rfl) (fun K hK=>?_)
 refine wp_clear_behind _ 32 rfl lo 76 (Value.agg #[.int .i64 0,.int .i64 0,.int .i64 0,.int .i64 0]) 4 32 Tryz.underlying32 (by kernel_rfl) rfl (by intro u hu; simp [Value.cells] at hu; (try rcases hu with rfl | rfl | rfl | rfl) <;> rfl) g m c _ HFrd5.out 1 (c - m) (by decide) HC.out rfl ?_
 intro w3 hown hupd
 refine hK.out _ _ ?_
 clear hK K
 try simp only[Act.put,sA,sB,sC]
 have HSz:=Lib.hid (Upd.comp HSd5.out hupd (fun _ h=>.inl h))
 have HOWz:=Lib.hid hown
 clear hown hupd HSd5 HFrd5
 refine wpList_nil ?_
 go_upto_region 7 with fail
 refine wp_region_lit ?_
 refine tkL (.slice (some ⟨g,0,none⟩) m c) (h:=?_)
 try simp only[Act.put,sA,sB,sC]
 refine tkL (.slice (some ⟨g,0,none⟩) m c) (h:=?_)
 try simp only[Act.put,sA,sB,sC]
 refine wpList_nil ?_
 (try go_wp2_with fail)
 go_ret
 exact ⟨rfl,HOWz.out,HSz.out⟩
end C2
end Gr
namespace Gr
open Go.RowKit Ba Mem
set_option maxRecDepth 100000
set_option maxHeartbeats 4000000 in
theorem mul64C (m:Int) (hm:m=1∨m=2∨m=3∨m=4∨m=5∨m=6∨m=7∨m=8) (w:World):Calls Tryz.prog 151 #[.int .u64 1,.int .u64 m] w fun e w'=>e=.returned (.tuple #[.int .u64 0,.int .u64 m])∧w=w':=by
 rcases hm with rfl | rfl | rfl | rfl | rfl | rfl | rfl | rfl
 all_goals
  go_enter Tryz.func151,Tryz.ntmps151
  go_wp2
  go_ret2
  exact ⟨rfl,rfl⟩
theorem mulC (m:Int) (hm:m=1∨m=2∨m=3∨m=4∨m=5∨m=6∨m=7∨m=8) (w:World):Calls Tryz.prog 74 #[.int .u64 1,.int .u64 m] w fun e w'=>e=.returned (.tuple #[.int .u64 0,.int .u64 m])∧w=w':=by
 have hm2:=hm
 have HM:=Lib.hid hm
 clear hm
 go_enter Tryz.func74,Tryz.ntmps74
 go_wp2_with (go_at_call 151; refine (mul64C _ HM.out _).mono ?_; rintro e w' ⟨rfl,rfl⟩)
 all_goals
  go_ret2
  exact ⟨rfl,rfl⟩
end Gr
namespace Ba
open Go.RowKit Mem
def copyR (cur:Array Value) (o:Nat) (cs:List Value):Array Value:=(cur.toList.take o++cs++cur.toList.drop (o+cs.length)).toArray
theorem copyR_size {cur:Array Value} {o n:Nat} {cs:List Value} (h:o+cs.length≤cur.size) (hn:cur.size=n):(copyR cur o cs).size=n:=by
 subst hn
 simp only [copyR,List.size_toArray,List.length_append,List.length_take,List.length_drop,Array.length_toList]
 omega
theorem copyR_take {cur:Array Value} {o:Nat} {cs:List Value} (h:o+cs.length≤cur.size):(copyR cur o cs).toList.take (o+cs.length)=cur.toList.take o++cs:=by
 have e:(cur.toList.take o++cs).length=o+cs.length:=by simp; omega
 simp only [copyR,List.toList_toArray]
 rw [← e]
 exact List.take_left
section
variable {P:Program} {o:Oper} {a:Act} {w:World} {K:Act→World→Prop} {Q:Exit→Act→World→Prop}
theorem wp_copy_k (d s:Operand) (dT sT elem:TypeId) (ho:o.op=.call { callee:=.builtin .copy,args:=#[d,s],argTypes:=#[dT,sT] }) (hu:P.underlying dT=some (.slice elem)) {k:Nat} (hs:(P.info? elem).map (·.size)=some k)
  {g off dLen dCap sLen sCap m:Nat} {A:Addr} {cur:Array Value} {t:TypeId} (cs:List Value) (hd:a.eval d=.slice (some ⟨g,off,none⟩) dLen dCap) (hsv:a.eval s=.slice (some A) sLen sCap)
  (hg:Blk w g t cur) (hm:Nat.min sLen dLen=m) (hn:cs.length=m*k) (hsrc:∀ j v,cs[j]?=some v→w.cell? (A.add j)=some v) (hfit:off+cs.length≤cur.size) (h1:∀ v∈cs,v.oneCell'=true)
  (h:∀ w',w'=w.setRow g (copyR cur off cs)→K (a.put o.dst (.int .i64 (m:Int))) w'):o.wp P a w K Q:=by
 have hl:=run_loadCells_list (P:=P) w A cs hsrc
 have hst:=run_storeCells_at P g off t cs 0 cur w hg (by simpa using hfit) h1
 have hrun:(Builtin.copy_ #[dT,sT] o.type #[.slice (some ⟨g,off,none⟩) dLen dCap,.slice (some A) sLen sCap]).run P w=.ok (.int .i64 (m:Int)) (w.setRow g (copyR cur off cs)):=by
  cases hq:P.info? elem with
  | none=>simp [hq] at hs
  | some i =>
   have hi:i.size=k:=by simpa [hq] using hs
   simp [Builtin.copy_,run_underlying hu,Builtin.lenOf,Builtin.firstCells,sizeOf,typeInfo,hq,hi,hm,← hn,hl,hst,copyR,goInt]
 unfold Oper.wp execOp
 simp only [ho,resolve,invoke,builtin,Sem.run_bind,Sem.run_pure,Result.andThen_ok,List.map_toArray,List.map_cons,List.map_nil,hd,hsv,hrun]
 exact h _ rfl
theorem wp_make (t e:TypeId) (x y:Operand) (ho:o.op=.makeSlice t x y) {z:Value} {k bytes:Nat} (ht:P.underlying t=some (.slice e)) (hinf:(P.info? e).map (fun i=>(i.zero,i.size,i.bytes))=some (some z,k,bytes)) (n:Nat) {kx ky:IntKind}
  (hx:a.eval x=.int kx (n:Int)) (hy:a.eval y=.int ky (n:Int)) (hn:n≤1000000) (hb:bytes≤1000) (hz:z.cells.size=k)
  (h:∀ b cur w',w.heap.size≤b→Blk w' b e cur→cur.size=n*k→Since w w'→K (a.put o.dst (.slice (some ⟨b,0,none⟩) n n)) w'):o.wp P a w K Q:=by
 obtain ⟨i,hi,hz0,h2,h3⟩:=info3 hinf
 have hbn:bytes*n≤1000*1000000:=Nat.mul_le_mul hb hn
 have hbi:(bytes:Int)*(n:Int)≤1000000000:=by rw [← Int.natCast_mul]; omega
 have hr:=run_make (P:=P) w t e i z ht hi hz0 kx ky (n:Int) (n:Int) (by omega) (Int.le_refl _) (by rw [h3]; omega) (by omega)
 unfold Oper.wp execOp
 simp only [ho,hx,hy,Sem.run_bind,hr,Sem.run_pure,Result.andThen_ok,Int.toNat_natCast]
 exact h w.heap.size (madeCells z.cells (n*i.size)) _ (Nat.le_refl _) (Blk.new w e _) (by rw [size_madeCells,h2]) ((Since.refl w).alloc _)
end
theorem src_blk {w:World} {b:Nat} {t:TypeId} {l:List Value} (h:Blk w b t l.toArray):∀ j v,l[j]?=some v→w.cell? ((⟨b,0,none⟩:Addr).add j)=some v:=fun j v hj=>by
 rw [Go.WideShapes.add_plain,Nat.zero_add,h.cell]
 simpa using hj
theorem src_row {w:World} {b n:Nat} {t:TypeId} {cur:Array Value} {l:List Value} (h:Blk w b t cur) (hl:cur.toList.take n=l):∀ j v,l[j]?=some v→w.cell? ((⟨b,0,none⟩:Addr).add j)=some v:=fun j v hj=>by
 rw [Go.WideShapes.add_plain,Nat.zero_add,h.cell]
 subst hl
 rw [List.getElem?_take] at hj
 split at hj
 ·simpa using hj
 ·cases hj
theorem reps {α:Type} {enc:α→List Value} {k:Nat} (hk:∀ a,(enc a).length=k) (x:α) (n m:Nat) (h:m≤n):(rowsOf enc (List.replicate n x)).take (m*k)=rowsOf enc (List.replicate m x):=by
 rw [rowsOf_take hk (by simpa using h),List.take_replicate,Nat.min_eq_left h]
theorem reps_add {α:Type} {enc:α→List Value} (x:α) (n m:Nat):rowsOf enc (List.replicate n x)++rowsOf enc (List.replicate m x)=rowsOf enc (List.replicate (n+m) x):=by
 rw [← rowsOf_append,List.replicate_append_replicate]
end Ba
namespace Gr
open Go.RowKit Ba Mem Go.Proofs.YtpiiblkiddcgcaaGreat.Ty Mo Go.Proofs.YtpiiblkiddcgcaaGreat.St Sc Pl
open Ct (cfgA carA m1 dwV bdX tkV tkF tkW tkS tickT)
set_option maxRecDepth 100000
attribute [local irreducible] Go.wpList
set_option maxHeartbeats 4000000 in
theorem repeatT (b m:Nat) (x:CarV) (w:World) (hb:Blk w b 67 (carA x)) (hm:(m:Int)=1∨(m:Int)=2∨(m:Int)=3∨(m:Int)=4∨(m:Int)=5∨(m:Int)=6∨(m:Int)=7∨(m:Int)=8):Calls Tryz.prog 24 #[.slice (some ⟨b,0,none⟩) 1 1,.int .i64 (m:Int)] w fun e w'=>∃ g,e=.returned (.slice (some ⟨g,0,none⟩) m m)∧w.heap.size≤g∧CarsAt w.heap.size (some ⟨g,0,none⟩) m m (List.replicate m x) w'∧Since w w':=by
 have HB:=Lib.hid hb
 clear hb
 have HM:=Lib.hid hm
 clear hm
 have HMR:=Lib.hid (show 1≤m∧m≤8 by have:=HM.out; omega)
 go_enter Tryz.func24,Tryz.ntmps24
 go_upto_region 1 with fail
 have HS1:=Lib.hid (Since.refl w)
 refine wp_region_lit ?_
 refine tkL (.int .i64 (m:Int)) (h:=?_)
 try simp only[Act.put,sA,sB,sC]
 refine wpList_q (by rfl) (.bool false) ?he ?_
 case he=>(go_simp; (first | done | rfl | omega))
 try simp only[Act.put,sA,sB,sC]
 refine wpList_nil ?_
 go_upto_region 3 with fail
 refine wp_region_lit ?_
 refine tkL (.slice (some ⟨b,0,none⟩) 1 1) (h:=?_)
 try simp only[Act.put,sA,sB,sC]
 refine tkL (.int .i64 1) (h:=?_)
 try simp only[Act.put,sA,sB,sC]
 refine wpList_q (by rfl) (.int .u64 1) ?he ?_
 case he=>(have q:=HMR.out; go_simp; (first | done | rfl | (simp only [IntKind.wrap,IntKind.bits,IntKind.signed]; simp; omega)))
 try simp only[Act.put,sA,sB,sC]
 refine tkL (.int .i64 (m:Int)) (h:=?_)
 try simp only[Act.put,sA,sB,sC]
 refine wpList_q (by rfl) (.int .u64 (m:Int)) ?he ?_
 case he=>(have q:=HMR.out; go_simp; (first | done | rfl | (simp only [IntKind.wrap,IntKind.bits,IntKind.signed]; simp; omega)))
 try simp only[Act.put,sA,sB,sC]
 refine wpList_wp (by rfl) (fun K hK=>?_)
 (try go_simp)
 refine (mulC (m:Int) HM.out _).mono ?_
 rintro e w' ⟨rfl,rfl⟩
 (try go_wp2_with fail)
 refine hK.out _ _ ?_
 clear hK K
 try simp only[Act.put,sA,sB,sC]
 refine tkL (.tuple #[.int .u64 0,.int .u64 (m:Int)]) (h:=?_)
 try simp only[Act.put,sA,sB,sC]
 refine tkL (.int .u64 0) (h:=?_)
 try simp only[Act.put,sA,sB,sC]
 refine tkL (.int .u64 (m:Int)) (h:=?_)
 try simp only[Act.put,sA,sB,sC]
 refine tkL (.int .u64 0) (h:=?_)
 try simp only[Act.put,sA,sB,sC]
 refine tkL (.int .u64 (m:Int)) (h:=?_)
 try simp only[Act.put,sA,sB,sC]
 refine wpList_nil ?_
 go_upto_region 4 with fail
 refine wp_region_lit ?_
 refine tkL (.int .u64 0) (h:=?_)
 try simp only[Act.put,sA,sB,sC]
 refine tkL (.bool false) (h:=?_)
 try simp only[Act.put,sA,sB,sC]
 refine tkL (.bool false) (h:=?_)
 try simp only[Act.put,sA,sB,sC]
 refine tkL (.int .u64 (m:Int)) (h:=?_)
 try simp only[Act.put,sA,sB,sC]
 refine wpList_q (by rfl) (.bool false) ?he ?_
 case he=>(have q0:=HMR.out; go_simp; (first | done | rfl | omega))
 try simp only[Act.put,sA,sB,sC]
 refine tkL (.bool false) (h:=?_)
 try simp only[Act.put,sA,sB,sC]
 refine wpList_nil ?_
 go_upto_region 6 with fail
 refine wp_region_lit ?_
 refine tkL (.int .u64 (m:Int)) (h:=?_)
 try simp only[Act.put,sA,sB,sC]
 refine wpList_q (by rfl) (.int .i64 (m:Int)) ?he ?_
 case he=>(have q:=HMR.out; go_simp; (first | done | rfl | (simp only [IntKind.wrap,IntKind.bits,IntKind.signed]; simp; omega)))
 try simp only[Act.put,sA,sB,sC]
 refine wpList_wp (by rfl) (fun K hK=>?_)
 refine wp_make 59 67 (.tmp 29) (.tmp 29) rfl (z:=Value.agg #[.int .i64 0,.int .i64 0,.int .i64 0,.int .i64 0,.int .i64 0,.int .i64 0,.int .i64 0,.bool false,.bool false,.int .i64 0,.int .i64 0,.bool false,.int .u64 0,.int .u64 0,.int .u64 0]) (k:=15) (bytes:=112) Tryz.underlying59 (by kernel_rfl) m rfl rfl (by have:=HMR.out; omega) (by decide) rfl ?_
 intro bD cur w2 hge hB hsz hb
 refine hK.out _ _ ?_
 clear hK K
 try simp only[Act.put,sA,sB,sC]
 have HSZ:=Lib.hid hsz; clear hsz
 have HNDX:=Lib.hid (show bD≠b by have:=Blk.lt HB.out; omega)
 have HGD:=Lib.hid (show w.heap.size≤bD by have:=Since.size HS1.out; omega)
 have HS2:=Lib.hid (Since.trans HS1.out hb)
 have HBX2:=Lib.hid (keep_blk hb HB.out)
 clear HS1 HB
 clear hb hge
 have HBD2:=Lib.hid hB
 clear hB
 refine tkL (.slice (some ⟨bD,0,none⟩) m m) (h:=?_)
 try simp only[Act.put,sA,sB,sC]
 refine wpList_nil ?_
 go_upto_region 7 with fail
 refine wp_region_lit ?_
 refine tkL (.slice (some ⟨bD,0,none⟩) m m) (h:=?_)
 try simp only[Act.put,sA,sB,sC]
 refine tkL (.slice (some ⟨b,0,none⟩) 1 1) (h:=?_)
 try simp only[Act.put,sA,sB,sC]
 refine wpList_wp (by rfl) (fun K hK=>?_)
 refine wp_copy_k (.tmp 31) (.tmp 32) 59 59 67 rfl Tryz.underlying59 (k:=15) (by kernel_rfl) (m:=1) (carL x) rfl rfl HBD2.out (by have:=HMR.out; show Nat.min 1 m=1; exact Nat.min_eq_left this.1) rfl (src_blk (l:=carL x) HBX2.out) (by have:=HSZ.out; have:=HMR.out; simp only [carL_len]; omega) (carL_one x) ?_
 intro w3 hw
 refine hK.out _ _ ?_
 clear hK K
 try simp only[Act.put,sA,sB,sC]
 have HS3:=Lib.hid (show Since w w3 by rw [hw]; exact Since.setRow HS2.out HGD.out _)
 have HBX3:=Lib.hid (show Blk w3 b 67 (carA x) by rw [hw]; exact Blk.row_far HBX2.out (Ne.symm HNDX.out) _)
 have HBD3:=Lib.hid (show Blk w3 bD 67 (copyR cur 0 (carL x)) by rw [hw]; exact Blk.row HBD2.out _)
 clear hw HS2 HBX2 HBD2
 refine tkL (.int .i64 ((1:Nat):Int)) (h:=?_)
 try simp only[Act.put,sA,sB,sC]
 refine wpList_nil ?_
 have HSZ1:=Lib.hid (copyR_size (cur:=cur) (o:=0) (cs:=carL x) (by have:=HSZ.out; have:=HMR.out; simp only [carL_len]; omega) HSZ.out)
 have HTK1:=Lib.hid (show (copyR cur 0 (carL x)).toList.take (1*15)=rowsOf carL (List.replicate 1 x) by have q:=copyR_take (cur:=cur) (o:=0) (cs:=carL x) (by have:=HSZ.out; have:=HMR.out; simp only [carL_len]; omega); simpa [carL_len,rowsOf] using q)
 go_wp2_with fail
 refine wp_uloop (ds:=[]) (fun n fr wr=>∃ (n2:Nat) (c2:Array Value),(1≤n2∧n2≤m)∧c2.size=m*15∧c2.toList.take (n2*15)=rowsOf carL (List.replicate n2 x)∧(m - n2)=n∧Fits fr 48 [(0,.slice (some ⟨b,0,none⟩) 1 1),(1,.int .i64 (m:Int)),(4,.slice none 0 0),(5,.int .u64 0),(6,.int .u64 (m:Int)),(7,.slice (some ⟨bD,0,none⟩) m m),(8,.int .i64 (n2:Int))]∧Hid (Since w wr∧Blk wr bD 67 c2)) (m - 1) ?start3 ?round3
 case start3=>exact ⟨1,(copyR cur 0 (carL x)),(by have:=HMR.out; omega),HSZ1.out,HTK1.out,rfl,⟨rfl,rfl,rfl,rfl,rfl,rfl,rfl,rfl,trivial⟩,Lib.hid ⟨HS3.out,HBD3.out⟩⟩
 case round3 =>
  intro n fr wr hR J1 K1 hJ1 hK1
  clear HS3 HBX3 HBD3
  obtain ⟨n2,c2,hn2,hsz2,htk2,hn,hF,HO⟩:=hR
  have HM:=Lib.hid hn; clear hn
  obtain ⟨g0,g1⟩:=HO.out
  clear HO
  have HS53:=Lib.hid g0
  have HBD53:=Lib.hid g1
  clear g0 g1
  obtain ⟨u,hu⟩:=hF.open_
  have hu2:=hu.trans (show _=#[.slice (some ⟨b,0,none⟩) 1 1,.int .i64 (m:Int),u 2,u 3,.slice none 0 0,.int .u64 0,.int .u64 (m:Int),.slice (some ⟨bD,0,none⟩) m m,.int .i64 (n2:Int),u 9,u 10,u 11,u 12,u 13,u 14,u 15,u 16,u 17,u 18,u 19,u 20,u 21,u 22,u 23,u 24,u 25,u 26,u 27,u 28,u 29,u 30,u 31,u 32,u 33,u 34,u 35,u 36,u 37,u 38,u 39,u 40,u 41,u 42,u 43,u 44,u 45,u 46,u 47] by kernel_rfl)
  clear hu hF
  subst hu2
  have HN2:=Lib.hid hn2; have HSZ2:=Lib.hid hsz2; have HTK2:=Lib.hid htk2; clear hn2 hsz2 htk2
  by_cases hcs:n2 < m
  rotate_left
  · have HLT:=Lib.hid hcs; clear hcs
    go_upto_region 8 with fail
    refine wp_region_lit ?_
    refine tkL (.int .i64 (n2:Int)) (h:=?_)
    try simp only[Act.put,sA,sB,sC]
    refine tkL (.slice (some ⟨bD,0,none⟩) m m) (h:=?_)
    try simp only[Act.put,sA,sB,sC]
    refine tkL (.int .i64 (m:Int)) (h:=?_)
    try simp only[Act.put,sA,sB,sC]
    refine wpList_q (by rfl) (.bool false) ?he ?_
    case he=>(have q0:=HLT.out; go_simp; (first | done | rfl | omega))
    try simp only[Act.put,sA,sB,sC]
    refine wpList_nil ?_
    go_upto_region 10 with fail
    refine wp_region_lit ?_
    refine tkL (.slice (some ⟨bD,0,none⟩) m m) (h:=?_)
    try simp only[Act.put,sA,sB,sC]
    refine tkL (.slice (some ⟨bD,0,none⟩) m m) (h:=?_)
    try simp only[Act.put,sA,sB,sC]
    refine wpList_nil ?_
    (try go_wp2_with fail)
    go_ret
    have e:n2=m:=by have:=HLT.out; have:=HN2.out; omega
    subst e
    exact ⟨bD,rfl,HGD.out,⟨by rw [rowsOf_len carL_len,List.length_replicate],.inr ⟨bD,_,_,rfl,HGD.out,HBD53.out,Nat.le_refl _,by have:=HMR.out; unfold maxLen; omega,HSZ2.out,HTK2.out⟩⟩,HS53.out⟩
  · have HLT:=Lib.hid hcs; clear hcs
    go_upto_region 8 with fail
    refine wp_region_lit ?_
    refine tkL (.int .i64 (n2:Int)) (h:=?_)
    try simp only[Act.put,sA,sB,sC]
    refine tkL (.slice (some ⟨bD,0,none⟩) m m) (h:=?_)
    try simp only[Act.put,sA,sB,sC]
    refine tkL (.int .i64 (m:Int)) (h:=?_)
    try simp only[Act.put,sA,sB,sC]
    refine wpList_q (by rfl) (.bool true) ?he ?_
    case he=>(have q0:=HLT.out; go_simp; (first | done | rfl | omega))
    try simp only[Act.put,sA,sB,sC]
    refine wpList_nil ?_
    have HMM:=Lib.hid (show (Nat.min n2 (m - n2))≤n2∧(Nat.min n2 (m - n2))≤m - n2∧1≤(Nat.min n2 (m - n2)) from ⟨Nat.min_le_left _ _,Nat.min_le_right _ _,Nat.le_min.2 ⟨HN2.out.1,by have:=HLT.out; omega⟩⟩)
    have HLC:=Lib.hid (show (rowsOf carL (List.replicate (Nat.min n2 (m - n2)) x)).length=(Nat.min n2 (m - n2))*15 by rw [rowsOf_len carL_len,List.length_replicate])
    have HFT:=Lib.hid (show n2*15+(rowsOf carL (List.replicate (Nat.min n2 (m - n2)) x)).length≤c2.size by rw [HLC.out,HSZ2.out]; have:=HMM.out; have:=HN2.out; omega)
    have HSZ3:=Lib.hid (copyR_size HFT.out HSZ2.out)
    go_upto_region 9 with fail
    have HKS:Hid (KeepS (fun W:World=>Since w W∧HasRow W bD 67 (m*15)) wr):=Lib.hid ⟨fun W W' k ⟨h,h0⟩=>⟨h.trans k,HasRow.keep k h0⟩,⟨HS53.out,HasRow.of HBD53.out HSZ2.out⟩⟩
    have HRK:=Lib.hid HKS.out.1
    have HPD:=Lib.hid (show Blk (World.drew wr) bD 67 c2 from HBD53.out)
    refine wp_held HKS.out (by kernel_rfl) (fun hHeld=>?_)
    refine tkQ 0 (.int .i64 (n2:Int)) hHeld (h:=?_)
    try simp only[Act.put,sA,sB,sC]
    refine tkQ 1 (.slice (some ⟨bD,0,none⟩) m m) hHeld (h:=?_)
    try simp only[Act.put,sA,sB,sC]
    refine tkQ 2 (.int .i64 (n2:Int)) hHeld (h:=?_)
    try simp only[Act.put,sA,sB,sC]
    refine tkQ 3 (.slice (some ⟨bD,n2*15,none⟩) (m - n2) (m - n2)) hHeld (he:=by intro w hSw; exact exec_slice (s:=15) 59 67 _ _ _ _ rfl rfl Tryz.underlying59 (by kernel_rfl) (sb_l _ _ (l:=n2) rfl (by have:=HN2.out; omega)) (by have q:=HLT.out; rw [if_neg (by omega)]; simp only [Option.map_some,Go.WideShapes.add_plain,Nat.zero_add]) rfl rfl) (h:=?_)
    try simp only[Act.put,sA,sB,sC]
    refine tkQ 4 (.slice (some ⟨bD,0,none⟩) m m) hHeld (h:=?_)
    try simp only[Act.put,sA,sB,sC]
    refine tkQ 5 (.int .i64 (n2:Int)) hHeld (h:=?_)
    try simp only[Act.put,sA,sB,sC]
    refine tkQ 6 (.slice (some ⟨bD,0,none⟩) n2 m) hHeld (he:=by intro w hSw; exact exec_slice (s:=15) 59 67 _ _ _ _ rfl rfl Tryz.underlying59 (by kernel_rfl) (sb_h _ _ (h:=n2) rfl (by have:=HN2.out; omega)) (by split <;> simp [Addr.add]) rfl rfl) (h:=?_)
    try simp only[Act.put,sA,sB,sC]
    refine wpAnyH_ready (rs:=[7]) (by kernel_rfl) (by simp) ?_
    refine AllReadyH.cons (o:=?o9__7) ?h9__7 (fun K hK=>?_) AllReadyH.nil
    case h9__7=>(first | (simp only [gA,gB,gC]; done)|(simp only [gA,gB,gC]; exact rfl))
    rw [if_pos (by rfl)]
    refine wp_copy_k (.tmp 41) (.tmp 44) 59 59 67 rfl Tryz.underlying59 (k:=15) (by kernel_rfl) (m:=(Nat.min n2 (m - n2))) (rowsOf carL (List.replicate (Nat.min n2 (m - n2)) x)) rfl rfl HPD.out rfl HLC.out (src_row HPD.out (by have q:=reps carL_len x n2 (Nat.min n2 (m - n2)) HMM.out.1; rw [← HTK2.out,List.take_take,Nat.min_eq_left (Nat.mul_le_mul_right 15 HMM.out.1)] at q; exact q)) HFT.out (cars_one _) ?_
    clear HPD
    intro w54 hw
    have HRD:=Lib.hid (show Blk w54 bD 67 (copyR c2 (n2*15) (rowsOf carL (List.replicate (Nat.min n2 (m - n2)) x))) by obtain ⟨old,Bo,_⟩:=hHeld.2; rw [hw]; exact Blk.row Bo _)
    have hHeld3:=HKS.out.at_ w54 ⟨by rw [hw]; exact Since.setRow hHeld.1 HGD.out _,HasRow.of HRD.out HSZ3.out⟩
    refine hK.out _ _ hHeld3 (fun hHeld2=>?_)
    clear hK K hHeld hHeld3 hw
    have hHeld:=hHeld2
    clear hHeld2
    try simp only[Act.put,sA,sB,sC]
    refine tkQ 8 (.int .i64 ((n2:Int)+((Nat.min n2 (m - n2)):Int))) hHeld (he:=by intro w hSw; (go_simp; (first | done | (refine wrG _ ?_ ?_ <;> (have q0:=HMM.out; have q1:=HN2.out; have q2:=HMR.out; omega))|(have q0:=HMM.out; have q1:=HN2.out; have q2:=HMR.out; omega)|(have q0:=HMM.out; have q1:=HN2.out; have q2:=HMR.out; split <;> omega)|(have q0:=HMM.out; have q1:=HN2.out; have q2:=HMR.out; intro hh; omega)))) (h:=?_)
    try simp only[Act.put,sA,sB,sC]
    refine tkQ 9 (.int .i64 ((n2:Int)+((Nat.min n2 (m - n2)):Int))) hHeld (h:=?_)
    try simp only[Act.put,sA,sB,sC]
    refine wpAnyH_done (by kernel_rfl) ?_ _
    have HSd9:=Lib.hid hHeld.1
    have HBDd9:=Lib.hid HRD.out
    clear HRD
    clear hHeld HRK HKS HS53 HBD53
    go_wp2_with fail
    refine Met.intro ?_
    refine hJ1 _ _ _ ?less54 ⟨(n2+(Nat.min n2 (m - n2))),(copyR c2 (n2*15) (rowsOf carL (List.replicate (Nat.min n2 (m - n2)) x))),(by have:=HMM.out; have:=HN2.out; omega),HSZ3.out,(by have q:=copyR_take HFT.out; rw [HLC.out,← Nat.add_mul,HTK2.out,reps_add] at q; exact q),rfl,⟨rfl,rfl,rfl,rfl,rfl,rfl,rfl,(by show some (Value.int .i64 ((n2:Int)+_))=_; (try push_cast); rfl),trivial⟩,Lib.hid ⟨HSd9.out,HBDd9.out⟩⟩
    case less54=>exact (by have:=HM.out; have:=HMM.out; have:=HLT.out; omega)
end Gr
namespace Gr
open Go.RowKit Ba Mem En Mo Go.Proofs.YtpiiblkiddcgcaaGreat.Ty Go.Proofs.YtpiiblkiddcgcaaGreat.St
open Ct (cfgA carA)
open Et (carsO)
set_option maxRecDepth 100000
attribute [local irreducible] Go.Calls
theorem carsT (lo q:Nat) (G:GrV) (S:List Nat) (w:World) (hg:GO lo q G S w) (hl:G.cars.length≤1000000):Calls Tryz.prog 33 #[.pointer (some ⟨q,0,none⟩)] w fun e w'=>∃ A' c',e=.returned (.slice A' G.cars.length c')∧CarsAt w.heap.size A' G.cars.length c' G.cars w'∧Since w w':=by
 obtain ⟨h0,A1,c1,A2,c2,rfl,hq,O1,O2⟩:=hg
 refine entH tab_ok (Hold.addObj (hold_q (S:=[]) [.i .i64 G.c.ca,.i .i64 G.c.fl,.i .i64 G.c.ft,.i .i64 G.c.se,.i .i64 G.c.dr,.i .i64 G.c.dw,.i .i64 G.c.ho,.i .i64 G.c.re,.i .i64 G.c.yi,.i .i64 G.c.qu,.i .i64 G.c.qo,.i .i64 G.c.lo,.i .i64 G.c.sl,.i .i64 G.c.rt,.i .i64 G.c.cp,.i .i64 G.c.tr,.i .i64 G.c.de,.i .i64 G.c.wi,.v (.slice A1 G.cars.length c1),.v (.slice A2 G.waits.length c2),.i .i64 G.now] hq) (carsO lo A1 G.cars.length c1 G.cars false) O1 (by intro k; cases k) (by intro r hr _; rw [List.mem_singleton] at hr; subst hr; exact own_ne_ty O1 hq (by decide)) (by intro A hA; cases hA)) [.p 0 0] Tryz.func33 Tryz.ntmps33 rfl rfl ?_
 repeat' (first | refine gs_ ?_|((conv=>whnf); first | intro b | refine callN (f:=95) (ι:={x:Nat×Option Addr×Nat // w.heap.size≤x.1}) (fun x=>.v (.slice x.1.2.1 G.cars.length x.1.2.2)) (fun x=>carsO x.1.1 x.1.2.1 G.cars.length x.1.2.2 G.cars true) (fun w1 hH=>(C1.cloneT lo A1 c1 G.cars w1 (hH.obj (carsO lo A1 G.cars.length c1 G.cars false) (List.mem_singleton.2 rfl)) hl).mono (by rintro e w' ⟨A',c',rfl,hO,hs⟩; exact ⟨⟨(w1.heap.size,A',c'),hH.upd.size⟩,rfl,hO,hs,own_low hO⟩)) (fun x=>?_)|refine fin fun w' hH=>⟨_,_,rfl,own_base (hH.obj (carsO _ _ _ _ _ true) (List.mem_cons_of_mem _ (List.mem_cons_self ..))) x.2,hH.upd.since⟩|refine fin_s ?_))
theorem waitsT (lo q:Nat) (G:GrV) (S:List Nat) (w:World) (hg:GO lo q G S w) (hl:G.waits.length≤1000000):Calls Tryz.prog 35 #[.pointer (some ⟨q,0,none⟩)] w fun e w'=>∃ A' c',e=.returned (.slice A' G.waits.length c')∧WaitsAt w.heap.size A' G.waits.length c' G.waits w'∧Since w w':=by
 obtain ⟨h0,A1,c1,A2,c2,rfl,hq,O1,O2⟩:=hg
 refine entH tab_ok (Hold.addObj (hold_q (S:=[]) [.i .i64 G.c.ca,.i .i64 G.c.fl,.i .i64 G.c.ft,.i .i64 G.c.se,.i .i64 G.c.dr,.i .i64 G.c.dw,.i .i64 G.c.ho,.i .i64 G.c.re,.i .i64 G.c.yi,.i .i64 G.c.qu,.i .i64 G.c.qo,.i .i64 G.c.lo,.i .i64 G.c.sl,.i .i64 G.c.rt,.i .i64 G.c.cp,.i .i64 G.c.tr,.i .i64 G.c.de,.i .i64 G.c.wi,.v (.slice A1 G.cars.length c1),.v (.slice A2 G.waits.length c2),.i .i64 G.now] hq) (waitsO lo A2 G.waits.length c2 G.waits false) O2 (by intro k; cases k) (by intro r hr _; rw [List.mem_singleton] at hr; subst hr; exact own_ne_ty O2 hq (by decide)) (by intro A hA; cases hA)) [.p 0 0] Tryz.func35 Tryz.ntmps35 rfl rfl ?_
 repeat' (first | refine gs_ ?_|((conv=>whnf); first | intro b | refine callN (f:=96) (ι:={x:Nat×Option Addr×Nat // w.heap.size≤x.1}) (fun x=>.v (.slice x.1.2.1 G.waits.length x.1.2.2)) (fun x=>waitsO x.1.1 x.1.2.1 G.waits.length x.1.2.2 G.waits true) (fun w1 hH=>(C2.cloneT lo A2 c2 G.waits w1 (hH.obj (waitsO lo A2 G.waits.length c2 G.waits false) (List.mem_singleton.2 rfl)) hl).mono (by rintro e w' ⟨A',c',rfl,hO,hs⟩; exact ⟨⟨(w1.heap.size,A',c'),hH.upd.size⟩,rfl,hO,hs,own_low hO⟩)) (fun x=>?_)|refine fin fun w' hH=>⟨_,_,rfl,own_base (hH.obj (waitsO _ _ _ _ _ true) (List.mem_cons_of_mem _ (List.mem_cons_self ..))) x.2,hH.upd.since⟩|refine fin_s ?_))
theorem nowT (lo q:Nat) (G:GrV) (S:List Nat) (w:World) (hg:GO lo q G S w):Calls Tryz.prog 34 #[.pointer (some ⟨q,0,none⟩)] w fun e w'=>e=.returned (.int .i64 G.now)∧Since w w':=by
 obtain ⟨h0,A1,c1,A2,c2,rfl,hq,O1,O2⟩:=hg
 refine entH tab_ok (hold_q (S:=[]) [.i .i64 G.c.ca,.i .i64 G.c.fl,.i .i64 G.c.ft,.i .i64 G.c.se,.i .i64 G.c.dr,.i .i64 G.c.dw,.i .i64 G.c.ho,.i .i64 G.c.re,.i .i64 G.c.yi,.i .i64 G.c.qu,.i .i64 G.c.qo,.i .i64 G.c.lo,.i .i64 G.c.sl,.i .i64 G.c.rt,.i .i64 G.c.cp,.i .i64 G.c.tr,.i .i64 G.c.de,.i .i64 G.c.wi,.v (.slice A1 G.cars.length c1),.v (.slice A2 G.waits.length c2),.i .i64 G.now] hq) [.p 0 0] Tryz.func34 Tryz.ntmps34 rfl rfl ?_
 repeat' (first | refine gs_ ?_|((conv=>whnf); first | intro b | refine fin_s ?_))
 all_goals rfl
def ncars (c:CfgV):Nat:=if c.ca < 1 then 1 else if 8 < c.ca then 8 else c.ca.toNat
theorem ncars_bd (c:CfgV):1≤ncars c∧ncars c≤8:=by unfold ncars; (repeat' split) <;> omega
theorem ncE (c:CfgV):(if 8 < (if 1 > c.ca then 1 else c.ca) then 8 else (if 1 > c.ca then 1 else c.ca))=(ncars c:Int):=by
 have h:(ncars c:Int)=if c.ca < 1 then 1 else if 8 < c.ca then 8 else c.ca:=by unfold ncars; by_cases h1:c.ca < 1 <;> by_cases h2:8 < c.ca <;> simp [h1,h2] <;> omega
 rw [h]; repeat' split <;> omega
def zeroX:CarV:=⟨0,0,0,0,0,-1,0,false,false,0,0,false,0,0,0⟩
def newG (c:CfgV):GrV:=⟨c,List.replicate (ncars c) zeroX,[],0⟩
theorem newT (c:CfgV) (w:World):Calls Tryz.prog 5 #[.agg (cfgA c)] w fun e w'=>∃ q S',e=.returned (.pointer (some ⟨q,0,none⟩))∧GO w.heap.size q (newG c) S' w'∧Since w w':=by
 have hm:=ncars_bd c
 refine ent tab_ok [.a (sCfg c)] Tryz.func5 Tryz.ntmps5 rfl rfl ?_
 repeat' (first | refine gs_ ?_|((conv=>whnf); first | intro b | refine callS (f:=25) (.a (sCar zeroX)) (Pl.newT) ?_|refine opb1 (e:=67) ⟨tab_ok⟩ (sCar zeroX) (by rfl) (by rfl) ?_|refine callN (f:=24) (ι:={x:Nat×Nat // w.heap.size≤x.1}) (fun x=>.v (.slice (some ⟨x.1.2,0,none⟩) (ncars c) (ncars c))) (fun x=>carsO x.1.1 (some ⟨x.1.2,0,none⟩) (ncars c) (ncars c) (List.replicate (ncars c) zeroX) true) (fun w1 hH=>by have:=repeatT _ (ncars c) zeroX w1 (hH.row 1 _ rfl rfl) (by omega); rw [← ncE] at this; exact this.mono (by rintro e w' ⟨g,rfl,hg,hO,hs⟩; exact ⟨⟨(w1.heap.size,g),hH.upd.size⟩,rfl,hO,hs,own_low hO⟩)) (fun x=>?_)|refine fin_s ?_))
 all_goals (conv=>whnf)
 have e:(List.replicate (ncars c) zeroX).length=ncars c:=List.length_replicate
 refine fin fun w' hH=>⟨_,_,rfl,⟨?_,some ⟨x.1.2,0,none⟩,ncars c,none,0,rfl, ?_, ?_,World.ownsRow_nil _ _ _ _⟩,hH.upd.since⟩
 ·rcases (hH.wf 2 _ rfl rfl).2.2 rfl with h | h
  ·cases h
  ·exact h
 ·have q:=hH.row 2 _ rfl rfl
  rw [rowA_nil rfl rfl] at q
  have e2:(newG c).cars.length=ncars c:=e
  rw [e2]; exact q
 ·have q:=own_base (hH.obj (carsO x.1.1 (some ⟨x.1.2,0,none⟩) (ncars c) (ncars c) (List.replicate (ncars c) zeroX) true) (List.mem_singleton.2 rfl)) x.2
  unfold CarsAt
  simpa [newG,e] using q
end Gr
end Go.Proofs.YtpiiblkiddcgcaaGreat
