/-
  Wanted: part 10.
  No condition.
-/
import Derived.Test.YtpiiblkiddcgcaaGreatPK8
import Derived.Test.YtpiiblkiddcgcaaGreatPK5
import Derived.Test.YtpiiblkiddcgcaaGreatPK4
import Derived.Test.YtpiiblkiddcgcaaGreatPK9
import Derived.Test.YtpiiblkiddcgcaaGreatPK6
set_option linter.all false
namespace Go.Proofs.YtpiiblkiddcgcaaGreat
namespace Rf
open Go.RowKit Ba Mem En Do Mo Go.Proofs.YtpiiblkiddcgcaaGreat.Ty Ce Go.Proofs.YtpiiblkiddcgcaaGreat.St Sc Pl Ct
set_option maxRecDepth 100000
attribute [local irreducible] Go.Calls
theorem doorR (s a t:Int) (b:Bool) (ha:0≤a∧a≤1000) (w:World):Calls Tryz.prog 165 #[.agg #[.int .i64 s,.int .i64 a],.int .i64 t,.bool b] w fun e w'=>e=.returned (.agg #[.int .i64 (tS s a t b),.int .i64 (tA s a t b)])∧Since w w':=by
 refine ent tab_ok [.a [.i .i64 s,.i .i64 a],.i .i64 t,.b b] Tryz.func165 Tryz.ntmps165 rfl rfl ?_
 repeat' (first | refine gs_ ?_|((conv=>whnf); first | intro b1 | refine wr_i ?_|refine b3_ (fun h=>?_) (fun h=>?_)|refine callS (f:=93) (.i .i64 (hd _)) (spanR _) ?_|refine fin_s ?_))
 all_goals (simp only [den,denL]; exact ret2 (by unfold tS; simp_all <;> omega) (by unfold tA; simp_all <;> omega))
theorem floorsR (n:Int) (w:World):Calls Tryz.prog 112 #[.int .i64 n] w fun e w'=>e=.returned (.int .i64 (fl n))∧Since w w':=by
 refine ent tab_ok [.i .i64 n] Tryz.func112 Tryz.ntmps112 rfl rfl ?_
 repeat' (first | refine gs_ ?_|((conv=>whnf); first | refine b3_ (fun h=>?_) (fun h=>?_)|refine fin_s ?_))
 all_goals (refine congrArg (Value.int .i64) ?_; unfold fl; (repeat' split) <;> omega)
theorem massR (n:Int) (w:World):Calls Tryz.prog 94 #[.int .i64 n] w fun e w'=>e=.returned (.int .i64 (ms n))∧Since w w':=by
 refine ent tab_ok [.i .i64 n] Tryz.func94 Tryz.ntmps94 rfl rfl ?_
 repeat' (first | refine gs_ ?_|((conv=>whnf); first | refine b3_ (fun h=>?_) (fun h=>?_)|refine fin_s ?_))
 all_goals (refine congrArg (Value.int .i64) ?_; unfold ms; (repeat' split) <;> omega)
theorem moveR (u v f:Int) (h : -9223372036854775808≤u∧u≤9223372036854775807) (w:World):Calls Tryz.prog 166 #[.int .i64 u,.int .i64 v,.int .i64 f] w fun e w'=>e=.returned (.int .i64 (mv u v f))∧Since w w':=by
 have h1:=fl_lo f
 have h2:=fl_hi f
 refine ent tab_ok [.i .i64 u,.i .i64 v,.i .i64 f] Tryz.func166 Tryz.ntmps166 rfl rfl ?_
 repeat' (first | refine gq_ ?_|((conv=>whnf); first | refine wr_i ?_|refine bto ?_|refine bfo ?_|refine b3_ (fun h=>?_) (fun h=>?_)|refine callS (f:=112) (.i .i64 (fl _)) (floorsR _) ?_|refine fin_s ?_))
 all_goals exact congrArg (Value.int .i64) (by unfold mv; repeat' split <;> omega)
theorem towardR (u f:Int) (h : -1099511627776≤f∧f≤1099511627776) (w:World):Calls Tryz.prog 90 #[.int .i64 u,.int .i64 f] w fun e w'=>e=.returned (.int .i64 (tw u f))∧Since w w':=by
 refine ent tab_ok [.i .i64 u,.i .i64 f] Tryz.func90 Tryz.ntmps90 rfl rfl ?_
 repeat' (first | refine gq_ ?_|((conv=>whnf); first | refine wr_i ?_|refine bto ?_|refine bfo ?_|refine b3_ (fun h=>?_) (fun h=>?_)|refine fin_s ?_))
 all_goals exact congrArg (Value.int .i64) (by unfold tw; repeat' split <;> omega)
theorem farR (u f:Int) (h : -1099511627776≤u∧u≤1099511627776) (h' : -1099511627776≤f∧f≤1099511627776) (w:World):Calls Tryz.prog 139 #[.int .i64 u,.int .i64 f] w fun e w'=>e=.returned (.int .i64 (fr u f))∧Since w w':=by
 refine ent tab_ok [.i .i64 u,.i .i64 f] Tryz.func139 Tryz.ntmps139 rfl rfl ?_
 repeat' (first | refine gq_ ?_|((conv=>whnf); first | refine wr_i ?_|refine bto ?_|refine bfo ?_|refine b3_ (fun h=>?_) (fun h=>?_)|refine fin_s ?_))
 all_goals exact congrArg (Value.int .i64) (by unfold fr; repeat' split <;> omega)
theorem levelR (u:Int) (w:World):Calls Tryz.prog 89 #[.int .i64 u] w fun e w'=>e=.returned (.tuple #[.int .i64 (lvN u),.bool (lvB u)])∧Since w w':=by
 have hm:0≤u→u.tmod 4=u % 4:=fun h=>Int.tmod_eq_emod_of_nonneg h
 have hd:0≤u→u.tdiv 4=u / 4:=fun h=>Int.tdiv_eq_ediv_of_nonneg h
 refine ent tab_ok [.i .i64 u] Tryz.func89 Tryz.ntmps89 rfl rfl ?_
 repeat' (first | refine gq_ ?_|((conv=>whnf); first | refine cd (by first | decide | omega) ?_|refine wr_i ?_|refine wr_q ?_|refine bto ?_|refine bfo ?_|refine b3_ (fun h=>?_) (fun h=>?_)|refine br_ne (fun h=>?_) (fun h=>?_)|refine fin_s ?_))
 all_goals refine ret_lv ?_ ?_
 all_goals (first | (show _=lvN u; unfold lvN lvB; simp_all <;> omega)|(show _=lvB u; unfold lvB; simp_all <;> omega))
attribute [local irreducible] lvB
set_option maxHeartbeats 4000000 in
theorem stepR (c:CfgV) (x:CarV) (r:Int) (o k:Bool) (ha:0≤x.da∧x.da≤1000) (u : -9223372036854775808≤x.un∧x.un≤9223372036854775807) (w:World):Calls Tryz.prog 88 #[.agg (cfgA c),.agg (carA x),.agg #[.int .i64 r,.bool o,.bool k]] w fun e w'=>e=.returned (.agg (carA (stepV c x r o k)))∧Since w w':=by
 refine ent tab_ok [.a (sCfg c),.a (sCar x),.a [.i .i64 r,.b o,.b k]] Tryz.func88 Tryz.ntmps88 rfl rfl ?_
 repeat' (first | refine gs_ ?_|((conv=>whnf); first | intro b | refine b3_ (fun h=>?_) (fun h=>?_)|refine callS (f:=89) (.t [.i .i64 (lvN _),.b (lvB _)]) (levelR _) ?_|refine callS (f:=165) (.a [.i .i64 (tS _ _ _ _),.i .i64 (tA _ _ _ _)]) (doorR _ _ _ _ ha) ?_|refine callS (f:=166) (.i .i64 (mv _ _ _)) (moveR _ _ _ u) ?_|refine fin_s ?_))
 all_goals (simp only [den,denL,carA,stepV,dS1,dA1,un1,wy1,goesB,dS0,toldS,oS,cS]; simp_all)
theorem bitI_an (x y:Int):bitI .andNot .u64 x y=bits .andNot .u64 x y:=rfl
theorem ibeq (a b:Int):(a == b)=decide (a=b):=by cases h:(a == b) <;> simp_all
theorem there_iff {x:CarV} (h0:0≤x.ta) (h1:x.ta≤63):ldT x=(lvB x.un && decide (lvN x.un=x.ta)):=by
 have h:=far_lv x.ta h0 h1
 unfold ldT
 by_cases e:x.un=4*x.ta
 ·rw [e,h.1,h.2]
  unfold tw
  simp
 ·have e2:decide (tw x.un x.ta=0)=false:=by unfold tw; simp; (repeat' split) <;> omega
  rw [e2]
  by_cases hl:lvB x.un=true
  ·rw [hl]
   have:lvN x.un≠x.ta:=by
    intro hc
    have hl2:=(lvB_iff _).1 hl
    unfold lvN at hc; rw [if_pos hl] at hc; omega
   simp [this]
  ·simp [hl]
abbrev juX (x:CarV):CarV:={ x with ju := -1 }
abbrev wyX (x:CarV) (v:Int):CarV:={ x with wy:=v }
abbrev tiX (x:CarV) (v:Int):CarV:={ x with ti:=v }
theorem ret_tk {A B:CarV} {f g y z:Int} {s t:Bool} (h:A=B) (h1:f=g) (h2:y=z) (h3:s=t):Value.tuple #[.agg (carA A),.agg #[.int .i64 f,.int .i64 y],.bool s]=.tuple #[.agg (carA B),.agg #[.int .i64 g,.int .i64 z],.bool t]:=by subst h h1 h2 h3; rfl
attribute [local irreducible] atB nxW nxO bit ms stepV
theorem tickRb (c:CfgV) (x:CarV) (hb:x.br=true) (hbd:bdX x) (w:World):Calls Tryz.prog 32 #[.agg (cfgA c),.agg (carA x)] w fun e w'=>e=.returned (.tuple #[.agg (carA (tkV c x)),.agg #[.int .i64 (tkF x),.int .i64 (tkW x)],.bool (tkS x)])∧Since w w':=by
 refine ent tab_ok [.a (sCfg c),.a (sCar x)] Tryz.func32 Tryz.ntmps32 rfl rfl ?_
 repeat' (first | refine gs_ ?_|((conv=>whnf); first | intro b | refine callS (f:=88) (.a [.i .i64 (stepV c x 0 false false).ds,.i .i64 (stepV c x 0 false false).da,.i .i64 (stepV c x 0 false false).un,.i .i64 (stepV c x 0 false false).wy,.i .i64 (stepV c x 0 false false).ti,.i .i64 (stepV c x 0 false false).ju,.i .i64 (stepV c x 0 false false).lo,.b (stepV c x 0 false false).bl,.b (stepV c x 0 false false).br,.i .i64 (stepV c x 0 false false).mo,.i .i64 (stepV c x 0 false false).ta,.b (stepV c x 0 false false).ho,.i .u64 (stepV c x 0 false false).sp,.i .u64 (stepV c x 0 false false).su,.i .u64 (stepV c x 0 false false).sd]) (stepR c x 0 false false hbd.1 hbd.2) ?_|refine fin_s ?_))
 refine ret_tk (A:=stepV c x 0 false false) ?_ ?_ ?_ ?_
 all_goals (simp [tkV,tkX,tkR,tkO,tkK,tkS,tkF,tkW,hb])
set_option maxHeartbeats 8000000 in
theorem tickR1 (c:CfgV) (x:CarV) (hb:x.br=false) (hm:x.mo=1) (hbd:bdX x) (ht:0≤x.ta∧x.ta≤63) (w:World):Calls Tryz.prog 32 #[.agg (cfgA c),.agg (carA x)] w fun e w'=>e=.returned (.tuple #[.agg (carA (tkV c x)),.agg #[.int .i64 (tkF x),.int .i64 (tkW x)],.bool (tkS x)])∧Since w w':=by
 have hT:=there_iff ht.1 ht.2
 refine ent tab_ok [.a (sCfg c),.a (sCar x)] Tryz.func32 Tryz.ntmps32 rfl rfl ?_
 repeat' (first | refine gs_ ?_|((conv=>whnf); first | intro b | refine b3_ (fun h=>?_) (fun h=>?_)|refine callS (f:=89) (.t [.i .i64 (lvN _),.b (lvB _)]) (levelR _) ?_|refine callS (f:=90) (.i .i64 (tw _ _)) (towardR _ _ (by omega)) ?_|refine callS (f:=88) (.a [.i .i64 (stepV c x _ _ _).ds,.i .i64 (stepV c x _ _ _).da,.i .i64 (stepV c x _ _ _).un,.i .i64 (stepV c x _ _ _).wy,.i .i64 (stepV c x _ _ _).ti,.i .i64 (stepV c x _ _ _).ju,.i .i64 (stepV c x _ _ _).lo,.b (stepV c x _ _ _).bl,.b (stepV c x _ _ _).br,.i .i64 (stepV c x _ _ _).mo,.i .i64 (stepV c x _ _ _).ta,.b (stepV c x _ _ _).ho,.i .u64 (stepV c x _ _ _).sp,.i .u64 (stepV c x _ _ _).su,.i .u64 (stepV c x _ _ _).sd]) (stepR c x _ _ _ hbd.1 hbd.2) ?_|refine callS (f:=88) (.a [.i .i64 (stepV c (juX x) _ _ _).ds,.i .i64 (stepV c (juX x) _ _ _).da,.i .i64 (stepV c (juX x) _ _ _).un,.i .i64 (stepV c (juX x) _ _ _).wy,.i .i64 (stepV c (juX x) _ _ _).ti,.i .i64 (stepV c (juX x) _ _ _).ju,.i .i64 (stepV c (juX x) _ _ _).lo,.b (stepV c (juX x) _ _ _).bl,.b (stepV c (juX x) _ _ _).br,.i .i64 (stepV c (juX x) _ _ _).mo,.i .i64 (stepV c (juX x) _ _ _).ta,.b (stepV c (juX x) _ _ _).ho,.i .u64 (stepV c (juX x) _ _ _).sp,.i .u64 (stepV c (juX x) _ _ _).su,.i .u64 (stepV c (juX x) _ _ _).sd]) (stepR c (juX x) _ _ _ hbd.1 hbd.2) ?_|refine fin_s ?_))
 all_goals (refine ret_tk (A:=stepV c _ _ _ _) ?_ ?_ ?_ ?_)
 all_goals (first | (simp [tkS,tkF,tkW,hb,hm]; done)|(unfold tkV; congr 1 <;> (simp_all [tkX,tkR,tkO,tkK,ldX,ldR,ldO,ldK,ibeq])))
abbrev sv0 (c:CfgV) (x:CarV):CarV:={ x with sp:=bitI .andNot .u64 x.sp (bit (lvN x.un)),ti:=Do.hd c.dw,ju:=lvN x.un,wy:=nxW x.sp x.su x.sd (lvN x.un) x.wy x.ju }
abbrev sv1 (c:CfgV) (x:CarV):CarV:={ x with sp:=bitI .andNot .u64 x.sp (bit (lvN x.un)),su:=bitI .andNot .u64 x.su (bit (lvN x.un)),ti:=Do.hd c.dw,ju:=lvN x.un,wy:=nxW x.sp x.su x.sd (lvN x.un) x.wy x.ju }
abbrev sv2 (c:CfgV) (x:CarV):CarV:={ x with sp:=bitI .andNot .u64 x.sp (bit (lvN x.un)),sd:=bitI .andNot .u64 x.sd (bit (lvN x.un)),ti:=Do.hd c.dw,ju:=lvN x.un,wy:=nxW x.sp x.su x.sd (lvN x.un) x.wy x.ju }
theorem dw_hd' (n:Int):dwV n=Do.hd n:=by unfold dwV m1 Do.hd; repeat' split <;> omega
set_option maxHeartbeats 8000000 in
theorem tickRa (c:CfgV) (x:CarV) (hb:x.br=false) (hm:x.mo=0) (hbd:bdX x) (hp:R x.sp) (hu:R x.su) (hd:R x.sd) (hw:x.wy=0∨x.wy=1∨x.wy=2) (h0:x.ds=0) (hl:lvB x.un=true) (w:World):Calls Tryz.prog 32 #[.agg (cfgA c),.agg (carA x)] w fun e w'=>e=.returned (.tuple #[.agg (carA (tkV c x)),.agg #[.int .i64 (tkF x),.int .i64 (tkW x)],.bool (tkS x)])∧Since w w':=by
 have hn:nxW x.sp x.su x.sd (lvN x.un) x.wy x.ju=0∨nxW x.sp x.su x.sd (lvN x.un) x.wy x.ju=1∨nxW x.sp x.su x.sd (lvN x.un) x.wy x.ju=2:=nx_in hw
 rcases hn with hn | hn | hn
 all_goals
  refine ent tab_ok [.a (sCfg c),.a (sCar x)] Tryz.func32 Tryz.ntmps32 rfl rfl ?_
  repeat' (first | refine gs_ ?_|((conv=>whnf); first | intro b | refine br_f (beq_eq_false_iff_ne.2 (show ¬ x.mo=1 by omega)) ?_|refine br_f (beq_eq_false_iff_ne.2 (show ¬ nxW x.sp x.su x.sd (lvN x.un) x.wy x.ju=_ by omega)) ?_|refine b3_ (fun h=>?_) (fun h=>?_)|refine callS (f:=89) (.t [.i .i64 (lvN _),.b (lvB _)]) (levelR _) ?_|refine callS (f:=91) (.t [.i .i64 (nxW x.sp x.su x.sd (lvN x.un) x.wy x.ju),.b (nxO x.sp x.su x.sd (lvN x.un) x.wy x.ju)]) (fun w=>nextR _ _ _ _ _ _ hw hp hu hd w) ?_|refine callS (f:=92) (.b (atB _ _ _ _)) (hallR _ _ _ _ _ hu hd) ?_|refine callS (f:=93) (.i .i64 (Do.hd _)) (spanR _) ?_|refine callS (f:=94) (.i .i64 (ms _)) (massR _) ?_|refine callQ (f:=87) (.i .u64 (bit _)) (fun w=>bitR _ w) ?_|refine callS (f:=88) (.a [.i .i64 (stepV c (sv0 c x) _ _ _).ds,.i .i64 (stepV c (sv0 c x) _ _ _).da,.i .i64 (stepV c (sv0 c x) _ _ _).un,.i .i64 (stepV c (sv0 c x) _ _ _).wy,.i .i64 (stepV c (sv0 c x) _ _ _).ti,.i .i64 (stepV c (sv0 c x) _ _ _).ju,.i .i64 (stepV c (sv0 c x) _ _ _).lo,.b (stepV c (sv0 c x) _ _ _).bl,.b (stepV c (sv0 c x) _ _ _).br,.i .i64 (stepV c (sv0 c x) _ _ _).mo,.i .i64 (stepV c (sv0 c x) _ _ _).ta,.b (stepV c (sv0 c x) _ _ _).ho,.i .u64 (stepV c (sv0 c x) _ _ _).sp,.i .u64 (stepV c (sv0 c x) _ _ _).su,.i .u64 (stepV c (sv0 c x) _ _ _).sd]) (stepR c (sv0 c x) _ _ _ hbd.1 hbd.2) ?_|refine callS (f:=88) (.a [.i .i64 (stepV c (sv1 c x) _ _ _).ds,.i .i64 (stepV c (sv1 c x) _ _ _).da,.i .i64 (stepV c (sv1 c x) _ _ _).un,.i .i64 (stepV c (sv1 c x) _ _ _).wy,.i .i64 (stepV c (sv1 c x) _ _ _).ti,.i .i64 (stepV c (sv1 c x) _ _ _).ju,.i .i64 (stepV c (sv1 c x) _ _ _).lo,.b (stepV c (sv1 c x) _ _ _).bl,.b (stepV c (sv1 c x) _ _ _).br,.i .i64 (stepV c (sv1 c x) _ _ _).mo,.i .i64 (stepV c (sv1 c x) _ _ _).ta,.b (stepV c (sv1 c x) _ _ _).ho,.i .u64 (stepV c (sv1 c x) _ _ _).sp,.i .u64 (stepV c (sv1 c x) _ _ _).su,.i .u64 (stepV c (sv1 c x) _ _ _).sd]) (stepR c (sv1 c x) _ _ _ hbd.1 hbd.2) ?_|refine callS (f:=88) (.a [.i .i64 (stepV c (sv2 c x) _ _ _).ds,.i .i64 (stepV c (sv2 c x) _ _ _).da,.i .i64 (stepV c (sv2 c x) _ _ _).un,.i .i64 (stepV c (sv2 c x) _ _ _).wy,.i .i64 (stepV c (sv2 c x) _ _ _).ti,.i .i64 (stepV c (sv2 c x) _ _ _).ju,.i .i64 (stepV c (sv2 c x) _ _ _).lo,.b (stepV c (sv2 c x) _ _ _).bl,.b (stepV c (sv2 c x) _ _ _).br,.i .i64 (stepV c (sv2 c x) _ _ _).mo,.i .i64 (stepV c (sv2 c x) _ _ _).ta,.b (stepV c (sv2 c x) _ _ _).ho,.i .u64 (stepV c (sv2 c x) _ _ _).sp,.i .u64 (stepV c (sv2 c x) _ _ _).su,.i .u64 (stepV c (sv2 c x) _ _ _).sd]) (stepR c (sv2 c x) _ _ _ hbd.1 hbd.2) ?_|refine callS (f:=88) (.a [.i .i64 (stepV c (juX x) _ _ _).ds,.i .i64 (stepV c (juX x) _ _ _).da,.i .i64 (stepV c (juX x) _ _ _).un,.i .i64 (stepV c (juX x) _ _ _).wy,.i .i64 (stepV c (juX x) _ _ _).ti,.i .i64 (stepV c (juX x) _ _ _).ju,.i .i64 (stepV c (juX x) _ _ _).lo,.b (stepV c (juX x) _ _ _).bl,.b (stepV c (juX x) _ _ _).br,.i .i64 (stepV c (juX x) _ _ _).mo,.i .i64 (stepV c (juX x) _ _ _).ta,.b (stepV c (juX x) _ _ _).ho,.i .u64 (stepV c (juX x) _ _ _).sp,.i .u64 (stepV c (juX x) _ _ _).su,.i .u64 (stepV c (juX x) _ _ _).sd]) (stepR c (juX x) _ _ _ hbd.1 hbd.2) ?_|refine callS (f:=88) (.a [.i .i64 (stepV c (wyX x 0) _ _ _).ds,.i .i64 (stepV c (wyX x 0) _ _ _).da,.i .i64 (stepV c (wyX x 0) _ _ _).un,.i .i64 (stepV c (wyX x 0) _ _ _).wy,.i .i64 (stepV c (wyX x 0) _ _ _).ti,.i .i64 (stepV c (wyX x 0) _ _ _).ju,.i .i64 (stepV c (wyX x 0) _ _ _).lo,.b (stepV c (wyX x 0) _ _ _).bl,.b (stepV c (wyX x 0) _ _ _).br,.i .i64 (stepV c (wyX x 0) _ _ _).mo,.i .i64 (stepV c (wyX x 0) _ _ _).ta,.b (stepV c (wyX x 0) _ _ _).ho,.i .u64 (stepV c (wyX x 0) _ _ _).sp,.i .u64 (stepV c (wyX x 0) _ _ _).su,.i .u64 (stepV c (wyX x 0) _ _ _).sd]) (stepR c (wyX x 0) _ _ _ hbd.1 hbd.2) ?_|refine fin_s ?_))
  all_goals (refine ret_tk (A:=stepV c _ _ _ _) ?_ ?_ ?_ ?_)
  all_goals (first | (simp [tkS,tkF,tkW,goS,goF,goW,nW,nO, *]; done)|(simp_all [tkS,tkF,tkW,goS,goF,goW,nW,nO]; done)|(unfold tkV; congr 1 <;> (simp_all [tkX,tkR,tkO,tkK,goX,goR,goO,nW,nO,svX,clP,clU,clD,bitI_an,dw_hd'])))
set_option maxHeartbeats 8000000 in
theorem tickRc (c:CfgV) (x:CarV) (hb:x.br=false) (hm:x.mo=0) (hbd:bdX x) (hp:R x.sp) (hu:R x.su) (hd:R x.sd) (hw:x.wy=0∨x.wy=1∨x.wy=2) (ht0 : -1000000000≤x.ti) (ht1:x.ti≤1000000000) (h0:¬ (x.ds=0∧lvB x.un=true)) (w:World):Calls Tryz.prog 32 #[.agg (cfgA c),.agg (carA x)] w fun e w'=>e=.returned (.tuple #[.agg (carA (tkV c x)),.agg #[.int .i64 (tkF x),.int .i64 (tkW x)],.bool (tkS x)])∧Since w w':=by
 refine ent tab_ok [.a (sCfg c),.a (sCar x)] Tryz.func32 Tryz.ntmps32 rfl rfl ?_
 repeat' (first | refine gs_ ?_|((conv=>whnf); first | intro b | refine wr_i ?_|refine br_f (beq_eq_false_iff_ne.2 (show ¬ x.mo=1 by omega)) ?_|refine b3_ (fun h=>?_) (fun h=>?_)|refine callS (f:=89) (.t [.i .i64 (lvN _),.b (lvB _)]) (levelR _) ?_|refine callS (f:=91) (.t [.i .i64 (nxW x.sp x.su x.sd (lvN x.un) x.wy x.ju),.b (nxO x.sp x.su x.sd (lvN x.un) x.wy x.ju)]) (fun w=>nextR _ _ _ _ _ _ hw hp hu hd w) ?_|refine callS (f:=92) (.b (atB _ _ _ _)) (hallR _ _ _ _ _ hu hd) ?_|refine callS (f:=93) (.i .i64 (Do.hd _)) (spanR _) ?_|refine callS (f:=94) (.i .i64 (ms _)) (massR _) ?_|refine callQ (f:=87) (.i .u64 (bit _)) (fun w=>bitR _ w) ?_|refine callS (f:=88) (.a [.i .i64 (stepV c x _ _ _).ds,.i .i64 (stepV c x _ _ _).da,.i .i64 (stepV c x _ _ _).un,.i .i64 (stepV c x _ _ _).wy,.i .i64 (stepV c x _ _ _).ti,.i .i64 (stepV c x _ _ _).ju,.i .i64 (stepV c x _ _ _).lo,.b (stepV c x _ _ _).bl,.b (stepV c x _ _ _).br,.i .i64 (stepV c x _ _ _).mo,.i .i64 (stepV c x _ _ _).ta,.b (stepV c x _ _ _).ho,.i .u64 (stepV c x _ _ _).sp,.i .u64 (stepV c x _ _ _).su,.i .u64 (stepV c x _ _ _).sd]) (stepR c x _ _ _ hbd.1 hbd.2) ?_|refine callS (f:=88) (.a [.i .i64 (stepV c (tiX x (Do.hd c.dw)) _ _ _).ds,.i .i64 (stepV c (tiX x (Do.hd c.dw)) _ _ _).da,.i .i64 (stepV c (tiX x (Do.hd c.dw)) _ _ _).un,.i .i64 (stepV c (tiX x (Do.hd c.dw)) _ _ _).wy,.i .i64 (stepV c (tiX x (Do.hd c.dw)) _ _ _).ti,.i .i64 (stepV c (tiX x (Do.hd c.dw)) _ _ _).ju,.i .i64 (stepV c (tiX x (Do.hd c.dw)) _ _ _).lo,.b (stepV c (tiX x (Do.hd c.dw)) _ _ _).bl,.b (stepV c (tiX x (Do.hd c.dw)) _ _ _).br,.i .i64 (stepV c (tiX x (Do.hd c.dw)) _ _ _).mo,.i .i64 (stepV c (tiX x (Do.hd c.dw)) _ _ _).ta,.b (stepV c (tiX x (Do.hd c.dw)) _ _ _).ho,.i .u64 (stepV c (tiX x (Do.hd c.dw)) _ _ _).sp,.i .u64 (stepV c (tiX x (Do.hd c.dw)) _ _ _).su,.i .u64 (stepV c (tiX x (Do.hd c.dw)) _ _ _).sd]) (stepR c (tiX x (Do.hd c.dw)) _ _ _ hbd.1 hbd.2) ?_|refine callS (f:=88) (.a [.i .i64 (stepV c (tiX x (x.ti - 1)) _ _ _).ds,.i .i64 (stepV c (tiX x (x.ti - 1)) _ _ _).da,.i .i64 (stepV c (tiX x (x.ti - 1)) _ _ _).un,.i .i64 (stepV c (tiX x (x.ti - 1)) _ _ _).wy,.i .i64 (stepV c (tiX x (x.ti - 1)) _ _ _).ti,.i .i64 (stepV c (tiX x (x.ti - 1)) _ _ _).ju,.i .i64 (stepV c (tiX x (x.ti - 1)) _ _ _).lo,.b (stepV c (tiX x (x.ti - 1)) _ _ _).bl,.b (stepV c (tiX x (x.ti - 1)) _ _ _).br,.i .i64 (stepV c (tiX x (x.ti - 1)) _ _ _).mo,.i .i64 (stepV c (tiX x (x.ti - 1)) _ _ _).ta,.b (stepV c (tiX x (x.ti - 1)) _ _ _).ho,.i .u64 (stepV c (tiX x (x.ti - 1)) _ _ _).sp,.i .u64 (stepV c (tiX x (x.ti - 1)) _ _ _).su,.i .u64 (stepV c (tiX x (x.ti - 1)) _ _ _).sd]) (stepR c (tiX x (x.ti - 1)) _ _ _ hbd.1 hbd.2) ?_|(exfalso; apply h0; constructor <;> assumption)|refine fin_s ?_))
 all_goals (refine ret_tk (A:=stepV c _ _ _ _) ?_ ?_ ?_ ?_)
 all_goals (first | (simp [tkS,tkF,tkW,goS,goF,goW, *]; done)|(simp_all [tkS,tkF,tkW,goS,goF,goW]; done)|(unfold tkV; congr 1 <;> (first | (simp_all [tkX,tkR,tkO,tkK,goX,goR,goO,stX,stK,stB,ov,dw_hd',ibeq]; done)|(simp_all [tkX,tkR,tkO,tkK,goX,goR,goO,stX,stK,stB,ov,dw_hd',ibeq]; rw [if_neg (by omega)]; cases x; simp_all))))
theorem tickR (c:CfgV) (x:CarV) (h:Ct.mayB c x=true) (hp:R x.sp) (hu:R x.su) (hd:R x.sd) (ht0 : -1000000000≤x.ti) (ht1:x.ti≤1000000000) (w:World):Calls Tryz.prog 32 #[.agg (cfgA c),.agg (carA x)] w fun e w'=>e=.returned (.tuple #[.agg (carA (tkV c x)),.agg #[.int .i64 (tkF x),.int .i64 (tkW x)],.bool (tkS x)])∧Since w w':=by
 have hbd:=(may_bd h).1
 have h':=(Ct.mayB_iff c x).1 h
 have hg:=(goodB_iff c x).1 h'.1
 have h64:=fl_hi c.fl
 cases hb:x.br with
 | true=>exact tickRb c x hb hbd w
 | false =>
  rcases h'.2.1 with hm | hm
  ·by_cases h0:x.ds=0∧lvB x.un=true
   ·exact tickRa c x hb hm hbd hp hu hd hg.2.2.2.1 h0.1 h0.2 w
   ·exact tickRc c x hb hm hbd hp hu hd hg.2.2.2.1 ht0 ht1 h0 w
  ·exact tickR1 c x hb hm hbd (by have:=h'.2.2.2; omega) w
end Rf
namespace Rf
open Go.RowKit Ba Mem En Do Mo Go.Proofs.YtpiiblkiddcgcaaGreat.Ty Ce Go.Proofs.YtpiiblkiddcgcaaGreat.St Sc Pl Ct
open Et (coV baV ba_bd stV st_bd on_bd mul_bd onB behB fr_bd)
open Gr (idB)
set_option maxRecDepth 100000
attribute [local irreducible] Go.Calls mem lvB
theorem up_lo (x:Int):∀ k:Nat,0≤up x k∧up x k≤k
 | 0=>by simp [up]
 | k+1=>by
  have:=up_lo x k
  unfold up
  split <;> omega
theorem up_next (x:Int) (k:Nat) (h:k < 64):up x (k+1)=up x k+(if mem x k=true then 1 else 0):=by
 rw [mem_at x k h]; rfl
theorem onesR (p u d:Int) (hp:R p) (hu:R u) (hd:R d) (w:World):Calls Tryz.prog 164 #[.agg #[.int .u64 p,.int .u64 u,.int .u64 d]] w fun e w'=>e=.returned (.int .i64 (cn p+cn u+cn d))∧Since w w':=by
 refine ent tab_ok [.a [.i .u64 p,.i .u64 u,.i .u64 d]] Tryz.func164 Tryz.ntmps164 rfl rfl ?_
 repeat' (first | refine gs_ ?_|((conv=>whnf); first | intro b0 | refine fin_s ?_))
 conv=>whnf
 refine lp ⟨tab_ok⟩ (ι:={k:Nat // k≤64}) (fun x=>match x with | ⟨k,_⟩=>⟨[(1,.p 0 0),(3,.i .i64 (up p k+up u k+up d k)),(4,.i .i64 (k:Int))],[⟨b0,65,true,0,[],[.i .u64 p,.i .u64 u,.i .u64 d],[],true⟩],[]⟩) (fun x=>64 - x.1) ⟨0,Nat.zero_le _⟩ (wk ?_) ?_
 ·repeat' (first | exact trivial | rfl | ((conv=>whnf); refine And.intro ?_ ?_))
 rintro ⟨k,hk⟩
 have h1:=up_lo p k; have h2:=up_lo u k; have h3:=up_lo d k
 by_cases hlt:k < 64
 ·have e1:=up_next p k hlt; have e2:=up_next u k hlt; have e3:=up_next d k hlt
  repeat' (first | refine gs_ ?_|((conv=>whnf); first | refine bto ?_|refine bfo ?_|refine wr_i ?_|refine callQ (f:=170) (.b (mem p k)) (fun w=>hasR p k hp w) ?_|refine callQ (f:=170) (.b (mem u k)) (fun w=>hasR u k hu w) ?_|refine callQ (f:=170) (.b (mem d k)) (fun w=>hasR d k hd w) ?_|refine br_b (fun h=>?_) (fun h=>?_)|refine back ⟨k+1,by omega⟩ (wk ?_) ?_|refine fin_s ?_))
  all_goals first | (show 64 - (k+1) < 64 - k; omega)|skip
  all_goals (repeat' (first | exact trivial | rfl | ((conv=>whnf); refine And.intro ?_ ?_)))
  all_goals (rw [e1,e2,e3]; refine congrArg (Value.int .i64) ?_; simp only [*]; simp; try omega)
 ·obtain rfl:k=64:=by omega
  repeat' (first | refine gs_ ?_|((conv=>whnf); first | refine bto ?_|refine bfo ?_|refine wr_i ?_|refine fin_s ?_))
  all_goals (simp only [den]; rw [up_cn p hp,up_cn u hu,up_cn d hd])
theorem onE (wy cw u f:Int) (k:cw=1∨cw=2):onB wy cw (tw u f)=decide (wy=0∨(wy=cw∧((cw=1∧4*f ≥ u)∨(cw=2∧4*f≤u)))):=by
 unfold onB behB tw
 apply decide_eq_decide.2
 constructor
 ·rintro (h | ⟨h,h2⟩)
  ·exact .inl h
  ·have h2:=of_decide_eq_false h2
   refine .inr ⟨h, ?_⟩
   subst h
   rcases k with rfl | rfl
   ·left; refine ⟨rfl, ?_⟩; by_cases e:4*f ≥ u
    ·exact e
    ·exfalso; apply h2; left; simp; omega
   ·right; refine ⟨rfl, ?_⟩; by_cases e:4*f≤u
    ·exact e
    ·exfalso; apply h2; right; simp; omega
 ·rintro (h | ⟨h,h2⟩)
  ·exact .inl h
  ·refine .inr ⟨h,decide_eq_false ?_⟩
   rintro (⟨a,b⟩ | ⟨a,b⟩)
   ·subst h; subst a; split at b
    ·simp at b
    ·split at b <;> simp at b; omega
   ·subst h; subst a; split at b
    ·simp at b; omega
    ·split at b <;> simp at b
theorem costR (c:CfgV) (x:CarV) (f cw:Int) (k:cw=1∨cw=2) (h0:0≤x.un) (h1:x.un≤252) (g0:0≤f) (g1:f≤63) (hp:R x.sp) (hu:R x.su) (hdd:R x.sd) (w:World):Calls Tryz.prog 86 #[.agg (cfgA c),.agg (carA x),.agg #[.int .i64 f,.int .i64 cw]] w fun e w'=>e=.returned (.int .i64 (coV c x f cw))∧Since w w':=by
 have b1:=ba_bd c x f h0 h1 g0 g1
 have b2:=fr_bd x.un f h0 h1 g0 g1
 have b3:=on_bd x
 have b4:=st_bd c
 have b5:=mul_bd _ _ 192 3000 b3.1 b3.2 b4.1 b4.2
 have b6:=fl_lo c.fl
 have b7:=fl_hi c.fl
 have b8:=hd_lo c.dr
 have b9:=hd_hi c.dr
 have b10:=hd_lo c.dw
 have b11:=hd_hi c.dw
 have e:=onE x.wy cw x.un f k
 refine ent tab_ok [.a (sCfg c),.a (sCar x),.a [.i .i64 f,.i .i64 cw]] Tryz.func86 Tryz.ntmps86 rfl rfl ?_
 repeat' (first | refine gs_ ?_|((conv=>whnf); first | intro b | refine b3_ (fun h=>?_) (fun h=>?_)|refine wr_i ?_|refine wr_i (x:=(cn x.sp+cn x.su+cn x.sd)*stV c) ?_|refine callS (f:=93) (.i .i64 _) (spanR _) ?_|refine callS (f:=139) (.i .i64 _) (farR _ _ (by omega) (by omega)) ?_|refine callS (f:=164) (.i .i64 _) (onesR _ _ _ hp hu hdd) ?_|refine callS (f:=112) (.i .i64 _) (floorsR _) ?_|refine fin_s ?_))
 all_goals exact congrArg (Value.int .i64) (by unfold coV baV; rw [e]; simp_all <;> (intros; omega))
theorem cn_zero {x:Int} (hx:R x):cn x=0↔x=0:=by
 constructor
 ·intro h
  rw [zero_of hx]
  have key:∀ k,k≤64→up x k=0→∀ i,i < k→tb x i=false:=by
   intro k
   induction k with
   | zero=>intro _ _ i hi; omega
   | succ k ih =>
    intro hk he i hi
    have h1:=up_lo x k
    unfold up at he
    by_cases hb:tb x k=true
    ·rw [if_pos hb] at he; omega
    ·rw [if_neg hb] at he
     by_cases e:i=k
     ·subst e; simpa using hb
     ·exact ih (by omega) (by omega) i (by omega)
  exact key 64 (Nat.le_refl _) (by rw [up_cn x hx]; exact h)
 ·rintro rfl
  rw [← up_cn 0 R.zero]
  rfl
theorem idE {x:CarV} (hp:R x.sp) (hu:R x.su) (hd:R x.sd):idB x=decide (x.mo=0∧x.br=false∧lvB x.un=true∧x.ds=0∧x.wy=0∧x.sp=0∧x.su=0∧x.sd=0):=by
 unfold idB
 apply decide_eq_decide.2
 have a:=cn_lo x.sp; have b:=cn_lo x.su; have c:=cn_lo x.sd
 have e1:=cn_zero hp; have e2:=cn_zero hu; have e3:=cn_zero hd
 constructor
 ·rintro ⟨h1,h2,h3,h4,h5,h6⟩
  exact ⟨h1,h2,h3,h4,h5,e1.1 (by omega),e2.1 (by omega),e3.1 (by omega)⟩
 ·rintro ⟨h1,h2,h3,h4,h5,h6,h7,h8⟩
  have:=e1.2 h6; have:=e2.2 h7; have:=e3.2 h8
  exact ⟨h1,h2,h3,h4,h5,by omega⟩
theorem idleR (x:CarV) (hp:R x.sp) (hu:R x.su) (hd:R x.sd) (w:World):Calls Tryz.prog 114 #[.agg (carA x)] w fun e w'=>e=.returned (.bool (idB x))∧Since w w':=by
 refine ent tab_ok [.a (sCar x)] Tryz.func114 Tryz.ntmps114 rfl rfl ?_
 repeat' (first | refine gs_ ?_|((conv=>whnf); first | intro b | refine b3_ (fun h=>?_) (fun h=>?_)|refine callS (f:=89) (.t [.i .i64 (lvN _),.b (lvB _)]) (levelR _) ?_|refine fin_s ?_))
 all_goals exact congrArg Value.bool (by rw [idE hp hu hd]; simp_all [ibeq])
end Rf
namespace Rg
open Go.RowKit Ba Mem En Mo Go.Proofs.YtpiiblkiddcgcaaGreat.Ty Go.Proofs.YtpiiblkiddcgcaaGreat.St Gr
open Ct (cfgA carA)
open Et (carsO)
open Rf (floorsR)
set_option maxRecDepth 100000
attribute [local irreducible] Go.Calls lvB
theorem carR (q:Nat) (G:GrV) (A1:Option Addr) (n1 c1:Nat) (v2:Value) (i:Int) (w:World) (hq:Blk w q 72 (grpA G (.slice A1 n1 c1) v2)):Calls Tryz.prog 111 #[.pointer (some ⟨q,0,none⟩),.int .i64 i] w fun e w'=>e=.returned (.bool (decide (0≤i∧i < (n1:Int))))∧Since w w':=by
 refine entH tab_ok (hold_q (S:=[]) [.i .i64 G.c.ca,.i .i64 G.c.fl,.i .i64 G.c.ft,.i .i64 G.c.se,.i .i64 G.c.dr,.i .i64 G.c.dw,.i .i64 G.c.ho,.i .i64 G.c.re,.i .i64 G.c.yi,.i .i64 G.c.qu,.i .i64 G.c.qo,.i .i64 G.c.lo,.i .i64 G.c.sl,.i .i64 G.c.rt,.i .i64 G.c.cp,.i .i64 G.c.tr,.i .i64 G.c.de,.i .i64 G.c.wi,.v (.slice A1 n1 c1),.v v2,.i .i64 G.now] hq) [.p 0 0,.i .i64 i] Tryz.func111 Tryz.ntmps111 rfl rfl ?_
 repeat' (first | refine gs_ ?_|((conv=>whnf); first | refine b3_ (fun h=>?_) (fun h=>?_)|refine fin_s ?_))
 all_goals exact congrArg Value.bool (by simp [*])
theorem hasC_dec (c:CfgV) (f wy:Int):hasC c f wy=decide (0≤f∧f≤fl c.fl - 1∧((wy=1∧f < fl c.fl - 1)∨(wy=2∧f > 0))):=by
 unfold hasC hasF
 by_cases h1:wy=1
 ·rw [if_pos h1,← Bool.decide_and]
  apply decide_eq_decide.2; omega
 ·rw [if_neg h1]
  by_cases h2:wy=2
  ·rw [if_pos h2,← Bool.decide_and]
   apply decide_eq_decide.2; omega
  ·rw [if_neg h2]
   symm; apply decide_eq_false; omega
theorem mayCR (q:Nat) (G:GrV) (v1 v2:Value) (f wy:Int) (w:World) (hq:Blk w q 72 (grpA G v1 v2)):Calls Tryz.prog 110 #[.pointer (some ⟨q,0,none⟩),.int .i64 f,.int .i64 wy] w fun e w'=>e=.returned (.bool (hasC G.c f wy))∧Since w w':=by
 have b1:=fl_lo G.c.fl
 have b2:=fl_hi G.c.fl
 refine entH tab_ok (hold_q (S:=[]) [.i .i64 G.c.ca,.i .i64 G.c.fl,.i .i64 G.c.ft,.i .i64 G.c.se,.i .i64 G.c.dr,.i .i64 G.c.dw,.i .i64 G.c.ho,.i .i64 G.c.re,.i .i64 G.c.yi,.i .i64 G.c.qu,.i .i64 G.c.qo,.i .i64 G.c.lo,.i .i64 G.c.sl,.i .i64 G.c.rt,.i .i64 G.c.cp,.i .i64 G.c.tr,.i .i64 G.c.de,.i .i64 G.c.wi,.v v1,.v v2,.i .i64 G.now] hq) [.p 0 0,.i .i64 f,.i .i64 wy] Tryz.func110 Tryz.ntmps110 rfl rfl ?_
 repeat' (first | refine gs_ ?_|((conv=>whnf); first | refine wr_i ?_|refine b3_ (fun h=>?_) (fun h=>?_)|refine callS (f:=112) (.i .i64 (fl _)) (floorsR _) ?_|refine fin_s ?_))
 all_goals exact congrArg Value.bool (by rw [hasC_dec]; simp_all <;> omega)
theorem atP_none' {ls:List WaitV} {p:WaitV→Bool} (h:∀ j,∀ hj:j < ls.length,p ls[j]=false):atP ls p=none:=by
 unfold atP
 rw [List.findIdx?_eq_none_iff]
 intro x hx
 obtain ⟨j,hj,rfl⟩:=List.mem_iff_getElem.1 hx
 exact h j hj
theorem atP_ne {ls:List WaitV} {p:WaitV→Bool} {k:Nat} {x:WaitV} (hx:ls[k]?=some x) (h:p x=true):atP ls p≠none:=by
 intro hn
 obtain ⟨hk,rfl⟩:=List.getElem?_eq_some_iff.1 hx
 rw [atP_none hn k hk] at h; cases h
set_option maxHeartbeats 1000000 in
theorem hallGR {lo q:Nat} {G:GrV} {P:RP} {w:World} (hg:RO lo q G P w) (hl:G.waits.length≤10000) (f wy:Int):Calls Tryz.prog 44 #[.pointer (some ⟨q,0,none⟩),.int .i64 f,.int .i64 wy] w (RX lo q P w (.int .i64 (Gr.hallR G f wy).2) (Gr.hallR G f wy).1):=by
 have h0:=hg.1
 have hlo:lo≤w.heap.size:=Nat.le_of_lt (Nat.lt_of_le_of_lt h0 hg.2.1.lt)
 obtain ⟨A1,c1,A2,c2⟩:=P
 obtain ⟨g,hA⟩:∃ g,0 < G.waits.length→A2=some ⟨g,0,none⟩:=by
  rcases own_at hg.2.2.2 with ⟨_,h0,_⟩ | ⟨g,_,h1,_⟩
  ·exact ⟨0,fun k=>by omega⟩
  ·exact ⟨g,fun _=>h1⟩
 unfold Gr.hallR
 cases hC:hasC G.c f wy with
 | false =>
  rw [if_neg (by decide)]
  refine entH tab_ok (hold_ro hg) [.p 0 0,.i .i64 f,.i .i64 wy] Tryz.func44 Tryz.ntmps44 rfl rfl ?_
  repeat' (first | refine gs_ ?_|((conv=>whnf); first | intro b | refine callH (f:=110) (.b (hasC G.c f wy)) (fun w hH=>mayCR q G _ _ f wy w (hH.row 0 _ rfl rfl)) ?_|refine fin_ro 0 1 (by rfl) (by rfl) (by rfl) (by rfl) h0 (Nat.le_refl _) (Nat.le_refl _) (by rfl) (by rfl) (by rfl) (by rfl) (by rfl)|refine fin_s ?_))
 | true =>
  rw [if_pos rfl]
  refine entH tab_ok (hold_ro hg) [.p 0 0,.i .i64 f,.i .i64 wy] Tryz.func44 Tryz.ntmps44 rfl rfl ?_
  repeat' (first | refine gs_ ?_|((conv=>whnf); first | intro b | refine callH (f:=110) (.b (hasC G.c f wy)) (fun w hH=>mayCR q G _ _ f wy w (hH.row 0 _ rfl rfl)) ?_|refine fin_s ?_))
  conv=>whnf
  refine lp ⟨tab_ok⟩ (ι:={k:Nat // k≤G.waits.length∧∀ j,j < k→∀ hj:j < G.waits.length,isW f wy G.waits[j]=false}) (fun x=>match x with | ⟨k,_⟩=>⟨[(0,.p 0 0),(1,.i .i64 f),(2,.i .i64 wy),(7,.i .i64 (k:Int))],roM q G A1 G.cars.length c1 A2 G.waits.length c2,[carsO lo A1 G.cars.length c1 G.cars true,waitsO lo A2 G.waits.length c2 G.waits true]⟩) (fun x=>G.waits.length - x.1) ⟨0,Nat.zero_le _,fun j hj=>by omega⟩ (wk ?_) ?_
  ·repeat' (first | exact trivial | rfl | ((conv=>whnf); refine And.intro ?_ ?_))
  rintro ⟨k,hk,hno⟩
  by_cases hlt:k < G.waits.length
  ·obtain rfl:=hA (by omega)
   obtain ⟨a,ha⟩:∃ a,G.waits[k]?=some a:=⟨_,List.getElem?_eq_getElem hlt⟩
   have hak:a=G.waits[k]:=(List.getElem?_eq_some_iff.1 ha).2.symm
   by_cases hW:isW f wy a=true
   ·have e1:a.fl=f∧a.wy=wy:=by unfold isW at hW; simpa using hW
    rw [if_neg (atP_ne ha hW)]
    repeat' (first | refine gs_ ?_|((conv=>whnf); first | intro b | refine bto ?_|refine bfo ?_|refine wr_i ?_|refine opiv ⟨tab_ok⟩ (by rfl) (by rfl) (by rfl) (by rfl) (by rfl) (by rfl) ⟨by omega,by omega⟩ ?_|refine puiv ⟨tab_ok⟩ (by rfl) (by rfl) (by rfl) (by rfl) (by rfl) (by rfl) ⟨by omega,by omega⟩ ?_|refine opfv ⟨tab_ok⟩ (by rfl) (by rfl) (by rfl) (by rfl) ?_|refine pufv ⟨tab_ok⟩ (by rfl) (by rfl) (by rfl) (by rfl) ?_|refine opxc (g:=g) (off:=0+k*4+0+0) (.i .i64 a.fl) (fun w1 hH=>cell_k (k:=0) (wait_at (hob hH (A:=waitsO lo (some ⟨g,0,none⟩) G.waits.length c2 G.waits true) 1 rfl) ha) rfl) ⟨tab_ok⟩ (by rfl) (by rfl) (by simp only [Go.WideShapes.add_plain]; rfl) ?_|refine opxc (g:=g) (off:=0+k*4+0+1) (.i .i64 a.wy) (fun w1 hH=>cell_k (k:=1) (wait_at (hob hH (A:=waitsO lo (some ⟨g,0,none⟩) G.waits.length c2 G.waits true) 1 rfl) ha) rfl) ⟨tab_ok⟩ (by rfl) (by rfl) (by simp only [Go.WideShapes.add_plain]; rfl) ?_|refine br_t (beq_iff_eq.2 e1.1) ?_|refine br_t (beq_iff_eq.2 e1.2) ?_|refine fin_ro 0 1 (by rfl) (by rfl) (by rfl) (by rfl) h0 (Nat.le_refl _) (Nat.le_refl _) (by rfl) (by rfl) (by rfl) (by rfl) (by rfl)|refine fin_s ?_))
   ·have hW:isW f wy a=false:=by simpa using hW
    have hno':∀ j,j < k+1→∀ hj:j < G.waits.length,isW f wy G.waits[j]=false:=fun j hj hj2=>by
     by_cases e:j=k
     ·subst e; rw [← hak]; exact hW
     ·exact hno j (by omega) hj2
    have hW2:(a.fl == f)=true→(a.wy == wy)=true→False:=fun h1 h2=>by unfold isW at hW; rw [h1,h2] at hW; cases hW
    repeat' (first | refine gs_ ?_|((conv=>whnf); first | intro b | refine bto ?_|refine bfo ?_|refine wr_i ?_|refine opiv ⟨tab_ok⟩ (by rfl) (by rfl) (by rfl) (by rfl) (by rfl) (by rfl) ⟨by omega,by omega⟩ ?_|refine puiv ⟨tab_ok⟩ (by rfl) (by rfl) (by rfl) (by rfl) (by rfl) (by rfl) ⟨by omega,by omega⟩ ?_|refine opfv ⟨tab_ok⟩ (by rfl) (by rfl) (by rfl) (by rfl) ?_|refine pufv ⟨tab_ok⟩ (by rfl) (by rfl) (by rfl) (by rfl) ?_|refine opxc (g:=g) (off:=0+k*4+0+0) (.i .i64 a.fl) (fun w1 hH=>cell_k (k:=0) (wait_at (hob hH (A:=waitsO lo (some ⟨g,0,none⟩) G.waits.length c2 G.waits true) 1 rfl) ha) rfl) ⟨tab_ok⟩ (by rfl) (by rfl) (by simp only [Go.WideShapes.add_plain]; rfl) ?_|refine opxc (g:=g) (off:=0+k*4+0+1) (.i .i64 a.wy) (fun w1 hH=>cell_k (k:=1) (wait_at (hob hH (A:=waitsO lo (some ⟨g,0,none⟩) G.waits.length c2 G.waits true) 1 rfl) ha) rfl) ⟨tab_ok⟩ (by rfl) (by rfl) (by simp only [Go.WideShapes.add_plain]; rfl) ?_|refine back ⟨k+1,by omega,hno'⟩ (wk ?_) ?_|refine br_b (fun h=>?_) (fun h=>?_)|(exfalso; exact hW2 (by assumption) (by assumption))|refine fin_s ?_))
    all_goals first | (show G.waits.length - (k+1) < G.waits.length - k; omega)|skip
    all_goals (repeat' (first | exact trivial | rfl | ((conv=>whnf); refine And.intro ?_ ?_)))
  ·have hnn:atP G.waits (isW f wy)=none:=atP_none' fun j hj=>hno j (by omega) hj
   rw [if_pos hnn]
   have hE:∀ w,(waitsO lo A2 G.waits.length c2 G.waits true).st w→Reads w w.heap.size 4 A2 G.waits.length (rowsOf waitL G.waits):=fun w h=>own_reads h
   repeat' (first | refine gs_ ?_|((conv=>whnf); first | intro b | refine bto ?_|refine bfo ?_|refine wr_i ?_|refine And.intro ?_ ?_|refine opb0 waitE (by rfl) Tryz.underlying32 (by kernel_rfl) (fun g0=>?_)|refine opb1 (e:=76) ⟨tab_ok⟩ [.i .i64 f,.i .i64 wy,.i .i64 (-1),.i .i64 G.now] (by rfl) (by rfl) ?_|refine opao 2 1 (e:=76) (lo:=w.heap.size) (size:=4) (bytes:=32) (z:=.agg #[.int .i64 0,.int .i64 0,.int .i64 0,.int .i64 0]) (A:=rwO waitE w.heap.size (some ⟨g0,0,none⟩) 0 0 [] true) (E:=waitsO lo A2 G.waits.length c2 G.waits true) (vals:=[]) (cells:=rowsOf waitL G.waits) (zs:=rowsOf waitL G.waits) (n2:=G.waits.length) (fun A' c'=>waitsO w.heap.size A' G.waits.length c' G.waits true) (by rfl) (by rfl) (by rfl) (by rfl) (by rfl) rfl rfl (fun w h=>h) (fun A' c' w h=>h) (fun _ _=>rfl) hE Tryz.underlying32 (by kernel_rfl) rfl (by decide) (by decide) (waits_one _) (by omega) (fun w hH=>hH.upd.size) (by omega) (by rfl) (fun A' c'=>?_)|refine opap 2 1 (e:=76) (lo:=w.heap.size) (size:=4) (bytes:=32) (z:=.agg #[.int .i64 0,.int .i64 0,.int .i64 0,.int .i64 0]) (A:=waitsO w.heap.size A' G.waits.length c' G.waits true) (vals:=rowsOf waitL G.waits) (cells:=waitL (⟨f,wy,-1,G.now⟩:WaitV)) (zs:=rowsOf waitL (G.waits++[(⟨f,wy,-1,G.now⟩:WaitV)])) (n2:=G.waits.length+1) (fun B' d'=>waitsO w.heap.size B' (G.waits.length+1) d' (G.waits++[(⟨f,wy,-1,G.now⟩:WaitV)]) true) (by rfl) (by rfl) (by rfl) (by rfl) rfl rfl (fun w h=>h) (fun A' c' w h=>h) (fun _ _=>rfl) (by rfl) (by rfl) (by rfl) (by rfl) Tryz.underlying32 (by kernel_rfl) rfl (by decide) (by decide) (waitL_one _) (by omega) (fun w hH=>hH.upd.size) rfl (by rw [rowsOf_append,rowsOf_one]) (fun B' d'=>?_)|refine fin_ro 0 2 (by rfl) (by rfl) (by rfl) (by rfl) h0 (Nat.le_refl _) hlo (by rfl) (by simp) (by rfl) (by rfl) (by rfl)|refine fin_s ?_))
end Rg
namespace Rg
open Go.RowKit Ba Mem Go.Proofs.YtpiiblkiddcgcaaGreat.Ty Mo Go.Proofs.YtpiiblkiddcgcaaGreat.St Gr
open Ct (tkV tkF tkW tkS)
open Et (blL coV)
def key (a:WaitV):Int×Int:=(a.fl,a.wy)
def WQ (ws:List WaitV):Prop:=(∀ a∈ws,-1≤a.ca)∧(ws.map key).Nodup
theorem isW_key {f wy:Int} {a:WaitV}:isW f wy a=true↔key a=(f,wy):=by unfold isW key; simp [Prod.ext_iff]
theorem WQ.sub {l ws:List WaitV} (h:WQ ws) (s:l.Sublist ws):WQ l:=⟨fun a ha=>h.1 a (s.subset ha),h.2.sublist (s.map key)⟩
theorem none_part {ws:List WaitV} {f wy:Int} (h:∀ a∈ws,isW f wy a=false):ws.filter (isW f wy)=[]∧ws.filter (fun a=>!isW f wy a)=ws:=by
 constructor
 ·rw [List.filter_eq_nil_iff]; intro a ha; rw [h a ha]; decide
 ·rw [List.filter_eq_self]; intro a ha; rw [h a ha]; rfl
theorem some_part {f wy:Int}:∀ {ws:List WaitV} {k:Nat},(ws.map key).Nodup→atP ws (isW f wy)=some k→∃ a,ws[k]?=some a∧ws.filter (isW f wy)=[a]∧ws.filter (fun a=>!isW f wy a)=ws.eraseIdx k
 | [],k,_,h=>by simp [atP] at h
 | b::t,k,hn,h=>by
  rw [List.map_cons,List.nodup_cons] at hn
  unfold atP at h
  rw [List.findIdx?_cons] at h
  cases hb:isW f wy b with
  | true =>
   rw [hb] at h
   simp at h
   subst h
   have ht:∀ a∈t,isW f wy a=false:=fun a ha=>by
    cases hc:isW f wy a with
    | false=>rfl
    | true=>exact absurd (List.mem_map.2 ⟨a,ha,(isW_key.1 hc).trans (isW_key.1 hb).symm⟩) hn.1
   obtain ⟨h1,h2⟩:=none_part ht
   refine ⟨b,rfl, ?_, ?_⟩
   ·rw [List.filter_cons_of_pos hb,h1]
   ·rw [List.filter_cons_of_neg (by rw [hb]; decide),h2]; rfl
  | false =>
   rw [hb] at h
   simp only [Bool.false_eq_true,if_false,Option.map_eq_some_iff] at h
   obtain ⟨j,hj,rfl⟩:=h
   obtain ⟨a,h1,h2,h3⟩:=some_part (ws:=t) hn.2 hj
   refine ⟨a,h1, ?_, ?_⟩
   ·rw [List.filter_cons_of_neg (by rw [hb]; decide),h2]
   ·rw [List.filter_cons_of_pos (by rw [hb]; rfl),h3]; rfl
theorem tkS_part {c:CfgV} {cs:List CarV} {ws ts:List WaitV} {i:Nat} {x:CarV} (hn:(ws.map key).Nodup) (hx:cs[i]?=some x) (hs:tkS x=true):tkStep c (cs,ws,ts) i=(cs.set i (tkV c x),ws.filter (fun a=>!isW (tkF x) (tkW x) a),ts++ws.filter (isW (tkF x) (tkW x))):=by
 unfold tkStep
 simp only [hx,hs,if_true]
 cases h:atP ws (isW (tkF x) (tkW x)) with
 | none =>
  have:=none_part (f:=tkF x) (wy:=tkW x) (fun a ha=>by
   obtain ⟨j,hj,rfl⟩:=List.mem_iff_getElem.1 ha
   exact atP_none h j hj)
  rw [this.1,this.2]; simp
 | some k =>
  obtain ⟨a,h1,h2,h3⟩:=some_part hn h
  simp only [h1,h2,h3,Option.toList]
theorem tkS_no {c:CfgV} {cs:List CarV} {ws ts:List WaitV} {i:Nat} {x:CarV} (hx:cs[i]?=some x) (hs:tkS x=false):tkStep c (cs,ws,ts) i=(cs.set i (tkV c x),ws,ts):=by
 unfold tkStep
 simp [hx,hs]
theorem set_key {ws:List WaitV} {i:Nat} {a:WaitV} {v:Int} (h:ws[i]?=some a):(ws.set i { a with ca:=v }).map key=ws.map key:=by
 rw [List.map_set]
 apply Gr.set_same
 rw [List.getElem?_map,h]
 rfl
theorem asg_key (c:CfgV) (ws:List WaitV) (cs:List CarV):∀ i,(asgN c ws cs i).1.map key=ws.map key
 | 0=>rfl
 | i+1=>by
  rw [← asg_key c ws cs i]
  show (asgStep c (asgN c ws cs i) i).1.map key=_
  unfold asgStep
  split
  ·rfl
  ·split
   ·rename_i a ha _
    exact set_key ha
   ·rfl
theorem asg_WQ {c:CfgV} {ws:List WaitV} {cs:List CarV} (h:WQ ws):∀ i,WQ (asgN c ws cs i).1:=fun i=>⟨by
 induction i with
 | zero=>exact h.1
 | succ i ih =>
  show ∀ a∈(asgStep c (asgN c ws cs i) i).1,_
  unfold asgStep
  split
  ·exact ih
  ·split
   ·intro b hb
    rcases List.mem_or_eq_of_mem_set hb with hb | rfl
    ·exact ih b hb
    ·exact (bestI_rng c _ _).1
   ·exact ih,by rw [asg_key]; exact h.2⟩
theorem tick_WQ {G:GrV} (h:WQ G.waits):WQ (tickG G).waits:=(asg_WQ h _).sub (tkN_sub _ _ _ _)
theorem tkN_WQ {c:CfgV} {ws:List WaitV} {cs:List CarV} (h:WQ ws) (i:Nat):WQ (tkN c cs ws i).2.1:=h.sub (tkN_sub _ _ _ _)
theorem WQ.do_ {G:GrV} (h:WQ G.waits) (k a b:Int) (y:Bool):WQ (doR G k a b y).1.waits:=by
 have hone:∀ {i:Int} {f:CarV→CarV×Int},WQ (one G i f).1.waits:=fun {i f}=>by rw [(one_same (G:=G) (i:=i) (f:=f)).2.1]; exact h
 unfold doR
 split
 ·unfold Gr.hallR
  split
  ·split
   ·rename_i hn
    refine ⟨fun x hx=>?_, ?_⟩
    ·rcases List.mem_append.1 hx with hx | hx
     ·exact h.1 x hx
     ·rw [List.mem_singleton.1 hx]; exact Int.le_refl _
    ·show ((G.waits++[_]).map key).Nodup
     rw [List.map_append,List.nodup_append]
     refine ⟨h.2,by simp,fun u hu v hv he=>?_⟩
     simp only [List.map_cons,List.map_nil,List.mem_singleton] at hv
     obtain ⟨z,hz,rfl⟩:=List.mem_map.1 hu
     obtain ⟨j,hj,rfl⟩:=List.mem_iff_getElem.1 hz
     have h1:=atP_none hn j hj
     have h2:=isW_key.2 (he.trans hv)
     rw [h1] at h2; cases h2
   ·exact h
  ·exact h
 split
 ·unfold pressR; split
  ·exact hone
  ·exact h
 split
 ·exact hone
 split
 ·exact hone
 split
 ·unfold faultR
  split
  ·split
   ·refine ⟨fun x hx=>?_, ?_⟩
    ·obtain ⟨u,hu,rfl⟩:=List.mem_map.1 hx
     unfold disW; split
     ·exact Int.le_refl _
     ·exact h.1 u hu
    ·show ((G.waits.map (disW a)).map key).Nodup
     rw [List.map_map]
     have e:key ∘ disW a=key:=by funext u; simp only [Function.comp,disW]; split <;> rfl
     rw [e]; exact h.2
   ·exact h
  ·exact hone
 split
 ·unfold takeR; split
  ·exact hone
  ·exact h
 split
 ·unfold aimR; split
  ·exact hone
  ·exact h
 split
 ·exact hone
 ·exact h
theorem bl_cost (c:CfgV) (f cw:Int) (ls:List CarV):∀ k,0≤(blL c f cw ls k).1→∃ x,ls[(blL c f cw ls k).1.toNat]?=some x∧(blL c f cw ls k).2=coV c x f cw
 | 0,h=>by simp [blL] at h
 | k+1,h=>by
  have ih:=bl_cost c f cw ls k
  unfold blL at h ⊢
  split
  ·rename_i hx; rw [hx] at h; exact ih h
  ·rename_i x hx
   rw [hx] at h
   simp only at h ⊢
   split
   ·exact ⟨x,by simpa using hx,rfl⟩
   ·rename_i hn; rw [if_neg hn] at h; exact ih h
theorem bl_next {c:CfgV} {f cw:Int} {ls:List CarV} {k:Nat} {x:CarV} (hx:ls[k]?=some x):(blL c f cw ls (k+1)).1=if (x.mo=0∧x.br=false)∧((blL c f cw ls k).1 < 0∨coV c x f cw < (blL c f cw ls k).2) then (k:Int) else (blL c f cw ls k).1:=by
 rw [blL]
 simp only [hx]
 split <;> rfl
end Rg
namespace En
open Go.RowKit Ba Mem
section
variable {X:Cx} {s:St} {o:Oper} {α:Type}
theorem opsc (hX:X.Ok) (i kk j:Nat) (E:Ek α) {A:Asr} (B:Asr) (x y:α) {K:St→Prop} {ty:TypeId} {a b:Operand} {lo g n c:Nat} {ls:List α} {ad:Addr} {v:SV} (ho:o.op=.store ty a b) (ha:evO a s.fr=some (.v (.pointer (some ad)))) (had:ad=⟨g,0+kk*E.k+j,none⟩) (hb:evO b s.fr=some v) (hA:s.ob[i]?=some A) (hrw:A.rw=true)
  (hat:∀ w,A.st w→E.At lo (some ⟨g,0,none⟩) n c ls w) (hx:ls[kk]?=some x) (hj:j < E.k) (hy:(E.c x).toArray.setIfInBounds j (den s.m v)=(E.c y).toArray)
  (hst:∀ w w',A.st w→E.At lo (some ⟨g,0,none⟩) n c (ls.set kk y) w'→Upd [g] w w'→B.st w') (hg:g∈A.F) (hF:∀ g∈B.F,g∈A.F) (h:setO i B s.ob fun ob=>put X.n o.dst (.v undef) ⟨s.fr,s.m,ob⟩ K) (hn:(match tyO ty X.tab with | some z=>Nat.beq z.size 1 | none=>false)=true:=by rfl) (h1:oneS v=true:=by rfl) (hv:okV s.m.length v=true:=by rfl):OpVC X o s K:=⟨fun a' w Q hR=>by
 subst had
 cases hz:tyO ty X.tab with
 | none=>simp [hz] at hn
 | some z =>
  simp only [hz] at hn
  obtain ⟨d,inf,T⟩:=(hX.tab _ _ hz).out
  have hs:=hR.h.obj A (List.mem_of_getElem? hA)
  obtain ⟨hi,rfl⟩:=List.getElem?_eq_some_iff.1 hx
  obtain ⟨P,S,hP,hB,hback⟩:=own_el E.len (hat w hs) hi
  have hlen:=E.len ls[kk]
  refine wp_st_cell ty a b ho (el P (E.c y).toArray S) (den s.m v) (by rw [(evO_of hR.fr ha).2]; rfl) (by rw [(evO_of hR.fr hb).2]) hB (by simp [el]; omega) (el_set (by omega) (by simpa [hlen] using hj) hy) (oneS_den hv h1) (by rw [T.inf]; simp [T.size,Nat.eq_of_beq_eq_true hn]) (fun w' hw=>?_)
  subst hw
  have hu:Upd [g] w (w.setRow g (el P (E.c y).toArray S)):=(Upd.refl _ w).setRow (.inl (by simp)) _
  have hH:=hR.h.obj_set (B:=B) hA hrw (hst w _ hs (hback y _ (Blk.row hB _)) hu) (hu.mono (fun k hk _=>by rw [List.mem_singleton] at hk; subst hk; exact hg)) (fun k hk=>.inl (hF k hk))
  obtain ⟨s',r1,r2,r3,r4⟩:=put_of (a:=a') (s:=⟨s.fr,s.m,s.ob.set i B⟩) (v:=.v undef) hR.ds hR.sz hR.fr hH rfl (setO_of h)
  exact ⟨s',r1,by rw [r2]; exact Ext.refl _,r4⟩⟩
theorem opsp (hX:X.Ok) (i kk j:Nat) (E:Ek α) {A:Asr} (B:Asr) (x y:α) {K:St→Prop} {ty:TypeId} {a b:Operand} {lo g n c:Nat} {ls:List α} {ad:Addr} {vs:List SV} (ho:o.op=.store ty a b) (ha:evO a s.fr=some (.v (.pointer (some ad)))) (had:ad=⟨g,0+kk*E.k+j,none⟩) (hb:evO b s.fr=some (.a vs)) (hA:s.ob[i]?=some A) (hrw:A.rw=true)
  (hat:∀ w,A.st w→E.At lo (some ⟨g,0,none⟩) n c ls w) (hx:ls[kk]?=some x) (hj:j+vs.length≤E.k) (hy:putAt (E.c x).toArray j (denL s.m vs)=(E.c y).toArray)
  (hst:∀ w w',A.st w→E.At lo (some ⟨g,0,none⟩) n c (ls.set kk y) w'→Upd [g] w w'→B.st w') (hg:g∈A.F) (hF:∀ g∈B.F,g∈A.F) (h:setO i B s.ob fun ob=>put X.n o.dst (.v undef) ⟨s.fr,s.m,ob⟩ K) (hn:(match tyO ty X.tab with | some z=>Nat.beq z.size vs.length | none=>false)=true:=by rfl) (h1:vs.all oneS=true:=by rfl) (hv:okL s.m.length vs=true:=by rfl):OpVC X o s K:=⟨fun a' w Q hR=>by
 subst had
 cases hz:tyO ty X.tab with
 | none=>simp [hz] at hn
 | some z =>
  simp only [hz] at hn
  obtain ⟨d,inf,T⟩:=(hX.tab _ _ hz).out
  have hs:=hR.h.obj A (List.mem_of_getElem? hA)
  obtain ⟨hi,rfl⟩:=List.getElem?_eq_some_iff.1 hx
  obtain ⟨P,S,hP,hB,hback⟩:=own_el E.len (hat w hs) hi
  have hlen:=E.len ls[kk]
  have hone:∀ l:List SV,okL s.m.length l=true→l.all oneS=true→∀ u∈denL s.m l,u.oneCell'=true:=by
   intro l
   induction l with
   | nil=>intro _ _ u hu; cases hu
   | cons q r ih =>
    intro k1 k2 u hu
    simp only [okL,Bool.and_eq_true] at k1
    simp only [List.all_cons,Bool.and_eq_true] at k2
    rcases List.mem_cons.1 hu with rfl | hu
    ·exact oneS_den k1.1 k2.1
    ·exact ih k1.2 k2.2 u hu
  refine wp_st_part ty a b ho (el P (E.c y).toArray S) (denL s.m vs).toArray (by rw [(evO_of hR.fr ha).2]; rfl) (by rw [(evO_of hR.fr hb).2]; rfl) hB (by simp [el,denL_len]; omega) (el_put (by omega) (by simpa [hlen,denL_len] using hj) hy) (by simp only [List.all_toArray,List.all_eq_true]; exact hone vs hv h1) (by rw [T.inf]; simp [T.size,denL_len,Nat.eq_of_beq_eq_true hn]) (fun w' hw=>?_)
  subst hw
  have hu:Upd [g] w (w.setRow g (el P (E.c y).toArray S)):=(Upd.refl _ w).setRow (.inl (by simp)) _
  have hH:=hR.h.obj_set (B:=B) hA hrw (hst w _ hs (hback y _ (Blk.row hB _)) hu) (hu.mono (fun k hk _=>by rw [List.mem_singleton] at hk; subst hk; exact hg)) (fun k hk=>.inl (hF k hk))
  obtain ⟨s',r1,r2,r3,r4⟩:=put_of (a:=a') (s:=⟨s.fr,s.m,s.ob.set i B⟩) (v:=.v undef) hR.ds hR.sz hR.fr hH rfl (setO_of h)
  exact ⟨s',r1,by rw [r2]; exact Ext.refl _,r4⟩⟩
end
end En
namespace Rg
open Go.RowKit Ba Mem En Mo Go.Proofs.YtpiiblkiddcgcaaGreat.Ty Go.Proofs.YtpiiblkiddcgcaaGreat.St Gr
open Ct (cfgA carA)
open Et (carsO car_at)
open Rf (floorsR idleR levelR)
set_option maxRecDepth 100000
attribute [local irreducible] Go.Calls lvB idB
theorem car_same {G:GrV} {k:Nat} {x:CarV} (hx:G.cars[k]?=some x):G.car k x=G:=by
 cases G
 simp only [GrV.car]
 congr
 exact Gr.set_same hx
set_option maxHeartbeats 1000000
theorem pressGR {lo q:Nat} {G:GrV} {P:RP} {w:World} (hg:RO lo q G P w) (hm:∀ x∈G.cars,x.mo=0∨x.mo=1) (i v:Int):Calls Tryz.prog 45 #[.pointer (some ⟨q,0,none⟩),.int .i64 i,.int .i64 v] w (RX lo q P w (.int .i64 (Gr.pressR G i v).2) (Gr.pressR G i v).1):=by
 have h0:=hg.1
 obtain ⟨A1,c1,A2,c2⟩:=P
 unfold Gr.pressR
 by_cases hF:hasF G.c v=true
 ·have hF':0≤v∧v < fl G.c.fl:=of_decide_eq_true hF
  rw [if_pos hF]
  by_cases hi:i < 0∨(G.cars.length:Int)≤i
  ·rw [one_out hi]
   refine entH tab_ok (hold_ro hg) [.p 0 0,.i .i64 i,.i .i64 v] Tryz.func45 Tryz.ntmps45 rfl rfl ?_
   repeat' (first | refine gs_ ?_|((conv=>whnf); first | intro b | refine bto ?_|refine bfo ?_|refine callH (f:=111) (.b (decide (0≤i∧i < (G.cars.length:Int)))) (fun w hH=>carR q G _ _ _ _ i w (hH.row 0 _ rfl rfl)) ?_|refine callH (f:=112) (.i .i64 (fl G.c.fl)) (fun w hH=>floorsR _ w) ?_|refine fin_ro 0 1 (by rfl) (by rfl) (by rfl) (by rfl) h0 (Nat.le_refl _) (Nat.le_refl _) (by rfl) (by rfl) (by rfl) (by rfl) (by rfl)|refine fin_s ?_))
  ·obtain ⟨k,rfl⟩:∃ k:Nat,i=(k:Int):=⟨i.toNat,by omega⟩
   have hk:k < G.cars.length:=by omega
   obtain ⟨x,hx⟩:∃ x,G.cars[k]?=some x:=⟨_,List.getElem?_eq_getElem hk⟩
   have hxk:G.cars[k]=x:=(List.getElem?_eq_some_iff.1 hx).2
   obtain ⟨g,hgA⟩:=own_addr hg.2.2.1 (by omega)
   have hgA:A1=some ⟨g,0,none⟩:=hgA
   subst hgA
   have hmx:=hm x (List.mem_of_getElem? hx)
   rw [one_in hk,hxk]
   by_cases hb:x.br=true∨x.mo=1
   ·rw [show pressX v x=x from if_pos hb,show pressE x=7 from if_pos hb,car_same hx]
    refine entH tab_ok (hold_ro hg) [.p 0 0,.i .i64 (k:Int),.i .i64 v] Tryz.func45 Tryz.ntmps45 rfl rfl ?_
    repeat' (first | refine gs_ ?_|((conv=>whnf); first | intro b | refine bto ?_|refine bfo ?_|refine callH (f:=111) (.b (decide (0≤(k:Int)∧(k:Int) < (G.cars.length:Int)))) (fun w hH=>carR q G _ _ _ _ (k:Int) w (hH.row 0 _ rfl rfl)) ?_|refine callH (f:=112) (.i .i64 (fl G.c.fl)) (fun w hH=>floorsR _ w) ?_|refine puir ⟨tab_ok⟩ 1 (by rfl) (by rfl) (by rfl) (by rfl) (by rfl) (by rfl) (by rfl) ⟨⟨by omega,by omega⟩,by show 0+k*15=_; simp⟩ ?_|refine opir ⟨tab_ok⟩ 1 (by rfl) (by rfl) (by rfl) (by rfl) (by rfl) (by rfl) (by rfl) ⟨⟨by omega,by omega⟩,by show 0+k*15=_; simp⟩ ?_|refine op_open 0 (A:=carsO lo (some ⟨g,0,none⟩) G.cars.length c1 G.cars true) (π:=cPS lo g G.cars.length c1 k G.cars) (fun p=>⟨g,67,true,0+k*15,p.1.1,(sCar x),p.1.2,true⟩) (by rfl) (by rfl) (fun w hw=>car_open hw hx) (fun p=>rfl) (fun p=>?_)|refine fin_rc 1 0 p (y:=x) (by rfl) (by rfl) (by rfl) (by rfl) h0 (Nat.le_refl _) (Nat.le_refl _) (by rfl) (by rfl) (Gr.set_same hx) (by rfl) (by rfl) (by rfl)|refine b3_ (fun h=>?_) (fun h=>?_)|(exfalso; simp_all; done)|refine fin_s ?_))
   ·have hb1:x.br=false:=by cases h:x.br <;> simp_all
    have hb2:x.mo=0:=by omega
    rw [show pressX v x={ x with sp:=bits .or .u64 x.sp (bit v) } from if_neg hb,show pressE x=0 from if_neg hb]
    refine entH tab_ok (hold_ro hg) [.p 0 0,.i .i64 (k:Int),.i .i64 v] Tryz.func45 Tryz.ntmps45 rfl rfl ?_
    repeat' (first | refine gs_ ?_|((conv=>whnf); first | intro b | refine bto ?_|refine bfo ?_|refine And.intro ?_ ?_|refine callH (f:=111) (.b (decide (0≤(k:Int)∧(k:Int) < (G.cars.length:Int)))) (fun w hH=>carR q G _ _ _ _ (k:Int) w (hH.row 0 _ rfl rfl)) ?_|refine callH (f:=112) (.i .i64 (fl G.c.fl)) (fun w hH=>floorsR _ w) ?_|refine puir ⟨tab_ok⟩ 1 (by rfl) (by rfl) (by rfl) (by rfl) (by rfl) (by rfl) (by rfl) ⟨⟨by omega,by omega⟩,by show 0+k*15=_; simp⟩ ?_|refine opir ⟨tab_ok⟩ 1 (by rfl) (by rfl) (by rfl) (by rfl) (by rfl) (by rfl) (by rfl) ⟨⟨by omega,by omega⟩,by show 0+k*15=_; simp⟩ ?_|refine op_open 0 (A:=carsO lo (some ⟨g,0,none⟩) G.cars.length c1 G.cars true) (π:=cPS lo g G.cars.length c1 k G.cars) (fun p=>⟨g,67,true,0+k*15,p.1.1,(sCar x),p.1.2,true⟩) (by rfl) (by rfl) (fun w hw=>car_open hw hx) (fun p=>rfl) (fun p=>?_)|refine callQ (f:=87) (.i .u64 (bit v)) (fun w=>bitR _ w) ?_|refine fin_rc 1 0 p (y:={ x with sp:=bits .or .u64 x.sp (bit v) }) (by rfl) (by rfl) (by rfl) (by rfl) h0 (Nat.le_refl _) (Nat.le_refl _) (by simp [GrV.car]) (by rfl) (by rfl) (by rfl) (by rfl) (by rfl)|refine fin_s ?_))
 ·have hF':¬ (0≤v∧v < fl G.c.fl):=fun h=>hF (decide_eq_true h)
  rw [if_neg hF]
  refine entH tab_ok (hold_ro hg) [.p 0 0,.i .i64 i,.i .i64 v] Tryz.func45 Tryz.ntmps45 rfl rfl ?_
  repeat' (first | refine gs_ ?_|((conv=>whnf); first | intro b | refine bto ?_|refine bfo ?_|refine callH (f:=111) (.b (decide (0≤i∧i < (G.cars.length:Int)))) (fun w hH=>carR q G _ _ _ _ i w (hH.row 0 _ rfl rfl)) ?_|refine callH (f:=112) (.i .i64 (fl G.c.fl)) (fun w hH=>floorsR _ w) ?_|refine fin_ro 0 1 (by rfl) (by rfl) (by rfl) (by rfl) h0 (Nat.le_refl _) (Nat.le_refl _) (by rfl) (by rfl) (by rfl) (by rfl) (by rfl)|refine b3_ (fun h=>?_) (fun h=>?_)|refine fin_s ?_))
theorem takeGR {lo q:Nat} {G:GrV} {P:RP} {w:World} (hg:RO lo q G P w) (hok:∀ x∈G.cars,R x.sp∧R x.su∧R x.sd) (i v:Int):Calls Tryz.prog 47 #[.pointer (some ⟨q,0,none⟩),.int .i64 i,.int .i64 v] w (RX lo q P w (.int .i64 (Gr.takeR G i v).2) (Gr.takeR G i v).1):=by
 have h0:=hg.1
 obtain ⟨A1,c1,A2,c2⟩:=P
 unfold Gr.takeR
 by_cases hF:hasF G.c v=true
 ·have hF':0≤v∧v < fl G.c.fl:=of_decide_eq_true hF
  rw [if_pos hF]
  by_cases hi:i < 0∨(G.cars.length:Int)≤i
  ·rw [one_out hi]
   refine entH tab_ok (hold_ro hg) [.p 0 0,.i .i64 i,.i .i64 v] Tryz.func47 Tryz.ntmps47 rfl rfl ?_
   repeat' (first | refine gs_ ?_|((conv=>whnf); first | intro b | refine bto ?_|refine bfo ?_|refine callH (f:=111) (.b (decide (0≤i∧i < (G.cars.length:Int)))) (fun w hH=>carR q G _ _ _ _ i w (hH.row 0 _ rfl rfl)) ?_|refine callH (f:=112) (.i .i64 (fl G.c.fl)) (fun w hH=>floorsR _ w) ?_|refine fin_ro 0 1 (by rfl) (by rfl) (by rfl) (by rfl) h0 (Nat.le_refl _) (Nat.le_refl _) (by rfl) (by rfl) (by rfl) (by rfl) (by rfl)|refine fin_s ?_))
  ·obtain ⟨k,rfl⟩:∃ k:Nat,i=(k:Int):=⟨i.toNat,by omega⟩
   have hk:k < G.cars.length:=by omega
   obtain ⟨x,hx⟩:∃ x,G.cars[k]?=some x:=⟨_,List.getElem?_eq_getElem hk⟩
   have hxk:G.cars[k]=x:=(List.getElem?_eq_some_iff.1 hx).2
   obtain ⟨g,hgA⟩:=own_addr hg.2.2.1 (by omega)
   have hgA:A1=some ⟨g,0,none⟩:=hgA
   subst hgA
   have hR:=hok x (List.mem_of_getElem? hx)
   rw [one_in hk,hxk]
   cases hb:idB x with
   | false =>
    rw [show takeX v x=x from if_neg (by rw [hb]; decide),show takeE x=7 from if_neg (by rw [hb]; decide),car_same hx]
    refine entH tab_ok (hold_ro hg) [.p 0 0,.i .i64 (k:Int),.i .i64 v] Tryz.func47 Tryz.ntmps47 rfl rfl ?_
    repeat' (first | refine gs_ ?_|((conv=>whnf); first | intro b | refine bto ?_|refine bfo ?_|refine callH (f:=111) (.b (decide (0≤(k:Int)∧(k:Int) < (G.cars.length:Int)))) (fun w hH=>carR q G _ _ _ _ (k:Int) w (hH.row 0 _ rfl rfl)) ?_|refine callH (f:=112) (.i .i64 (fl G.c.fl)) (fun w hH=>floorsR _ w) ?_|refine callH (f:=114) (.b (idB x)) (fun w hH=>idleR x hR.1 hR.2.1 hR.2.2 w) ?_|refine puir ⟨tab_ok⟩ 1 (by rfl) (by rfl) (by rfl) (by rfl) (by rfl) (by rfl) (by rfl) ⟨⟨by omega,by omega⟩,by show 0+k*15=_; simp⟩ ?_|refine opir ⟨tab_ok⟩ 1 (by rfl) (by rfl) (by rfl) (by rfl) (by rfl) (by rfl) (by rfl) ⟨⟨by omega,by omega⟩,by show 0+k*15=_; simp⟩ ?_|refine op_open 0 (A:=carsO lo (some ⟨g,0,none⟩) G.cars.length c1 G.cars true) (π:=cPS lo g G.cars.length c1 k G.cars) (fun p=>⟨g,67,true,0+k*15,p.1.1,(sCar x),p.1.2,true⟩) (by rfl) (by rfl) (fun w hw=>car_open hw hx) (fun p=>rfl) (fun p=>?_)|refine fin_rc 1 0 p (y:=x) (by rfl) (by rfl) (by rfl) (by rfl) h0 (Nat.le_refl _) (Nat.le_refl _) (by rfl) (by rfl) (Gr.set_same hx) (by rfl) (by rfl) (by rfl)|refine fin_s ?_))
   | true =>
    rw [show takeX v x={ x with mo:=1,ta:=v,ho:=true } from if_pos hb,show takeE x=0 from if_pos hb]
    refine entH tab_ok (hold_ro hg) [.p 0 0,.i .i64 (k:Int),.i .i64 v] Tryz.func47 Tryz.ntmps47 rfl rfl ?_
    repeat' (first | refine gs_ ?_|((conv=>whnf); first | intro b | refine bto ?_|refine bfo ?_|refine callH (f:=111) (.b (decide (0≤(k:Int)∧(k:Int) < (G.cars.length:Int)))) (fun w hH=>carR q G _ _ _ _ (k:Int) w (hH.row 0 _ rfl rfl)) ?_|refine callH (f:=112) (.i .i64 (fl G.c.fl)) (fun w hH=>floorsR _ w) ?_|refine callH (f:=114) (.b (idB x)) (fun w hH=>idleR x hR.1 hR.2.1 hR.2.2 w) ?_|refine puir ⟨tab_ok⟩ 1 (by rfl) (by rfl) (by rfl) (by rfl) (by rfl) (by rfl) (by rfl) ⟨⟨by omega,by omega⟩,by show 0+k*15=_; simp⟩ ?_|refine opir ⟨tab_ok⟩ 1 (by rfl) (by rfl) (by rfl) (by rfl) (by rfl) (by rfl) (by rfl) ⟨⟨by omega,by omega⟩,by show 0+k*15=_; simp⟩ ?_|refine op_open 0 (A:=carsO lo (some ⟨g,0,none⟩) G.cars.length c1 G.cars true) (π:=cPS lo g G.cars.length c1 k G.cars) (fun p=>⟨g,67,true,0+k*15,p.1.1,(sCar x),p.1.2,true⟩) (by rfl) (by rfl) (fun w hw=>car_open hw hx) (fun p=>rfl) (fun p=>?_)|refine fin_rc 1 0 p (y:={ x with mo:=1,ta:=v,ho:=true }) (by rfl) (by rfl) (by rfl) (by rfl) h0 (Nat.le_refl _) (Nat.le_refl _) (by simp [GrV.car]) (by rfl) (by rfl) (by rfl) (by rfl) (by rfl)|refine fin_s ?_))
 ·have hF':¬ (0≤v∧v < fl G.c.fl):=fun h=>hF (decide_eq_true h)
  rw [if_neg hF]
  refine entH tab_ok (hold_ro hg) [.p 0 0,.i .i64 i,.i .i64 v] Tryz.func47 Tryz.ntmps47 rfl rfl ?_
  repeat' (first | refine gs_ ?_|((conv=>whnf); first | intro b | refine bto ?_|refine bfo ?_|refine callH (f:=111) (.b (decide (0≤i∧i < (G.cars.length:Int)))) (fun w hH=>carR q G _ _ _ _ i w (hH.row 0 _ rfl rfl)) ?_|refine callH (f:=112) (.i .i64 (fl G.c.fl)) (fun w hH=>floorsR _ w) ?_|refine fin_ro 0 1 (by rfl) (by rfl) (by rfl) (by rfl) h0 (Nat.le_refl _) (Nat.le_refl _) (by rfl) (by rfl) (by rfl) (by rfl) (by rfl)|refine b3_ (fun h=>?_) (fun h=>?_)|refine fin_s ?_))
theorem aimGR {lo q:Nat} {G:GrV} {P:RP} {w:World} (hg:RO lo q G P w) (i v:Int) (u:Bool):Calls Tryz.prog 48 #[.pointer (some ⟨q,0,none⟩),.int .i64 i,.int .i64 v,.bool u] w (RX lo q P w (.int .i64 (Gr.aimR G i v u).2) (Gr.aimR G i v u).1):=by
 have h0:=hg.1
 obtain ⟨A1,c1,A2,c2⟩:=P
 unfold Gr.aimR
 by_cases hF:hasF G.c v=true
 ·have hF':0≤v∧v < fl G.c.fl:=of_decide_eq_true hF
  rw [if_pos hF]
  by_cases hi:i < 0∨(G.cars.length:Int)≤i
  ·rw [one_out hi]
   refine entH tab_ok (hold_ro hg) [.p 0 0,.i .i64 i,.i .i64 v,.b u] Tryz.func48 Tryz.ntmps48 rfl rfl ?_
   repeat' (first | refine gs_ ?_|((conv=>whnf); first | intro b | refine bto ?_|refine bfo ?_|refine callH (f:=111) (.b (decide (0≤i∧i < (G.cars.length:Int)))) (fun w hH=>carR q G _ _ _ _ i w (hH.row 0 _ rfl rfl)) ?_|refine callH (f:=112) (.i .i64 (fl G.c.fl)) (fun w hH=>floorsR _ w) ?_|refine fin_ro 0 1 (by rfl) (by rfl) (by rfl) (by rfl) h0 (Nat.le_refl _) (Nat.le_refl _) (by rfl) (by rfl) (by rfl) (by rfl) (by rfl)|refine fin_s ?_))
  ·obtain ⟨k,rfl⟩:∃ k:Nat,i=(k:Int):=⟨i.toNat,by omega⟩
   have hk:k < G.cars.length:=by omega
   obtain ⟨x,hx⟩:∃ x,G.cars[k]?=some x:=⟨_,List.getElem?_eq_getElem hk⟩
   have hxk:G.cars[k]=x:=(List.getElem?_eq_some_iff.1 hx).2
   obtain ⟨g,hgA⟩:=own_addr hg.2.2.1 (by omega)
   have hgA:A1=some ⟨g,0,none⟩:=hgA
   subst hgA
   rw [one_in hk,hxk]
   by_cases hb:x.mo=1
   ·rw [show aimX v u x={ x with ta:=v,ho:=u } from if_pos hb,show aimE x=0 from if_pos hb]
    refine entH tab_ok (hold_ro hg) [.p 0 0,.i .i64 (k:Int),.i .i64 v,.b u] Tryz.func48 Tryz.ntmps48 rfl rfl ?_
    repeat' (first | refine gs_ ?_|((conv=>whnf); first | intro b | refine bto ?_|refine bfo ?_|refine callH (f:=111) (.b (decide (0≤(k:Int)∧(k:Int) < (G.cars.length:Int)))) (fun w hH=>carR q G _ _ _ _ (k:Int) w (hH.row 0 _ rfl rfl)) ?_|refine callH (f:=112) (.i .i64 (fl G.c.fl)) (fun w hH=>floorsR _ w) ?_|refine br_f (bne_eq_false_iff_eq.2 hb) ?_|refine puir ⟨tab_ok⟩ 1 (by rfl) (by rfl) (by rfl) (by rfl) (by rfl) (by rfl) (by rfl) ⟨⟨by omega,by omega⟩,by show 0+k*15=_; simp⟩ ?_|refine opir ⟨tab_ok⟩ 1 (by rfl) (by rfl) (by rfl) (by rfl) (by rfl) (by rfl) (by rfl) ⟨⟨by omega,by omega⟩,by show 0+k*15=_; simp⟩ ?_|refine op_open 0 (A:=carsO lo (some ⟨g,0,none⟩) G.cars.length c1 G.cars true) (π:=cPS lo g G.cars.length c1 k G.cars) (fun p=>⟨g,67,true,0+k*15,p.1.1,(sCar x),p.1.2,true⟩) (by rfl) (by rfl) (fun w hw=>car_open hw hx) (fun p=>rfl) (fun p=>?_)|refine fin_rc 1 0 p (y:={ x with ta:=v,ho:=u }) (by rfl) (by rfl) (by rfl) (by rfl) h0 (Nat.le_refl _) (Nat.le_refl _) (by simp [GrV.car]) (by rfl) (by rfl) (by rfl) (by rfl) (by rfl)|refine fin_s ?_))
   ·rw [show aimX v u x=x from if_neg hb,show aimE x=7 from if_neg hb,car_same hx]
    refine entH tab_ok (hold_ro hg) [.p 0 0,.i .i64 (k:Int),.i .i64 v,.b u] Tryz.func48 Tryz.ntmps48 rfl rfl ?_
    repeat' (first | refine gs_ ?_|((conv=>whnf); first | intro b | refine bto ?_|refine bfo ?_|refine callH (f:=111) (.b (decide (0≤(k:Int)∧(k:Int) < (G.cars.length:Int)))) (fun w hH=>carR q G _ _ _ _ (k:Int) w (hH.row 0 _ rfl rfl)) ?_|refine callH (f:=112) (.i .i64 (fl G.c.fl)) (fun w hH=>floorsR _ w) ?_|refine br_t (bne_iff_ne.2 hb) ?_|refine puir ⟨tab_ok⟩ 1 (by rfl) (by rfl) (by rfl) (by rfl) (by rfl) (by rfl) (by rfl) ⟨⟨by omega,by omega⟩,by show 0+k*15=_; simp⟩ ?_|refine opir ⟨tab_ok⟩ 1 (by rfl) (by rfl) (by rfl) (by rfl) (by rfl) (by rfl) (by rfl) ⟨⟨by omega,by omega⟩,by show 0+k*15=_; simp⟩ ?_|refine op_open 0 (A:=carsO lo (some ⟨g,0,none⟩) G.cars.length c1 G.cars true) (π:=cPS lo g G.cars.length c1 k G.cars) (fun p=>⟨g,67,true,0+k*15,p.1.1,(sCar x),p.1.2,true⟩) (by rfl) (by rfl) (fun w hw=>car_open hw hx) (fun p=>rfl) (fun p=>?_)|refine fin_rc 1 0 p (y:=x) (by rfl) (by rfl) (by rfl) (by rfl) h0 (Nat.le_refl _) (Nat.le_refl _) (by rfl) (by rfl) (Gr.set_same hx) (by rfl) (by rfl) (by rfl)|refine fin_s ?_))
 ·have hF':¬ (0≤v∧v < fl G.c.fl):=fun h=>hF (decide_eq_true h)
  rw [if_neg hF]
  refine entH tab_ok (hold_ro hg) [.p 0 0,.i .i64 i,.i .i64 v,.b u] Tryz.func48 Tryz.ntmps48 rfl rfl ?_
  repeat' (first | refine gs_ ?_|((conv=>whnf); first | intro b | refine bto ?_|refine bfo ?_|refine callH (f:=111) (.b (decide (0≤i∧i < (G.cars.length:Int)))) (fun w hH=>carR q G _ _ _ _ i w (hH.row 0 _ rfl rfl)) ?_|refine callH (f:=112) (.i .i64 (fl G.c.fl)) (fun w hH=>floorsR _ w) ?_|refine fin_ro 0 1 (by rfl) (by rfl) (by rfl) (by rfl) h0 (Nat.le_refl _) (Nat.le_refl _) (by rfl) (by rfl) (by rfl) (by rfl) (by rfl)|refine b3_ (fun h=>?_) (fun h=>?_)|refine fin_s ?_))
theorem giveGR {lo q:Nat} {G:GrV} {P:RP} {w:World} (hg:RO lo q G P w) (i:Int):Calls Tryz.prog 49 #[.pointer (some ⟨q,0,none⟩),.int .i64 i] w (RX lo q P w (.int .i64 (Gr.giveR G i).2) (Gr.giveR G i).1):=by
 have h0:=hg.1
 obtain ⟨A1,c1,A2,c2⟩:=P
 unfold Gr.giveR
 by_cases hi:i < 0∨(G.cars.length:Int)≤i
 ·rw [one_out hi]
  refine entH tab_ok (hold_ro hg) [.p 0 0,.i .i64 i] Tryz.func49 Tryz.ntmps49 rfl rfl ?_
  repeat' (first | refine gs_ ?_|((conv=>whnf); first | intro b | refine bto ?_|refine bfo ?_|refine callH (f:=111) (.b (decide (0≤i∧i < (G.cars.length:Int)))) (fun w hH=>carR q G _ _ _ _ i w (hH.row 0 _ rfl rfl)) ?_|refine fin_ro 0 1 (by rfl) (by rfl) (by rfl) (by rfl) h0 (Nat.le_refl _) (Nat.le_refl _) (by rfl) (by rfl) (by rfl) (by rfl) (by rfl)|refine fin_s ?_))
 ·obtain ⟨k,rfl⟩:∃ k:Nat,i=(k:Int):=⟨i.toNat,by omega⟩
  have hk:k < G.cars.length:=by omega
  obtain ⟨x,hx⟩:∃ x,G.cars[k]?=some x:=⟨_,List.getElem?_eq_getElem hk⟩
  have hxk:G.cars[k]=x:=(List.getElem?_eq_some_iff.1 hx).2
  obtain ⟨g,hgA⟩:=own_addr hg.2.2.1 (by omega)
  have hgA:A1=some ⟨g,0,none⟩:=hgA
  subst hgA
  rw [one_in hk,hxk]
  by_cases hb:x.mo=1
  ·rw [show aimE x=0 from if_pos hb]
   cases hl:lvB x.un with
   | true =>
    rw [show givX G.c x={ x with mo:=0,ta:=0,ho:=false,ju := -1,ti:=Do.hd G.c.dw,wy:=0 } by unfold givX; rw [if_pos hb,if_pos hl,Rf.dw_hd']]
    refine entH tab_ok (hold_ro hg) [.p 0 0,.i .i64 (k:Int)] Tryz.func49 Tryz.ntmps49 rfl rfl ?_
    repeat' (first | refine gs_ ?_|((conv=>whnf); first | intro b | refine bto ?_|refine bfo ?_|refine callH (f:=111) (.b (decide (0≤(k:Int)∧(k:Int) < (G.cars.length:Int)))) (fun w hH=>carR q G _ _ _ _ (k:Int) w (hH.row 0 _ rfl rfl)) ?_|refine br_f (bne_eq_false_iff_eq.2 hb) ?_|refine callS (f:=93) (.i .i64 (Do.hd _)) (Do.spanR _) ?_|refine callS (f:=89) (.t [.i .i64 (lvN _),.b (lvB _)]) (levelR _) ?_|refine puir ⟨tab_ok⟩ 1 (by rfl) (by rfl) (by rfl) (by rfl) (by rfl) (by rfl) (by rfl) ⟨⟨by omega,by omega⟩,by show 0+k*15=_; simp⟩ ?_|refine opir ⟨tab_ok⟩ 1 (by rfl) (by rfl) (by rfl) (by rfl) (by rfl) (by rfl) (by rfl) ⟨⟨by omega,by omega⟩,by show 0+k*15=_; simp⟩ ?_|refine op_open 0 (A:=carsO lo (some ⟨g,0,none⟩) G.cars.length c1 G.cars true) (π:=cPS lo g G.cars.length c1 k G.cars) (fun p=>⟨g,67,true,0+k*15,p.1.1,(sCar x),p.1.2,true⟩) (by rfl) (by rfl) (fun w hw=>car_open hw hx) (fun p=>rfl) (fun p=>?_)|refine fin_rc 1 0 p (y:={ x with mo:=0,ta:=0,ho:=false,ju := -1,ti:=Do.hd G.c.dw,wy:=0 }) (by rfl) (by rfl) (by rfl) (by rfl) h0 (Nat.le_refl _) (Nat.le_refl _) (by simp [GrV.car]) (by rfl) (by rfl) (by rfl) (by rfl) (by rfl)|refine fin_s ?_))
   | false =>
    rw [show givX G.c x={ x with mo:=0,ta:=0,ho:=false,ju := -1,ti:=Do.hd G.c.dw } by unfold givX; rw [if_pos hb,if_neg (by rw [hl]; decide),Rf.dw_hd']]
    refine entH tab_ok (hold_ro hg) [.p 0 0,.i .i64 (k:Int)] Tryz.func49 Tryz.ntmps49 rfl rfl ?_
    repeat' (first | refine gs_ ?_|((conv=>whnf); first | intro b | refine bto ?_|refine bfo ?_|refine callH (f:=111) (.b (decide (0≤(k:Int)∧(k:Int) < (G.cars.length:Int)))) (fun w hH=>carR q G _ _ _ _ (k:Int) w (hH.row 0 _ rfl rfl)) ?_|refine br_f (bne_eq_false_iff_eq.2 hb) ?_|refine callS (f:=93) (.i .i64 (Do.hd _)) (Do.spanR _) ?_|refine callS (f:=89) (.t [.i .i64 (lvN _),.b (lvB _)]) (levelR _) ?_|refine puir ⟨tab_ok⟩ 1 (by rfl) (by rfl) (by rfl) (by rfl) (by rfl) (by rfl) (by rfl) ⟨⟨by omega,by omega⟩,by show 0+k*15=_; simp⟩ ?_|refine opir ⟨tab_ok⟩ 1 (by rfl) (by rfl) (by rfl) (by rfl) (by rfl) (by rfl) (by rfl) ⟨⟨by omega,by omega⟩,by show 0+k*15=_; simp⟩ ?_|refine op_open 0 (A:=carsO lo (some ⟨g,0,none⟩) G.cars.length c1 G.cars true) (π:=cPS lo g G.cars.length c1 k G.cars) (fun p=>⟨g,67,true,0+k*15,p.1.1,(sCar x),p.1.2,true⟩) (by rfl) (by rfl) (fun w hw=>car_open hw hx) (fun p=>rfl) (fun p=>?_)|refine fin_rc 1 0 p (y:={ x with mo:=0,ta:=0,ho:=false,ju := -1,ti:=Do.hd G.c.dw }) (by rfl) (by rfl) (by rfl) (by rfl) h0 (Nat.le_refl _) (Nat.le_refl _) (by simp [GrV.car]) (by rfl) (by rfl) (by rfl) (by rfl) (by rfl)|refine fin_s ?_))
  ·rw [show givX G.c x=x from if_neg hb,show aimE x=7 from if_neg hb,car_same hx]
   refine entH tab_ok (hold_ro hg) [.p 0 0,.i .i64 (k:Int)] Tryz.func49 Tryz.ntmps49 rfl rfl ?_
   repeat' (first | refine gs_ ?_|((conv=>whnf); first | intro b | refine bto ?_|refine bfo ?_|refine callH (f:=111) (.b (decide (0≤(k:Int)∧(k:Int) < (G.cars.length:Int)))) (fun w hH=>carR q G _ _ _ _ (k:Int) w (hH.row 0 _ rfl rfl)) ?_|refine br_t (bne_iff_ne.2 hb) ?_|refine puir ⟨tab_ok⟩ 1 (by rfl) (by rfl) (by rfl) (by rfl) (by rfl) (by rfl) (by rfl) ⟨⟨by omega,by omega⟩,by show 0+k*15=_; simp⟩ ?_|refine opir ⟨tab_ok⟩ 1 (by rfl) (by rfl) (by rfl) (by rfl) (by rfl) (by rfl) (by rfl) ⟨⟨by omega,by omega⟩,by show 0+k*15=_; simp⟩ ?_|refine op_open 0 (A:=carsO lo (some ⟨g,0,none⟩) G.cars.length c1 G.cars true) (π:=cPS lo g G.cars.length c1 k G.cars) (fun p=>⟨g,67,true,0+k*15,p.1.1,(sCar x),p.1.2,true⟩) (by rfl) (by rfl) (fun w hw=>car_open hw hx) (fun p=>rfl) (fun p=>?_)|refine fin_rc 1 0 p (y:=x) (by rfl) (by rfl) (by rfl) (by rfl) h0 (Nat.le_refl _) (Nat.le_refl _) (by rfl) (by rfl) (Gr.set_same hx) (by rfl) (by rfl) (by rfl)|refine fin_s ?_))
end Rg
namespace En
open Go.RowKit Ba Mem
section
variable {X:Cx} {m:List Row} {ob:List Asr} {w w':World} {s:St}
theorem callRO {ι:Type} {f:FuncId} {vs:List SV} {K:SV→St→Prop} (j i:Nat) {r:Row} {A:Asr} (v:ι→SV) (cs:ι→List SV) (B:ι→Asr)
  (hc:∀ w,Hold X s.m s.ob w→Blk w r.g r.t (denL s.m r.cs).toArray→A.st w→r.g∉A.F→Calls X.P f (denL s.m vs).toArray w fun e w'=>∃ x,e=.returned (den s.m (v x))∧Blk w' r.g r.t (denL s.m (cs x)).toArray∧(B x).st w'∧Upd (r.g::A.F) w w'∧∀ g∈(B x).F,g∈A.F∨w.heap.size≤g)
  (h:∀ x,setR j (fun r K=>K ⟨r.g,r.t,r.live,r.off,r.pre,cs x,r.suf,r.rw⟩) s.m fun m=>setO i (B x) s.ob fun ob=>K (v x) ⟨s.fr,m,ob⟩)
  (hr:s.m[j]?=some r:=by rfl) (hl:(r.live && r.rw && r.pre.isEmpty && r.suf.isEmpty)=true:=by rfl) (hA:s.ob[i]?=some A:=by rfl) (hrw:A.rw=true:=by rfl)
  (he:entChk X.P f=true:=by kernel_rfl) (hv:∀ x,(okV s.m.length (v x) && okL s.m.length (cs x))=true:=by intro x; rfl):CallVC X f vs s K:=by
 simp only [Bool.and_eq_true,List.isEmpty_iff] at hl
 obtain ⟨⟨⟨h1,hrw1⟩,h2⟩,h3⟩:=hl
 have hmem:=List.mem_of_getElem? hA
 refine ⟨entC he,fun w hH=>(hc w hH (by have:=hH.row j r hr h1; rwa [rowA_nil h2 h3] at this) (hH.obj A hmem) (hH.far A hmem j r hr h1)).mono ?_⟩
 rintro e w' ⟨x,rfl,hb,hB,hu,hF⟩
 have hvx:=hv x
 simp only [Bool.and_eq_true] at hvx
 obtain ⟨r',hr',hx⟩:=setR_of (h x)
 rw [hr] at hr'; cases hr'
 have hE:=Ext.set hr (cs x)
 obtain ⟨w1,w2,w3⟩:=hH.wf j r hr h1
 have hrA:=hH.far A hmem j r hr h1
 have hdis:∀ (k:Nat) (C:Asr),s.ob[k]?=some C→k≠i→∀ g∈C.F,g∉A.F:=fun k C hC hne=>pair_at (R:=DisR) (fun _ _ h=>h.symm) hH.dis hC hA hne (.inr hrw)
 have hBr:r.g∉(B x).F:=fun hg=>by
  rcases hF _ hg with h | h
  ·exact hrA h
  ·have:=(hH.row j r hr h1).lt; omega
 refine ⟨v x,_,_,by rw [den_ext hE _ hvx.1],by rw [List.length_set]; exact hvx.1,hE, ?_,setO_of hx⟩
 refine ⟨hH.upd.comp hu (fun g hg=>?_),fun k q hk hq=>?_,fun k q hk hq=>?_,fun a b q q' ha hb' hq hq' hne=>?_,fun C hC=>?_,fun C hC k q hk hq=>?_,fun C hC hr' g hg=>?_,pair_of fun a b C D hne hC hD=>?_⟩
 ·rcases List.mem_cons.1 hg with rfl | hg
  ·exact w3 hrw1
  ·exact hH.own A hmem hrw g hg
 ·rcases getElem?_set_or hk with ⟨rfl,rfl⟩ | ⟨hne,hk⟩
  ·rw [rowA_ext hE hvx.2,rowA_nil (r:=⟨r.g,r.t,r.live,r.off,r.pre,cs x,r.suf,r.rw⟩) h2 h3]; exact hb
  ·rw [rowA_ext hE (hH.wf k q hk hq).1]
   refine hu.blk (hH.row k q hk hq) (fun hm=>?_)
   rcases List.mem_cons.1 hm with hm | hm
   ·exact hH.ne k j q r hk hr hq h1 (Ne.symm hne) hm
   ·exact hH.far A hmem k q hk hq hm
 ·rw [List.length_set]
  rcases getElem?_set_or hk with ⟨rfl,rfl⟩ | ⟨hne,hk⟩
  ·exact ⟨hvx.2,w2,w3⟩
  ·exact hH.wf k q hk hq
 ·rcases getElem?_set_or ha with ⟨rfl,rfl⟩ | ⟨hn1,ha⟩ <;> rcases getElem?_set_or hb' with ⟨rfl,rfl⟩ | ⟨hn2,hb'⟩
  ·exact absurd rfl hne
  ·exact hH.ne j b r q' hr hb' h1 hq' hne
  ·exact hH.ne a j q r ha hr hq h1 hne
  ·exact hH.ne a b q q' ha hb' hq hq' hne
 ·rcases mem_set_or hC with rfl | ⟨k,hne,hC⟩
  ·exact hB
  ·refine C.up hu (fun g hg hgT=>?_) (hH.obj C (List.mem_of_getElem? hC))
   rcases List.mem_cons.1 hgT with rfl | hgT
   ·exact hH.far C (List.mem_of_getElem? hC) j r hr h1 hg
   ·exact hdis k C hC hne g hg hgT
 ·have key:∀ (k:Nat) (q:Row),s.m[k]?=some q→q.live=true→q.g∉C.F:=fun k q hk hq=>by
   rcases mem_set_or hC with rfl | ⟨k',hne,hC⟩
   ·intro hg
    rcases hF _ hg with h | h
    ·exact hH.far A hmem k q hk hq h
    ·have:=(hH.row k q hk hq).lt; omega
   ·exact hH.far C (List.mem_of_getElem? hC) k q hk hq
  rcases getElem?_set_or hk with ⟨rfl,rfl⟩ | ⟨hne,hk⟩
  ·exact key j r hr h1
  ·exact key k q hk hq
 ·rcases mem_set_or hC with rfl | ⟨k,hne,hC⟩
  ·rcases hF _ hg with h | h
   ·exact hH.own A hmem hrw g h
   ·exact .inr (Nat.le_trans hH.upd.size h)
  ·exact hH.own C (List.mem_of_getElem? hC) hr' g hg
 ·have far:∀ (k:Nat) (C:Asr),s.ob[k]?=some C→k≠i→∀ g∈C.F,g∉(B x).F:=fun k C hC hne g hg hgB=>by
   rcases hF g hgB with h | h
   ·exact hdis k C hC hne g hg h
   ·have:=C.lt (hH.obj C (List.mem_of_getElem? hC)) g hg; omega
  rcases getElem?_set_or hC with ⟨rfl,rfl⟩ | ⟨n1,hC2⟩ <;> rcases getElem?_set_or hD with ⟨rfl,rfl⟩ | ⟨n2,hD2⟩
  ·exact absurd rfl hne
  ·exact fun _ g hg hgD=>far b D hD2 (Ne.symm n2) g hgD hg
  ·exact fun _=>far a C hC2 (Ne.symm n1)
  ·exact pair_at (R:=DisR) (fun _ _ h=>h.symm) hH.dis hC2 hD2 hne
end
end En
namespace Rg
open Go.RowKit Ba Mem En Mo Go.Proofs.YtpiiblkiddcgcaaGreat.Ty Go.Proofs.YtpiiblkiddcgcaaGreat.St Gr
open Ct (cfgA carA)
open Et (carsO car_at)
set_option maxRecDepth 100000
attribute [local irreducible] Go.Calls
set_option maxHeartbeats 1000000
theorem rep_next (k:Nat):rowsOf carL (List.replicate k zeroX)++carL zeroX=rowsOf carL (List.replicate (k+1) zeroX):=by
 rw [List.replicate_succ',rowsOf_append,rowsOf_one]
theorem hold_nc {n:Nat} (w:World):Hold ⟨Tryz.prog,tab,[],w,n,[]⟩ [] [carsO w.heap.size none 0 0 [] true] w :=
 Hold.addObj (ob:=[]) (Hold.nil Tryz.prog tab [] n w) (carsO w.heap.size none 0 0 [] true) (World.ownsRow_nil _ _ _ _) (by intro _ g hg; cases hg) (by intro r _ _ hg; cases hg) (by intro A hA; cases hA)
theorem newGR (c:CfgV) (w:World):Calls Tryz.prog 6 #[.agg (cfgA c)] w fun e w'=>∃ x:Nat×RP,e=.returned (.pointer (some ⟨x.1,0,none⟩))∧RO w.heap.size x.1 (newG c) x.2 w'∧Since w w':=by
  have hm:=ncars_bd c
  refine entH tab_ok (hold_nc w) [.a (sCfg c)] Tryz.func6 Tryz.ntmps6 rfl rfl ?_
  conv=>whnf
  intro b0
  conv=>whnf
  intro b
  repeat' (first | refine gq_ ?_|((conv=>whnf); first | refine b3_ (fun h=>?_) (fun h=>?_)|refine fin_s ?_))
  all_goals (conv=>whnf)
  all_goals refine lp ⟨tab_ok⟩ (ι:={x:Nat×Option Addr×Nat // x.1≤ncars c}) (fun x=>match x with | ⟨(k,A,c'),_⟩=>⟨[(3,.p 1 0),(4,.i .i64 (ncars c:Int)),(5,.i .i64 (k:Int))],[⟨b0,23,true,0,[],(sCfg c),[],true⟩,⟨b,72,true,0,[],[.i .i64 (newG c).c.ca,.i .i64 (newG c).c.fl,.i .i64 (newG c).c.ft,.i .i64 (newG c).c.se,.i .i64 (newG c).c.dr,.i .i64 (newG c).c.dw,.i .i64 (newG c).c.ho,.i .i64 (newG c).c.re,.i .i64 (newG c).c.yi,.i .i64 (newG c).c.qu,.i .i64 (newG c).c.qo,.i .i64 (newG c).c.lo,.i .i64 (newG c).c.sl,.i .i64 (newG c).c.rt,.i .i64 (newG c).c.cp,.i .i64 (newG c).c.tr,.i .i64 (newG c).c.de,.i .i64 (newG c).c.wi,.v (.slice A k c'),.v (.slice none 0 0),.i .i64 (newG c).now],[],true⟩],[carsO w.heap.size A k c' (List.replicate k zeroX) true]⟩) (fun x=>ncars c - x.1.1) ⟨(0,none,0),Nat.zero_le _⟩ (wk ?_) ?_
  all_goals first
    | (rintro ⟨⟨k,A,c'⟩,hk⟩
       have hk:k≤ncars c:=hk
       by_cases hlt:k < ncars c
       · repeat' (first | refine gs_ ?_|((conv=>whnf); first | refine bto ?_|refine bfo ?_|refine wr_i ?_|refine opb1 (e:=67) ⟨tab_ok⟩ (sCar zeroX) (by rfl) (by rfl) ?_|refine opap 0 2 (e:=67) (lo:=w.heap.size) (size:=15) (bytes:=112) (z:=.agg #[.int .i64 0,.int .i64 0,.int .i64 0,.int .i64 0,.int .i64 0,.int .i64 0,.int .i64 0,.bool false,.bool false,.int .i64 0,.int .i64 0,.bool false,.int .u64 0,.int .u64 0,.int .u64 0]) (A:=carsO w.heap.size A k c' (List.replicate k zeroX) true) (vals:=rowsOf carL (List.replicate k zeroX)) (cells:=carL zeroX) (zs:=rowsOf carL (List.replicate (k+1) zeroX)) (n2:=k+1) (fun A' c'=>carsO w.heap.size A' (k+1) c' (List.replicate (k+1) zeroX) true) (by rfl) (by rfl) (by rfl) (by rfl) rfl rfl (fun w h=>h) (fun A' c' w h=>h) (fun _ _=>rfl) (by rfl) (by rfl) (by rfl) (by rfl) Tryz.underlying59 (by kernel_rfl) rfl (by decide) (by decide) (carL_one _) (by omega) (fun w hH=>hH.upd.size) rfl (rep_next k) (fun A2 c2=>?_)|intro b3 | refine back ⟨(k+1,A2,c2),by show k+1≤_; omega⟩ (wk ?_) ?_|refine fin_s ?_))
         all_goals first | (show ncars c - (k+1) < ncars c - k; omega)|skip
         all_goals (repeat' (first | exact trivial | rfl | ((conv=>whnf); refine And.intro ?_ ?_)))
       · obtain rfl:k=ncars c:=by omega
         repeat' (first | refine gs_ ?_|((conv=>whnf); first | refine bto ?_|refine bfo ?_|refine wr_i ?_|refine fin fun w' hH=>⟨(_,⟨A,c',none,0⟩),rfl,⟨?_, ?_, ?_,World.ownsRow_nil _ _ _ _⟩,hH.upd.since⟩|refine fin_s ?_))
         · rcases (hH.wf 1 _ rfl rfl).2.2 rfl with h | h
           · cases h
           · exact h
         · have q:=hH.row 1 _ rfl rfl
           rw [rowA_nil rfl rfl] at q
           have e2:(newG c).cars.length=ncars c:=List.length_replicate
           rw [e2]; exact q
         · have q:=hob hH (A:=carsO w.heap.size A (ncars c) c' (List.replicate (ncars c) zeroX) true) 0 rfl
           have e2:(newG c).cars.length=ncars c:=List.length_replicate
           rw [e2]; exact q)
    | ((repeat' (first | exact trivial | rfl | ((conv=>whnf); refine And.intro ?_ ?_))); try exact congrArg (Value.int .i64) (by unfold ncars; (repeat' split) <;> omega))
def dropV (G:GrV) (k:Nat) (x:CarV):GrV:={ G.car k { x with sp:=0,su:=0,sd:=0 } with waits:=G.waits.map (disW k) }
theorem dropR {lo q:Nat} {G:GrV} {P:RP} {w:World} (hg:RO lo q G P w) (hl:G.waits.length≤10000) {k:Nat} {x:CarV} (hx:G.cars[k]?=some x):Calls Tryz.prog 113 #[.pointer (some ⟨q,0,none⟩),.int .i64 (k:Int)] w (RX lo q P w (.tuple #[]) (dropV G k x)):=by
 have h0:=hg.1
 have hlo:lo≤w.heap.size:=Nat.le_of_lt (Nat.lt_of_le_of_lt h0 hg.2.1.lt)
 obtain ⟨A1,c1,A2,c2⟩:=P
 have hk:k < G.cars.length:=(List.getElem?_eq_some_iff.1 hx).1
 obtain ⟨g,hgA⟩:=own_addr hg.2.2.1 (by omega)
 have hgA:A1=some ⟨g,0,none⟩:=hgA
 subst hgA
 have hE:∀ w,(waitsO lo A2 G.waits.length c2 G.waits true).st w→Reads w w.heap.size 4 A2 G.waits.length (rowsOf waitL G.waits):=fun w h=>own_reads h
 refine entH tab_ok (hold_ro hg) [.p 0 0,.i .i64 (k:Int)] Tryz.func113 Tryz.ntmps113 rfl rfl ?_
 repeat' (first | refine gs_ ?_|((conv=>whnf); first | intro b | refine bto ?_|refine bfo ?_|refine opb0 waitE (by rfl) Tryz.underlying32 (by kernel_rfl) (fun g0=>?_)|refine opao 2 1 (e:=76) (lo:=w.heap.size) (size:=4) (bytes:=32) (z:=.agg #[.int .i64 0,.int .i64 0,.int .i64 0,.int .i64 0]) (A:=rwO waitE w.heap.size (some ⟨g0,0,none⟩) 0 0 [] true) (E:=waitsO lo A2 G.waits.length c2 G.waits true) (vals:=[]) (cells:=rowsOf waitL G.waits) (zs:=rowsOf waitL G.waits) (n2:=G.waits.length) (fun A' c'=>waitsO w.heap.size A' G.waits.length c' G.waits true) (by rfl) (by rfl) (by rfl) (by rfl) (by rfl) rfl rfl (fun w h=>h) (fun A' c' w h=>h) (fun _ _=>rfl) hE Tryz.underlying32 (by kernel_rfl) rfl (by decide) (by decide) (waits_one _) (by omega) (fun w hH=>hH.upd.size) (by omega) (by rfl) (fun A' c'=>?_)|refine fin_s ?_))
 conv=>whnf
 refine sm_hold _ [carsO lo (some ⟨g,0,none⟩) G.cars.length c1 G.cars true,waitsO lo A2 G.waits.length c2 G.waits true,waitsO w.heap.size A' G.waits.length c' (upto (disW k) G.waits 0) true] (by rfl) (fun w1 hH=>by rw [upto_zero]; exact hH) ?_
 refine sm_know (p:=∃ g2,0 < G.waits.length→A'=some ⟨g2,0,none⟩) (fun w1 hH=>by
  rcases own_at (hob hH (A:=waitsO w.heap.size A' G.waits.length c' (upto (disW k) G.waits 0) true) 2 rfl) with ⟨_,h0,_⟩ | ⟨g,_,h1,_⟩
  ·exact ⟨0,fun k=>by omega⟩
  ·exact ⟨g,fun _=>h1⟩) (fun hA2=>?_)
 obtain ⟨g2,hA2⟩:=hA2
 refine lpS ⟨tab_ok⟩ (ι:={i:Nat // i≤G.waits.length}) (fun y=>match y with | ⟨i,_⟩=>⟨[(0,.p 0 0),(1,.i .i64 (k:Int)),(4,.i .i64 (i:Int))],roM q G (some ⟨g,0,none⟩) G.cars.length c1 A' G.waits.length c',[carsO lo (some ⟨g,0,none⟩) G.cars.length c1 G.cars true,waitsO lo A2 G.waits.length c2 G.waits true,waitsO w.heap.size A' G.waits.length c' (upto (disW k) G.waits i) true]⟩) (fun y=>G.waits.length - y.1) ⟨0,Nat.zero_le _⟩ (wk ?_) ?_
 ·repeat' (first | exact trivial | rfl | ((conv=>whnf); refine And.intro ?_ ?_))
 rintro ⟨i,hi⟩
 refine sm_run ⟨tab_ok⟩ ?_
 by_cases hlt:i < G.waits.length
 ·obtain rfl:=hA2 (by omega)
  have h2:i < (upto (disW k) G.waits i).length:=by rw [upto_len]; exact hlt
  obtain ⟨a,ha⟩:∃ a,(upto (disW k) G.waits i)[i]?=some a:=⟨_,List.getElem?_eq_getElem h2⟩
  have haw:G.waits[i]=a:=by rw [← upto_at hlt h2]; exact (List.getElem?_eq_some_iff.1 ha).2
  by_cases hc:a.ca=(k:Int)
  ·have he:upto (disW k) G.waits (i+1)=(upto (disW k) G.waits i).set i { a with ca := -1 }:=by
    rw [← upto_set hlt,haw]; unfold disW; rw [if_pos hc]
   repeat' (first | refine gs_ ?_|((conv=>whnf); first | intro b | refine bto ?_|refine bfo ?_|refine wr_i ?_|refine opiv ⟨tab_ok⟩ (by rfl) (by rfl) (by rfl) (by rfl) (by rfl) (by rfl) ⟨by omega,by omega⟩ ?_|refine opfv ⟨tab_ok⟩ (by rfl) (by rfl) (by rfl) (by rfl) ?_|refine opxc (g:=g2) (off:=0+i*4+2) (.i .i64 a.ca) (fun w1 hH=>cell_k (k:=2) (wait_at (hob hH (A:=waitsO w.heap.size (some ⟨g2,0,none⟩) G.waits.length c' (upto (disW k) G.waits i) true) 2 rfl) ha) rfl) ⟨tab_ok⟩ (by rfl) (by rfl) (by simp only [Go.WideShapes.add_plain]; rfl) ?_|refine br_t (beq_iff_eq.2 hc) ?_|refine opsc ⟨tab_ok⟩ 2 i 2 waitE (A:=waitsO w.heap.size (some ⟨g2,0,none⟩) G.waits.length c' (upto (disW k) G.waits i) true) (waitsO w.heap.size (some ⟨g2,0,none⟩) G.waits.length c' ((upto (disW k) G.waits i).set i { a with ca := -1 }) true) a { a with ca := -1 } (by rfl) (by rfl) (by simp only [Go.WideShapes.add_plain]; rfl) (by rfl) (by rfl) rfl (fun w h=>h) ha (by decide) (by rfl) (fun w w' _ h _=>h) (List.mem_singleton.2 rfl) (fun g h=>h) ?_|refine back ⟨i+1,by omega⟩ (wk ?_ (by rfl) (by rfl) (by show [_,_,waitsO w.heap.size (some ⟨g2,0,none⟩) G.waits.length c' (upto (disW k) G.waits (i+1)) true]=_; rw [he])) ?_|refine fin_s ?_))
   all_goals first | (show G.waits.length - (i+1) < G.waits.length - i; omega)|skip
   all_goals (repeat' (first | exact trivial | rfl | ((conv=>whnf); refine And.intro ?_ ?_)))
  ·have he:upto (disW k) G.waits (i+1)=upto (disW k) G.waits i:=upto_same hlt (by rw [haw]; unfold disW; rw [if_neg hc])
   repeat' (first | refine gs_ ?_|((conv=>whnf); first | intro b | refine bto ?_|refine bfo ?_|refine wr_i ?_|refine opiv ⟨tab_ok⟩ (by rfl) (by rfl) (by rfl) (by rfl) (by rfl) (by rfl) ⟨by omega,by omega⟩ ?_|refine opfv ⟨tab_ok⟩ (by rfl) (by rfl) (by rfl) (by rfl) ?_|refine opxc (g:=g2) (off:=0+i*4+2) (.i .i64 a.ca) (fun w1 hH=>cell_k (k:=2) (wait_at (hob hH (A:=waitsO w.heap.size (some ⟨g2,0,none⟩) G.waits.length c' (upto (disW k) G.waits i) true) 2 rfl) ha) rfl) ⟨tab_ok⟩ (by rfl) (by rfl) (by simp only [Go.WideShapes.add_plain]; rfl) ?_|refine br_f (beq_eq_false_iff_ne.2 hc) ?_|refine back ⟨i+1,by omega⟩ (wk ?_ (by rfl) (by rfl) (by show [_,_,waitsO w.heap.size (some ⟨g2,0,none⟩) G.waits.length c' (upto (disW k) G.waits (i+1)) true]=_; rw [he])) ?_|refine fin_s ?_))
   all_goals first | (show G.waits.length - (i+1) < G.waits.length - i; omega)|skip
   all_goals (repeat' (first | exact trivial | rfl | ((conv=>whnf); refine And.intro ?_ ?_)))
 ·obtain rfl:i=G.waits.length:=by omega
  repeat' (first | refine gs_ ?_|((conv=>whnf); first | intro b | refine bto ?_|refine bfo ?_|refine wr_i ?_|refine opiv ⟨tab_ok⟩ (by rfl) (by rfl) (by rfl) (by rfl) (by rfl) (by rfl) ⟨by omega,by omega⟩ ?_|refine opfv ⟨tab_ok⟩ (by rfl) (by rfl) (by rfl) (by rfl) ?_|refine opsp ⟨tab_ok⟩ 0 k 12 carE (A:=carsO lo (some ⟨g,0,none⟩) G.cars.length c1 G.cars true) (carsO lo (some ⟨g,0,none⟩) G.cars.length c1 (G.cars.set k { x with sp:=0,su:=0,sd:=0 }) true) x { x with sp:=0,su:=0,sd:=0 } (by rfl) (by rfl) (by simp only [Go.WideShapes.add_plain]; rfl) (by rfl) (by rfl) rfl (fun w h=>h) hx (by decide) (by rfl) (fun w w' _ h _=>h) (List.mem_singleton.2 rfl) (fun g h=>h) ?_|refine fin_ro 0 2 (by rfl) (by rfl) (by rfl) (by rfl) h0 (Nat.le_refl _) hlo (by simp [dropV,GrV.car]) (by simp [dropV]) (by rfl) upto_end (by rfl)|refine fin_s ?_))
end Rg
namespace Rg
open Go.RowKit Ba Mem En Mo Go.Proofs.YtpiiblkiddcgcaaGreat.Ty Go.Proofs.YtpiiblkiddcgcaaGreat.St Gr
open Ct (cfgA carA)
open Et (carsO car_at blL coV)
open Rf (costR)
set_option maxRecDepth 100000
attribute [local irreducible] Go.Calls
set_option maxHeartbeats 1000000
theorem fin_rp {lo q n n1 n2 c1 c2:Nat} {G:GrV} {A1 A2:Option Addr} {P:RP} {w:World} {V:Value} {v:SV} {cs:List SV} {ls:List CarV} {ws:List WaitV} {st:St}
  (hr:st.m[0]?=some ⟨q,72,true,0,[],cs,[],true⟩) (hi:st.ob[0]?=some (pairO (carsO lo A1 n1 c1 ls true) (waitsO lo A2 n2 c2 ws true)))
  (hv:den st.m v=V) (h0:lo≤q) (h1:n1=G.cars.length) (h2:n2=G.waits.length) (h3:ls=G.cars) (h4:ws=G.waits) (hcs:(denL st.m cs).toArray=grpA G (.slice A1 n1 c1) (.slice A2 n2 c2)) :
  Fin ⟨Tryz.prog,tab,FP q P,w,n,[]⟩ (RX lo q P w V G) v st:=by
 subst h1 h2 h3 h4
 refine fin fun w' hH=>?_
 have ob:=hob hH 0 hi
 refine ⟨⟨A1,c1,A2,c2⟩,by rw [hv],⟨h0, ?_,ob.1,ob.2⟩,hH.upd,fun g hg=>?_⟩
 ·have:=hH.row 0 _ hr rfl
  rw [rowA_nil rfl rfl] at this
  rw [← hcs]; exact this
 ·rcases List.mem_cons.1 hg with rfl | hg
  ·exact (hH.wf 0 _ hr rfl).2.2 rfl
  ·exact hH.own _ (List.mem_of_getElem? hi) rfl g hg
theorem faultGR {lo q:Nat} {G:GrV} {P:RP} {w:World} (hg:RO lo q G P w) (hl:G.waits.length≤10000) (i:Int) (u:Bool):Calls Tryz.prog 46 #[.pointer (some ⟨q,0,none⟩),.int .i64 i,.bool u] w (RX lo q P w (.int .i64 (faultR G i u).2) (faultR G i u).1):=by
 have h0:=hg.1
 obtain ⟨A1,c1,A2,c2⟩:=P
 by_cases hi:i < 0∨(G.cars.length:Int)≤i
 ·rw [fault_out hi]
  refine entH tab_ok (hold_ro hg) [.p 0 0,.i .i64 i,.b u] Tryz.func46 Tryz.ntmps46 rfl rfl ?_
  repeat' (first | refine gs_ ?_|((conv=>whnf); first | intro b | refine bto ?_|refine bfo ?_|refine callH (f:=111) (.b (decide (0≤i∧i < (G.cars.length:Int)))) (fun w hH=>carR q G _ _ _ _ i w (hH.row 0 _ rfl rfl)) ?_|refine fin_ro 0 1 (by rfl) (by rfl) (by rfl) (by rfl) h0 (Nat.le_refl _) (Nat.le_refl _) (by rfl) (by rfl) (by rfl) (by rfl) (by rfl)|refine fin_s ?_))
 ·obtain ⟨k,rfl⟩:∃ k:Nat,i=(k:Int):=⟨i.toNat,by omega⟩
  have hk:k < G.cars.length:=by omega
  obtain ⟨x,hx⟩:∃ x,G.cars[k]?=some x:=⟨_,List.getElem?_eq_getElem hk⟩
  have hxk:G.cars[k]=x:=(List.getElem?_eq_some_iff.1 hx).2
  obtain ⟨g,hgA⟩:=own_addr hg.2.2.1 (by omega)
  have hgA:A1=some ⟨g,0,none⟩:=hgA
  subst hgA
  rw [fault_in hk,hxk]
  cases u with
  | false =>
   refine entH tab_ok (hold_ro hg) [.p 0 0,.i .i64 (k:Int),.b false] Tryz.func46 Tryz.ntmps46 rfl rfl ?_
   repeat' (first | refine gs_ ?_|((conv=>whnf); first | intro b | refine bto ?_|refine bfo ?_|refine callH (f:=111) (.b (decide (0≤(k:Int)∧(k:Int) < (G.cars.length:Int)))) (fun w hH=>carR q G _ _ _ _ (k:Int) w (hH.row 0 _ rfl rfl)) ?_|refine opiv ⟨tab_ok⟩ (by rfl) (by rfl) (by rfl) (by rfl) (by rfl) (by rfl) ⟨by omega,by omega⟩ ?_|refine opfv ⟨tab_ok⟩ (by rfl) (by rfl) (by rfl) (by rfl) ?_|refine opsc ⟨tab_ok⟩ 0 k 8 carE (A:=carsO lo (some ⟨g,0,none⟩) G.cars.length c1 G.cars true) (carsO lo (some ⟨g,0,none⟩) G.cars.length c1 (G.cars.set k { x with br:=false }) true) x { x with br:=false } (by rfl) (by rfl) (by simp only [Go.WideShapes.add_plain]; rfl) (by rfl) (by rfl) rfl (fun w h=>h) hx (by decide) (by rfl) (fun w w' _ h _=>h) (List.mem_singleton.2 rfl) (fun g h=>h) ?_|refine fin_ro 0 1 (by rfl) (by rfl) (by rfl) (by rfl) h0 (Nat.le_refl _) (Nat.le_refl _) (by simp [GrV.car]) (by rfl) (by rfl) (by rfl) (by rfl)|refine fin_s ?_))
  | true =>
   have hx1:(G.car k { x with br:=true }).cars[k]?=some { x with br:=true }:=by simp [GrV.car,hk]
   have hdv:(dropV (G.car k { x with br:=true }) k { x with br:=true })={ G.car k (fltY true x) with waits:=fltW true k G.waits }:=by
    simp [dropV,GrV.car,fltY,fltW]
   refine entH tab_ok (hold_ro hg) [.p 0 0,.i .i64 (k:Int),.b true] Tryz.func46 Tryz.ntmps46 rfl rfl ?_
   repeat' (first | refine gs_ ?_|((conv=>whnf); first | intro b | refine bto ?_|refine bfo ?_|refine callH (f:=111) (.b (decide (0≤(k:Int)∧(k:Int) < (G.cars.length:Int)))) (fun w hH=>carR q G _ _ _ _ (k:Int) w (hH.row 0 _ rfl rfl)) ?_|refine opiv ⟨tab_ok⟩ (by rfl) (by rfl) (by rfl) (by rfl) (by rfl) (by rfl) ⟨by omega,by omega⟩ ?_|refine opfv ⟨tab_ok⟩ (by rfl) (by rfl) (by rfl) (by rfl) ?_|refine opsc ⟨tab_ok⟩ 0 k 8 carE (A:=carsO lo (some ⟨g,0,none⟩) G.cars.length c1 G.cars true) (carsO lo (some ⟨g,0,none⟩) G.cars.length c1 (G.cars.set k { x with br:=true }) true) x { x with br:=true } (by rfl) (by rfl) (by simp only [Go.WideShapes.add_plain]; rfl) (by rfl) (by rfl) rfl (fun w h=>h) hx (by decide) (by rfl) (fun w w' _ h _=>h) (List.mem_singleton.2 rfl) (fun g h=>h) ?_|refine fin_s ?_))
   obtain ⟨D,hD⟩:∃ D,D=dropV (G.car k { x with br:=true }) k { x with br:=true }:=⟨_,rfl⟩
   obtain ⟨cs1,hcs1⟩:∃ cs1,cs1=G.cars.set k { x with br:=true }:=⟨_,rfl⟩
   rw [← hD] at hdv
   rw [← hcs1]
   refine call_hold _ [pairO (carsO lo (some ⟨g,0,none⟩) G.cars.length c1 cs1 true) (waitsO lo A2 G.waits.length c2 G.waits true)] (Ext.refl _) (fun w1 hH=>Hold.pair hH rfl rfl) (by rfl) ?_
   refine callRO (f:=113) 0 0 (A:=pairO (carsO lo (some ⟨g,0,none⟩) G.cars.length c1 cs1 true) (waitsO lo A2 G.waits.length c2 G.waits true)) (ι:=RP) (fun _=>.t []) (fun P'=>[.i .i64 G.c.ca,.i .i64 G.c.fl,.i .i64 G.c.ft,.i .i64 G.c.se,.i .i64 G.c.dr,.i .i64 G.c.dw,.i .i64 G.c.ho,.i .i64 G.c.re,.i .i64 G.c.yi,.i .i64 G.c.qu,.i .i64 G.c.qo,.i .i64 G.c.lo,.i .i64 G.c.sl,.i .i64 G.c.rt,.i .i64 G.c.cp,.i .i64 G.c.tr,.i .i64 G.c.de,.i .i64 G.c.wi,.v (.slice P'.A1 D.cars.length P'.c1),.v (.slice P'.A2 D.waits.length P'.c2),.i .i64 G.now]) (fun P'=>pairO (carsO lo P'.A1 D.cars.length P'.c1 D.cars true) (waitsO lo P'.A2 D.waits.length P'.c2 D.waits true)) (fun w1 hH hB hA hne=>?_) (fun P'=>?_)
   ·have e1:(G.car k { x with br:=true }).cars.length=G.cars.length:=by simp [GrV.car]
    have hg1:RO lo q (G.car k { x with br:=true }) ⟨some ⟨g,0,none⟩,c1,A2,c2⟩ w1:=⟨h0,by rw [e1]; exact hB,by rw [e1]; have:=hA.1; rw [hcs1] at this; exact this,hA.2⟩
    have:=dropR hg1 hl hx1
    rw [← hD] at this
    refine this.mono (fun e w' h=>?_)
    have:=h.parts
    subst hdv
    exact this
   ·repeat' (first | refine gs_ ?_|((conv=>whnf); first | refine fin_rp (by rfl) (by rfl) (by rfl) h0 (congrArg (fun G=>G.cars.length) hdv) (congrArg (fun G=>G.waits.length) hdv) (congrArg (fun G=>G.cars) hdv) (congrArg (fun G=>G.waits) hdv) (by rfl)|refine fin_s ?_))
end Rg
end Go.Proofs.YtpiiblkiddcgcaaGreat
