/-
  Wanted: part 7.
  No condition.
-/
import Derived.Test.YtepfmfalebmcnaaGreatDoorQH5
import Derived.Test.YtepfmfalebmcnaaGreatDoorQH6
import Derived.Test.YtepfmfalebmcnaaGreatDoorQH0
set_option linter.all false
namespace Go.Proofs.YtepfmfalebmcnaaGreatDoor
namespace Tw
open Go.RowKit Ba En Tm
set_option maxRecDepth 100000
attribute [local irreducible] Go.Calls
theorem clT (n:Int) (w:World):Calls Tryz.prog 189 #[.int .i64 n] w fun e w'=>e=.returned (.int .i64 (cl n))∧Since w w':=by
 refine ent tab_ok [.i .i64 n] Tryz.func189 Tryz.ntmps189 rfl rfl ?_
 repeat' (first | refine gs_ ?_|((conv=>whnf); first | refine fin_s ?_))
 exact congrArg (Value.int .i64) (by unfold cl; repeat' split <;> omega)
theorem addT (a b:Int) (w:World):Calls Tryz.prog 127 #[.int .i64 a,.int .i64 b] w fun e w'=>e=.returned (.int .i64 (cl (cl a+cl b)))∧Since w w':=by
 have h1:=cl_lo a
 have h2:=cl_hi a
 have h3:=cl_lo b
 have h4:=cl_hi b
 refine ent tab_ok [.i .i64 a,.i .i64 b] Tryz.func127 Tryz.ntmps127 rfl rfl ?_
 repeat' (first | refine gs_ ?_|((conv=>whnf); first | refine wr_i ?_|refine callS (f:=189) (.i .i64 (cl _)) (clT _) ?_|refine fin_s ?_))
 all_goals rfl
theorem lateT (a b:Int) (w:World):Calls Tryz.prog 126 #[.int .i64 a,.int .i64 b] w fun e w'=>e=.returned (.bool (decide (cl b≤cl a)))∧Since w w':=by
 refine ent tab_ok [.i .i64 a,.i .i64 b] Tryz.func126 Tryz.ntmps126 rfl rfl ?_
 repeat' (first | refine gs_ ?_|((conv=>whnf); first | refine callS (f:=189) (.i .i64 (cl _)) (clT _) ?_|refine fin_s ?_))
 all_goals rfl
end Tw
namespace Ri
open Go.RowKit Ba Mo Go.Proofs.YtepfmfalebmcnaaGreatDoor.Ty Mem Tm Tw En
open Ce (ms ms_lo ms_hi massT nearT nr)
set_option maxRecDepth 100000
def sp (n:Int):Int:=if n < 1 then 1 else if 1000 < n then 1000 else n
theorem sp_lo (n:Int):1≤sp n:=by unfold sp; repeat' split <;> omega
theorem sp_hi (n:Int):sp n≤1000:=by unfold sp; repeat' split <;> omega
def rn (n:Int):Int:=if n < 0 then 0 else if 1000 < n then 1000 else n
def trV (c:CfgV):Int:=4*(fl c.fl - 1)+3*sp c.dr+4
theorem tr_lo (c:CfgV):11≤trV c:=by have:=fl_lo c.fl; have:=sp_lo c.dr; unfold trV; omega
theorem tr_hi (c:CfgV):trV c≤4000:=by have:=fl_hi c.fl; have:=sp_hi c.dr; unfold trV; omega
structure MsgV where
 ki:Int
 a:Int
 b:Int
 c:Int
def msgC (m:MsgV):Array Value:=#[.int .i64 m.ki,.int .i64 m.a,.int .i64 m.b,.int .i64 m.c]
def Ms (w0 w:World) (v:Value) (o:Option MsgV):Prop :=
 match o with
 | none=>v=.slice none 0 0
 | some m=>∃ b,v=.slice (some ⟨b,0,none⟩) 1 1∧w0.heap.size≤b∧Blk w b 26 (msgC m)
def opB (x:CarV) (f:Int):Bool:=lvB x.un && (lvN x.un == f) && (x.ds == 2)
def Said (w:World) (r:LeaseV×Option MsgV×Bool) (e:Ending) (w':World):Prop:=∃ v,e=.returned (.tuple #[.agg #[.int .i64 r.1.se,.int .i64 r.1.fl,.int .i64 r.1.fm,.int .i64 r.1.to,.int .i64 r.1.ma,.int .i64 r.1.ca,.int .i64 r.1.ph,.int .i64 r.1.un,.int .i64 r.1.re,.int .i64 r.1.gr],v,.bool r.2.2])∧Ms w w' v r.2.1∧Since w w'
theorem sayT (k a:Int) (w:World):Calls Tryz.prog 173 #[.int .i64 k,.int .i64 a] w fun e w'=>∃ b,e=.returned (.slice (some ⟨b,0,none⟩) 1 1)∧w.heap.size≤b∧Blk w' b 26 #[.int .i64 k,.int .i64 a,.int .i64 0,.int .i64 0]∧Since w w':=by
 go_enter Tryz.func173,Tryz.ntmps173
 go_wp2
 go_ret
 exact ⟨_,rfl,Nat.le_refl _,Blk.new _ _ _,sn_⟩
theorem said_s {n:Nat} {w:World} {st:St} {j b:Nat} {r:LeaseV×Option MsgV×Bool} {a1 a2 a3 a4 a5 a6 a7 a8 a9 a10 k a:Int} {ov:Bool} (hr:r=(⟨a1,a2,a3,a4,a5,a6,a7,a8,a9,a10⟩,some ⟨k,a,0,0⟩,ov)) (hj:st.m[j]?=some ⟨b,26,true,0,[],[.i .i64 k,.i .i64 a,.i .i64 0,.i .i64 0],[],true⟩) :
  Fin ⟨Tryz.prog,tab,[],w,n,[]⟩ (Said w r) (.t [.a [.i .i64 a1,.i .i64 a2,.i .i64 a3,.i .i64 a4,.i .i64 a5,.i .i64 a6,.i .i64 a7,.i .i64 a8,.i .i64 a9,.i .i64 a10],.s j 0 1 1,.b ov]) st:=by
 subst hr
 refine fin fun w' hH=>⟨.slice (some ⟨b,0,none⟩) 1 1, ?_,⟨b,rfl, ?_,hH.row j _ hj rfl⟩,hH.upd.since⟩
 ·simp [den,denL,hj]
 ·rcases (hH.wf j _ hj rfl).2.2 rfl with h | h
  ·cases h
  ·exact h
theorem said_n {n:Nat} {w:World} {st:St} {r:LeaseV×Option MsgV×Bool} {a1 a2 a3 a4 a5 a6 a7 a8 a9 a10:Int} {ov:Bool} (hr:r=(⟨a1,a2,a3,a4,a5,a6,a7,a8,a9,a10⟩,none,ov)) :
  Fin ⟨Tryz.prog,tab,[],w,n,[]⟩ (Said w r) (.t [.a [.i .i64 a1,.i .i64 a2,.i .i64 a3,.i .i64 a4,.i .i64 a5,.i .i64 a6,.i .i64 a7,.i .i64 a8,.i .i64 a9,.i .i64 a10],.v (.slice none 0 0),.b ov]) st:=by
 subst hr
 exact fin fun w' hH=>⟨.slice none 0 0,rfl,rfl,hH.upd.since⟩
attribute [local irreducible] Go.Calls lvB nr ms
theorem spanT (n:Int) (w:World):Calls Tryz.prog 222 #[.int .i64 n] w fun e w'=>e=.returned (.int .i64 (sp n))∧Since w w':=by
 refine ent tab_ok [.i .i64 n] Tryz.func222 Tryz.ntmps222 rfl rfl ?_
 repeat' (first | refine gs_ ?_|((conv=>whnf); first | refine fin_s ?_))
 exact congrArg (Value.int .i64) (by unfold sp; repeat' split <;> omega)
theorem tripT (c:CfgV) (w:World):Calls Tryz.prog 187 #[(aCfg c)] w fun e w'=>e=.returned (.int .i64 (trV c))∧Since w w':=by
 have f1:=fl_lo c.fl
 have f2:=fl_hi c.fl
 have f3:=sp_lo c.dr
 have f4:=sp_hi c.dr
 refine ent tab_ok [.a (sCfg c)] Tryz.func187 Tryz.ntmps187 rfl rfl ?_
 repeat' (first | refine gs_ ?_|((conv=>whnf); first | intro b | refine wr_i ?_|refine callS (f:=113) (.i .i64 (fl _)) (floorsT _) ?_|refine callS (f:=222) (.i .i64 (sp _)) (spanT _) ?_|refine fin_s ?_))
 all_goals rfl
theorem openT (x:CarV) (f:Int) (w:World):Calls Tryz.prog 174 #[.agg #[.int .i64 x.ds,.int .i64 x.da,.int .i64 x.un,.int .i64 x.wy,.int .i64 x.ti,.int .i64 x.ju,.int .i64 x.lo,.bool x.bl,.bool x.br,.int .i64 x.mo,.int .i64 x.ta,.bool x.ho,.int .u64 x.sp,.int .u64 x.su,.int .u64 x.sd],.int .i64 f] w fun e w'=>e=.returned (.bool (opB x f))∧Since w w':=by
 refine ent tab_ok [.a (sCar x),.i .i64 f] Tryz.func174 Tryz.ntmps174 rfl rfl ?_
 repeat' (first | refine gs_ ?_|((conv=>whnf); first | intro b | refine b3_ (fun h=>?_) (fun h=>?_)|refine callS (f:=221) (.t [.i .i64 (lvN _),.b (lvB _)]) (levelT _) ?_|refine fin_s ?_))
 all_goals (unfold opB; simp [den, *])
theorem heldT (c:CfgV) (now:Int) (w:World):Calls Tryz.prog 175 #[(aCfg c),.int .i64 now] w fun e w'=>e=.returned (.int .i64 (cl (cl now+cl (sp c.ho))))∧Since w w':=by
 refine ent tab_ok [.a (sCfg c),.i .i64 now] Tryz.func175 Tryz.ntmps175 rfl rfl ?_
 repeat' (first | refine gs_ ?_|((conv=>whnf); first | intro b | refine b3_ (fun h=>?_) (fun h=>?_)|refine callS (f:=222) (.i .i64 (sp _)) (spanT _) ?_|refine callS (f:=127) (.i .i64 (cl (cl _+cl _))) (addT _ _) ?_|refine fin_s ?_))
 all_goals rfl
attribute [local irreducible] trV opB cl sp
def entV (c:CfgV) (l:LeaseV) (x:CarV) (now:Int):LeaseV×Option MsgV×Bool :=
 if nr x.lo l.ma c.sl=true then (⟨l.se,l.fl,l.fm,l.to,l.ma,l.ca,3,cl (cl now+cl (trV c)),l.re,l.gr⟩,some ⟨10,0,0,0⟩,false) else (⟨l.se,l.fl,l.fm,l.to,l.ma,l.ca,l.ph,l.un,l.re,l.gr⟩,some ⟨11,ms x.lo,0,0⟩,false)
theorem entT (c:CfgV) (l:LeaseV) (x:CarV) (now:Int) (w:World):Calls Tryz.prog 269 #[(aCfg c),.agg #[.int .i64 l.se,.int .i64 l.fl,.int .i64 l.fm,.int .i64 l.to,.int .i64 l.ma,.int .i64 l.ca,.int .i64 l.ph,.int .i64 l.un,.int .i64 l.re,.int .i64 l.gr],.agg #[.int .i64 x.ds,.int .i64 x.da,.int .i64 x.un,.int .i64 x.wy,.int .i64 x.ti,.int .i64 x.ju,.int .i64 x.lo,.bool x.bl,.bool x.br,.int .i64 x.mo,.int .i64 x.ta,.bool x.ho,.int .u64 x.sp,.int .u64 x.su,.int .u64 x.sd],.int .i64 now] w (Said w (entV c l x now)):=by
 cases hn:nr x.lo l.ma c.sl
 all_goals
  refine ent tab_ok [.a (sCfg c),.a [.i .i64 l.se,.i .i64 l.fl,.i .i64 l.fm,.i .i64 l.to,.i .i64 l.ma,.i .i64 l.ca,.i .i64 l.ph,.i .i64 l.un,.i .i64 l.re,.i .i64 l.gr],.a (sCar x),.i .i64 now] Tryz.func269 Tryz.ntmps269 rfl rfl ?_
  repeat' (first | refine gs_ ?_|((conv=>whnf); first | intro b | refine b3_ (fun h=>?_) (fun h=>?_)|refine callS (f:=289) (.b (nr _ _ _)) (nearT _ _ _) ?_|refine callS (f:=116) (.i .i64 (ms _)) (massT _) ?_|refine callS (f:=187) (.i .i64 (trV c)) (tripT c) ?_|refine callS (f:=127) (.i .i64 (cl (cl _+cl _))) (addT _ _) ?_|refine callB (f:=173) (t:=26) [.i .i64 _,.i .i64 _,.i .i64 0,.i .i64 0] (fun j=>.s j 0 1 1) (fun w=>(sayT _ _ w).mono (by rintro e w' ⟨b,rfl,h1,h2,h3⟩; exact ⟨b,rfl,h1,h2,h3⟩)) ?_|refine said_s (b:=_) ?_ (by rfl)|refine said_n ?_|refine fin_s ?_))
 all_goals (simp [entV,hn])
def mayRe (c:CfgV) (l:LeaseV):Bool:=((l.ph == 2) || (l.ph == 4)) && decide (l.re < rn c.re)
theorem rnE (r:Int):(if 1000 < (if r < 0 then 0 else r) then 1000 else (if r < 0 then 0 else r))=rn r:=by unfold rn; repeat' split <;> omega
theorem mayReT (c:CfgV) (l:LeaseV) (w:World):Calls Tryz.prog 270 #[(aCfg c),.agg #[.int .i64 l.se,.int .i64 l.fl,.int .i64 l.fm,.int .i64 l.to,.int .i64 l.ma,.int .i64 l.ca,.int .i64 l.ph,.int .i64 l.un,.int .i64 l.re,.int .i64 l.gr]] w fun e w'=>e=.returned (.bool (mayRe c l))∧Since w w':=by
 refine ent tab_ok [.a (sCfg c),.a [.i .i64 l.se,.i .i64 l.fl,.i .i64 l.fm,.i .i64 l.to,.i .i64 l.ma,.i .i64 l.ca,.i .i64 l.ph,.i .i64 l.un,.i .i64 l.re,.i .i64 l.gr]] Tryz.func270 Tryz.ntmps270 rfl rfl ?_
 repeat' (first | refine gs_ ?_|((conv=>whnf); first | intro b | refine b3_ (fun h=>?_) (fun h=>?_)|refine fin_s ?_))
 all_goals (unfold mayRe; simp [den, *])
 all_goals rw [rnE]
def tickV (c:CfgV) (l:LeaseV) (x:CarV) (now:Int):LeaseV×Option MsgV×Bool :=
 if x.br=true∨cl l.un≤cl now then ((⟨l.se,l.fl,l.fm,l.to,l.ma,l.ca,l.ph,l.un,l.re,l.gr⟩:LeaseV),some ⟨16,l.ph,0,0⟩,true)
 else if l.ph=1∧opB x l.fm=true then ((⟨l.se,l.fl,l.fm,l.to,l.ma,l.ca,2,cl (cl now+cl (sp c.ho)),l.re,l.gr⟩:LeaseV),some ⟨8,l.fm,0,0⟩,false)
 else if l.ph=3∧opB x l.to=true then ((⟨l.se,l.fl,l.fm,l.to,l.ma,l.ca,4,cl (cl now+cl (sp c.ho)),l.re,l.gr⟩:LeaseV),some ⟨12,l.to,0,0⟩,false)
 else ((⟨l.se,l.fl,l.fm,l.to,l.ma,l.ca,l.ph,l.un,l.re,l.gr⟩:LeaseV),none,false)
theorem tickT (c:CfgV) (l:LeaseV) (x:CarV) (now:Int) (w:World):Calls Tryz.prog 121 #[(aCfg c),.agg #[.int .i64 l.se,.int .i64 l.fl,.int .i64 l.fm,.int .i64 l.to,.int .i64 l.ma,.int .i64 l.ca,.int .i64 l.ph,.int .i64 l.un,.int .i64 l.re,.int .i64 l.gr],.agg #[.int .i64 x.ds,.int .i64 x.da,.int .i64 x.un,.int .i64 x.wy,.int .i64 x.ti,.int .i64 x.ju,.int .i64 x.lo,.bool x.bl,.bool x.br,.int .i64 x.mo,.int .i64 x.ta,.bool x.ho,.int .u64 x.sp,.int .u64 x.su,.int .u64 x.sd],.int .i64 now] w (Said w (tickV c l x now)):=by
 refine ent tab_ok [.a (sCfg c),.a [.i .i64 l.se,.i .i64 l.fl,.i .i64 l.fm,.i .i64 l.to,.i .i64 l.ma,.i .i64 l.ca,.i .i64 l.ph,.i .i64 l.un,.i .i64 l.re,.i .i64 l.gr],.a (sCar x),.i .i64 now] Tryz.func121 Tryz.ntmps121 rfl rfl ?_
 repeat' (first | refine gs_ ?_|((conv=>whnf); first | intro b | refine b3_ (fun h=>?_) (fun h=>?_)|refine callS (f:=126) (.b (decide (cl l.un≤cl now))) (lateT _ _) ?_|refine callS (f:=174) (.b (opB x _)) (openT x _) ?_|refine callS (f:=175) (.i .i64 (cl (cl now+cl (sp c.ho)))) (heldT c now) ?_|refine callB (f:=173) (t:=26) [.i .i64 _,.i .i64 _,.i .i64 0,.i .i64 0] (fun j=>.s j 0 1 1) (fun w=>(sayT _ _ w).mono (by rintro e w' ⟨b,rfl,h1,h2,h3⟩; exact ⟨b,rfl,h1,h2,h3⟩)) ?_|refine said_s (b:=_) ?_ (by rfl)|refine said_n ?_|refine fin_s ?_))
 all_goals first | (simp [tickV, *]; done)|(exfalso; omega)
attribute [local irreducible] mayRe
def hearV (c:CfgV) (l:LeaseV) (x:CarV) (now:Int) (m:MsgV):LeaseV×Option MsgV×Bool :=
 if m.ki=9∧l.ph=2 then (if nr x.lo l.ma c.sl=true then ((⟨l.se,l.fl,l.fm,l.to,l.ma,l.ca,3,cl (cl now+cl (trV c)),l.re,l.gr⟩:LeaseV),some ⟨10,0,0,0⟩,false) else ((⟨l.se,l.fl,l.fm,l.to,l.ma,l.ca,l.ph,l.un,l.re,l.gr⟩:LeaseV),some ⟨11,ms x.lo,0,0⟩,false))
 else if m.ki=13∧l.ph=4 then ((⟨l.se,l.fl,l.fm,l.to,l.ma,l.ca,l.ph,l.un,l.re,l.gr⟩:LeaseV),some ⟨14,0,0,0⟩,true)
 else if m.ki=15∧mayRe c l=true then ((⟨l.se,l.fl,l.fm,l.to,l.ma,l.ca,l.ph,cl (cl now+cl (sp c.ho)),IntKind.i64.wrap (l.re+1),l.gr⟩:LeaseV),some ⟨4,l.ca,0,0⟩,false)
 else ((⟨l.se,l.fl,l.fm,l.to,l.ma,l.ca,l.ph,l.un,l.re,l.gr⟩:LeaseV),some ⟨7,l.ph,0,0⟩,false)
theorem hearT (c:CfgV) (l:LeaseV) (x:CarV) (now:Int) (m:MsgV) (w:World):Calls Tryz.prog 243 #[(aCfg c),.agg #[.int .i64 l.se,.int .i64 l.fl,.int .i64 l.fm,.int .i64 l.to,.int .i64 l.ma,.int .i64 l.ca,.int .i64 l.ph,.int .i64 l.un,.int .i64 l.re,.int .i64 l.gr],.agg #[.int .i64 x.ds,.int .i64 x.da,.int .i64 x.un,.int .i64 x.wy,.int .i64 x.ti,.int .i64 x.ju,.int .i64 x.lo,.bool x.bl,.bool x.br,.int .i64 x.mo,.int .i64 x.ta,.bool x.ho,.int .u64 x.sp,.int .u64 x.su,.int .u64 x.sd],.int .i64 now,.agg (msgC m)] w (Said w (hearV c l x now m)):=by
 by_cases he:m.ki=9∧l.ph=2
 ·rw [show hearV c l x now m=entV c l x now by unfold hearV entV; rw [if_pos he]]
  obtain ⟨h9,h2⟩:=he
  cases hn:nr x.lo l.ma c.sl with
  | true =>
   have e0:entV c l x now=(⟨l.se,l.fl,l.fm,l.to,l.ma,l.ca,3,(cl (cl now+cl (trV c))),l.re,l.gr⟩,some ⟨10,0,0,0⟩,false):=by unfold entV; rw [if_pos hn]
   rw [e0]
   refine ent tab_ok [.a (sCfg c),.a [.i .i64 l.se,.i .i64 l.fl,.i .i64 l.fm,.i .i64 l.to,.i .i64 l.ma,.i .i64 l.ca,.i .i64 l.ph,.i .i64 l.un,.i .i64 l.re,.i .i64 l.gr],.a (sCar x),.i .i64 now,.a [.i .i64 m.ki,.i .i64 m.a,.i .i64 m.b,.i .i64 m.c]] Tryz.func243 Tryz.ntmps243 rfl rfl ?_
   repeat' (first | refine gs_ ?_|((conv=>whnf); first | intro b | refine bto ?_|refine bfo ?_|refine br_f (beq_eq_false_iff_ne.2 (by omega)) ?_|refine b3_ (fun h=>?_) (fun h=>?_)|refine callB (f:=269) (t:=26) [.i .i64 10,.i .i64 0,.i .i64 0,.i .i64 0] (fun j=>.t [.a [.i .i64 l.se,.i .i64 l.fl,.i .i64 l.fm,.i .i64 l.to,.i .i64 l.ma,.i .i64 l.ca,.i .i64 3,.i .i64 (cl (cl now+cl (trV c))),.i .i64 l.re,.i .i64 l.gr],.s j 0 1 1,.b false]) (fun w=>(entT c l x now w).mono (by rintro e w' ⟨v,rfl,hv,hs⟩; rw [e0] at hv ⊢; obtain ⟨b,rfl,h1,h2⟩:=hv; exact ⟨b,by simp [den,denL],h1,h2,hs⟩)) ?_|refine said_s (b:=_) ?_ (by rfl)|refine said_n ?_|refine fin_s ?_))
   all_goals rfl
  | false =>
   have e0:entV c l x now=(⟨l.se,l.fl,l.fm,l.to,l.ma,l.ca,l.ph,l.un,l.re,l.gr⟩,some ⟨11,ms x.lo,0,0⟩,false):=by unfold entV; rw [if_neg (by simp [hn])]
   rw [e0]
   refine ent tab_ok [.a (sCfg c),.a [.i .i64 l.se,.i .i64 l.fl,.i .i64 l.fm,.i .i64 l.to,.i .i64 l.ma,.i .i64 l.ca,.i .i64 l.ph,.i .i64 l.un,.i .i64 l.re,.i .i64 l.gr],.a (sCar x),.i .i64 now,.a [.i .i64 m.ki,.i .i64 m.a,.i .i64 m.b,.i .i64 m.c]] Tryz.func243 Tryz.ntmps243 rfl rfl ?_
   repeat' (first | refine gs_ ?_|((conv=>whnf); first | intro b | refine bto ?_|refine bfo ?_|refine br_f (beq_eq_false_iff_ne.2 (by omega)) ?_|refine b3_ (fun h=>?_) (fun h=>?_)|refine callB (f:=269) (t:=26) [.i .i64 11,.i .i64 (ms x.lo),.i .i64 0,.i .i64 0] (fun j=>.t [.a [.i .i64 l.se,.i .i64 l.fl,.i .i64 l.fm,.i .i64 l.to,.i .i64 l.ma,.i .i64 l.ca,.i .i64 l.ph,.i .i64 l.un,.i .i64 l.re,.i .i64 l.gr],.s j 0 1 1,.b false]) (fun w=>(entT c l x now w).mono (by rintro e w' ⟨v,rfl,hv,hs⟩; rw [e0] at hv ⊢; obtain ⟨b,rfl,h1,h2⟩:=hv; exact ⟨b,by simp [den,denL],h1,h2,hs⟩)) ?_|refine said_s (b:=_) ?_ (by rfl)|refine said_n ?_|refine fin_s ?_))
   all_goals rfl
 ·refine ent tab_ok [.a (sCfg c),.a [.i .i64 l.se,.i .i64 l.fl,.i .i64 l.fm,.i .i64 l.to,.i .i64 l.ma,.i .i64 l.ca,.i .i64 l.ph,.i .i64 l.un,.i .i64 l.re,.i .i64 l.gr],.a (sCar x),.i .i64 now,.a [.i .i64 m.ki,.i .i64 m.a,.i .i64 m.b,.i .i64 m.c]] Tryz.func243 Tryz.ntmps243 rfl rfl ?_
  repeat' (first | refine gs_ ?_|((conv=>whnf); first | intro b | refine bto ?_|refine bfo ?_|refine br_f (beq_eq_false_iff_ne.2 (by omega)) ?_|refine b3_ (fun h=>?_) (fun h=>?_)|refine Wr.mk ?_|refine callS (f:=270) (.b (mayRe c l)) (mayReT c l) ?_|refine callS (f:=175) (.i .i64 (cl (cl now+cl (sp c.ho)))) (heldT c now) ?_|refine callB (f:=173) (t:=26) [.i .i64 _,.i .i64 _,.i .i64 0,.i .i64 0] (fun j=>.s j 0 1 1) (fun w=>(sayT _ _ w).mono (by rintro e w' ⟨b,rfl,h1,h2,h3⟩; exact ⟨b,rfl,h1,h2,h3⟩)) ?_|refine said_s (b:=_) ?_ (by rfl)|refine said_n ?_|refine fin_s ?_))
  all_goals first | (simp [hearV, *]; done)|(exfalso; omega)|(exfalso; apply he; constructor <;> assumption)|(have h2:¬ l.ph=2:=(by omega); simp [hearV, *]; done)
def aimF (l:LeaseV):Int:=if l.ph≤2 then l.fm else l.to
theorem aimT (l:LeaseV) (w:World):Calls Tryz.prog 178 #[.agg #[.int .i64 l.se,.int .i64 l.fl,.int .i64 l.fm,.int .i64 l.to,.int .i64 l.ma,.int .i64 l.ca,.int .i64 l.ph,.int .i64 l.un,.int .i64 l.re,.int .i64 l.gr]] w fun e w'=>e=.returned (.tuple #[.int .i64 (aimF l),.bool true])∧Since w w':=by
 refine ent tab_ok [.a [.i .i64 l.se,.i .i64 l.fl,.i .i64 l.fm,.i .i64 l.to,.i .i64 l.ma,.i .i64 l.ca,.i .i64 l.ph,.i .i64 l.un,.i .i64 l.re,.i .i64 l.gr]] Tryz.func178 Tryz.ntmps178 rfl rfl ?_
 repeat' (first | refine gs_ ?_|((conv=>whnf); first | intro b | refine b3_ (fun h=>?_) (fun h=>?_)|refine fin_s ?_))
 all_goals (unfold aimF; simp [den,denL, *])
end Ri
namespace Fl
open Go.RowKit Ba Mem En Go.Proofs.YtepfmfalebmcnaaGreatDoor.Ty Mo
open Qu (leaC leaC_len leaC_one leas_one btw)
open Ce (ms massT)
set_option maxRecDepth 100000
attribute [local irreducible] Go.Calls
def leaE:Ek LeaseV:=⟨71,10,leaC,leaC_len,leaC_one⟩
def belB (n m:Int):Bool:=decide (0≤n) && decide (n < m)
def mayB (c:CfgV) (a:AskV):Bool:=belB a.se (btw c.se 1 64) && belB a.fl (btw c.ft 1 8) && belB a.fm (fl c.fl) && belB a.to (fl c.fl) && (a.fm != a.to) && decide (1≤a.ma) && decide (a.ma≤ms c.lo)
theorem belT (n m:Int) (w:World):Calls Tryz.prog 114 #[.int .i64 n,.int .i64 m] w fun e w'=>e=.returned (.bool (belB n m))∧Since w w':=by
 refine ent tab_ok [.i .i64 n,.i .i64 m] Tryz.func114 Tryz.ntmps114 rfl rfl ?_
 repeat' (first | refine gs_ ?_|((conv=>whnf); first | refine b3_ (fun h=>?_) (fun h=>?_)|refine fin_s ?_))
 all_goals (unfold belB; simp [den, *])
theorem btwT (n lo hi:Int) (h:lo≤hi) (w:World):Calls Tryz.prog 115 #[.int .i64 n,.int .i64 lo,.int .i64 hi] w fun e w'=>e=.returned (.int .i64 (btw n lo hi))∧Since w w':=by
 refine ent tab_ok [.i .i64 n,.i .i64 lo,.i .i64 hi] Tryz.func115 Tryz.ntmps115 rfl rfl ?_
 repeat' (first | refine gs_ ?_|((conv=>whnf); first | refine fin_s ?_))
 exact congrArg (Value.int .i64) (by unfold btw; repeat' split <;> omega)
theorem quotaT (c:CfgV) (w:World):Calls Tryz.prog 266 #[(aCfg c)] w fun e w'=>e=.returned (.int .i64 (btw c.qo 1 8))∧Since w w':=by
 refine ent tab_ok [.a (sCfg c)] Tryz.func266 Tryz.ntmps266 rfl rfl ?_
 repeat' (first | refine gs_ ?_|((conv=>whnf); first | intro b | refine callS (f:=115) (.i .i64 (btw _ _ _)) (btwT _ _ _ (by decide)) ?_|refine fin_s ?_))
 all_goals rfl
attribute [local irreducible] belB btw ms
set_option maxHeartbeats 4000000 in
theorem mayT (c:CfgV) (a:AskV) (w:World):Calls Tryz.prog 85 #[(aCfg c),.agg #[.int .i64 a.se,.int .i64 a.fl,.int .i64 a.fm,.int .i64 a.to,.int .i64 a.ma]] w fun e w'=>e=.returned (.bool (mayB c a))∧Since w w':=by
 refine ent tab_ok [.a (sCfg c),.a [.i .i64 a.se,.i .i64 a.fl,.i .i64 a.fm,.i .i64 a.to,.i .i64 a.ma]] Tryz.func85 Tryz.ntmps85 rfl rfl ?_
 repeat' (first | refine gs_ ?_|((conv=>whnf); first | intro b | refine b3_ (fun h=>?_) (fun h=>?_)|refine br_ne (fun h=>?_) (fun h=>?_)|refine callS (f:=113) (.i .i64 (fl _)) (floorsT _) ?_|refine callS (f:=115) (.i .i64 (btw _ _ _)) (btwT _ _ _ (by decide)) ?_|refine callS (f:=114) (.b (belB _ _)) (belT _ _) ?_|refine callS (f:=116) (.i .i64 (ms _)) (massT _) ?_|refine fin_s ?_))
 all_goals (unfold mayB; simp [den, *])
def cn (ls:List LeaseV) (f:Int):Nat:=ls.countP fun l=>l.fl == f
theorem cn_take {ls:List LeaseV} {f:Int} {k:Nat} {x:LeaseV} (hx:ls[k]?=some x):cn (ls.take (k+1)) f=cn (ls.take k) f+if x.fl=f then 1 else 0:=by
 obtain ⟨hk,rfl⟩:=List.getElem?_eq_some_iff.1 hx
 unfold cn
 rw [List.take_succ_eq_append_getElem hk,List.countP_append]
 simp [List.countP_cons]
theorem cn_le (ls:List LeaseV) (f:Int):cn ls f≤ls.length:=List.countP_le_length
theorem countT {lo n c:Nat} {A:Option Addr} {ls:List LeaseV} (f:Int) (w:World) (ho:leaE.At lo A n c ls w) (hn:ls.length=n) (hl:n≤1000000) :
  Calls Tryz.prog 265 #[.slice A n c,.int .i64 f] w fun e w'=>e=.returned (.int .i64 (cn ls f))∧Since w w':=by
 obtain ⟨g,hA⟩:=Ek.addr ho
 refine entH tab_ok (Hold.addObj (Hold.nil _ tab [] _ w) (rwO leaE lo A n c ls false) ho (by intro k; cases k) (by intro r hr; cases hr) (by intro A hA; cases hA)) [.v (.slice A n c),.i .i64 f] Tryz.func265 Tryz.ntmps265 rfl rfl ?_
 repeat' (first | refine gs_ ?_|((conv=>whnf); first | intro b | refine b3_ (fun h=>?_) (fun h=>?_)|refine fin_s ?_))
 conv=>whnf
 refine lp ⟨tab_ok⟩ (ι:={k:Nat // k≤n}) (fun x=>match x with | ⟨k,_⟩=>⟨[(0,.v (.slice A n c)),(1,.i .i64 f),(5,.i .i64 (cn (ls.take k) f:Nat)),(8,.v (.slice A n c)),(9,.i .i64 n),(10,.i .i64 (k:Int))],[],[rwO leaE lo A n c ls false]⟩) (fun x=>n - x.1) ⟨0,Nat.zero_le _⟩ (wk ?_) ?_
 ·repeat' (first | exact trivial | rfl | ((conv=>whnf); refine And.intro ?_ ?_))
 rintro ⟨k,hk⟩
 have hck:cn (ls.take k) f≤n:=by have:=cn_le (ls.take k) f; rw [List.length_take] at this; omega
 by_cases hlt:k < n
 ·obtain ⟨x,hx⟩:∃ x,ls[k]?=some x:=⟨_,List.getElem?_eq_getElem (by omega)⟩
  obtain rfl:=hA (by omega)
  have hc:=cn_take (f:=f) hx
  by_cases hpx:x.fl=f
  ·rw [if_pos hpx] at hc
   repeat' (first | refine gs_ ?_|((conv=>whnf); first | intro b2 | refine bto ?_|refine bfo ?_|refine wr_i ?_|refine br_t (beq_iff_eq.2 hpx) ?_|refine iv_ ?_|refine opix (g:=g) (off:=0+k*10) [.i .i64 x.se,.i .i64 x.fl,.i .i64 x.fm,.i .i64 x.to,.i .i64 x.ma,.i .i64 x.ca,.i .i64 x.ph,.i .i64 x.un,.i .i64 x.re,.i .i64 x.gr] (fun w hH=>Ek.rng (hH.obj (rwO leaE lo (some ⟨g,0,none⟩) n c ls false) (List.mem_singleton.2 rfl)) hx) ⟨tab_ok⟩ (by rfl) (by rfl) (by show Addr.add ⟨g,0,none⟩ (k*10)=_; rw [Go.WideShapes.add_plain]) ?_|refine back ⟨k+1,by omega⟩ (wk ?_) ?_|refine fin_s ?_))
   all_goals first | (show n - (k+1) < n - k; omega)|skip
   all_goals (repeat' (first | exact trivial | rfl | ((conv=>whnf); refine And.intro ?_ ?_)))
   all_goals (simp only [den]; rw [hc]; rfl)
  ·rw [if_neg hpx] at hc
   repeat' (first | refine gs_ ?_|((conv=>whnf); first | intro b2 | refine bto ?_|refine bfo ?_|refine wr_i ?_|refine br_f (beq_eq_false_iff_ne.2 hpx) ?_|refine iv_ ?_|refine opix (g:=g) (off:=0+k*10) [.i .i64 x.se,.i .i64 x.fl,.i .i64 x.fm,.i .i64 x.to,.i .i64 x.ma,.i .i64 x.ca,.i .i64 x.ph,.i .i64 x.un,.i .i64 x.re,.i .i64 x.gr] (fun w hH=>Ek.rng (hH.obj (rwO leaE lo (some ⟨g,0,none⟩) n c ls false) (List.mem_singleton.2 rfl)) hx) ⟨tab_ok⟩ (by rfl) (by rfl) (by show Addr.add ⟨g,0,none⟩ (k*10)=_; rw [Go.WideShapes.add_plain]) ?_|refine back ⟨k+1,by omega⟩ (wk ?_) ?_|refine fin_s ?_))
   all_goals first | (show n - (k+1) < n - k; omega)|skip
   all_goals (repeat' (first | exact trivial | rfl | ((conv=>whnf); refine And.intro ?_ ?_)))
   all_goals (simp only [den]; rw [hc]; rfl)
 ·repeat' (first | refine gs_ ?_|((conv=>whnf); first | intro b2 | refine bto ?_|refine bfo ?_|refine wr_i ?_|refine fin_s ?_))
  obtain rfl:k=n:=by omega
  rw [List.take_of_length_le (by omega)]; rfl
attribute [local irreducible] cn
def freeB (c:CfgV) (ls:List LeaseV) (f:Int):Bool:=decide ((cn ls f:Int) < btw c.qo 1 8)
theorem freeT {lo n cap:Nat} {A:Option Addr} {ls:List LeaseV} (c:CfgV) (f:Int) (w:World) (ho:leaE.At lo A n cap ls w) (hn:ls.length=n) (hl:n≤1000000) :
  Calls Tryz.prog 234 #[(aCfg c),.slice A n cap,.int .i64 f] w fun e w'=>e=.returned (.bool (freeB c ls f))∧Since w w':=by
 refine entH tab_ok (Hold.addObj (Hold.nil _ tab [] _ w) (rwO leaE lo A n cap ls false) ho (by intro k; cases k) (by intro r hr; cases hr) (by intro A hA; cases hA)) [.a (sCfg c),.v (.slice A n cap),.i .i64 f] Tryz.func234 Tryz.ntmps234 rfl rfl ?_
 repeat' (first | refine gs_ ?_|((conv=>whnf); first | intro b | refine b3_ (fun h=>?_) (fun h=>?_)|refine callS (f:=266) (.i .i64 (btw _ _ _)) (quotaT c) ?_|refine callH (f:=265) (.i .i64 (cn ls f:Nat)) (fun w hH=>countT f w (hH.obj (rwO leaE lo A n cap ls false) (List.mem_singleton.2 rfl)) hn hl) ?_|refine fin_s ?_))
 all_goals rfl
end Fl
namespace Le
open Go.RowKit Ba Mem En Go.Proofs.YtepfmfalebmcnaaGreatDoor.Ty Mo
open Qu (leaC leaC_len leaC_one leas_one btw)
open Fl (leaE mayB mayT freeB freeT)
set_option maxRecDepth 100000
attribute [local irreducible] Go.Calls
def zeroL:LeaseV:=⟨0,0,0,0,0,0,0,0,0,0⟩
def askOf (l:LeaseV):AskV:=⟨l.se,l.fl,l.fm,l.to,l.ma⟩
def tabC (c:CfgV) (v:Value):Array Value:=#[.int .i64 c.ca,.int .i64 c.fl,.int .i64 c.ft,.int .i64 c.se,.int .i64 c.dr,.int .i64 c.dw,.int .i64 c.ho,.int .i64 c.re,.int .i64 c.yi,.int .i64 c.qu,.int .i64 c.qo,.int .i64 c.lo,.int .i64 c.sl,.int .i64 c.rt,.int .i64 c.cp,.int .i64 c.tr,.int .i64 c.de,.int .i64 c.wi,v]
def tabS (c:CfgV) (v:SV):List SV:=[.i .i64 c.ca,.i .i64 c.fl,.i .i64 c.ft,.i .i64 c.se,.i .i64 c.dr,.i .i64 c.dw,.i .i64 c.ho,.i .i64 c.re,.i .i64 c.yi,.i .i64 c.qu,.i .i64 c.qo,.i .i64 c.lo,.i .i64 c.sl,.i .i64 c.rt,.i .i64 c.cp,.i .i64 c.tr,.i .i64 c.de,.i .i64 c.wi,v]
def TO (lo t:Nat) (c:CfgV) (ls:List LeaseV) (S:List Nat) (w:World):Prop :=
 lo≤t∧∃ A cap,S=t::blkOf A∧Blk w t 139 (tabC c (.slice A ls.length cap))∧leaE.At lo A ls.length cap ls w
section
variable {w w':World} {lo t b:Nat} {c:CfgV} {ls:List LeaseV} {S T:List Nat}
theorem TO.upd (k:Upd T w w') (h:TO lo t c ls S w) (hT:∀ g∈S,g∉T):TO lo t c ls S w':=by
 obtain ⟨h0,A,cap,rfl,B,O⟩:=h
 exact ⟨h0,A,cap,rfl,k.blk B (hT _ (by simp)),k.own O (fun g hg=>hT g (by simp [hg]))⟩
theorem TO.low (h:TO lo t c ls S w):∀ g∈S,lo≤g:=by
 obtain ⟨h0,A,cap,rfl,B,O⟩:=h
 intro g hg
 rcases List.mem_cons.1 hg with rfl | hg
 ·exact h0
 ·exact own_low O g hg
theorem TO.lt (h:TO lo t c ls S w):∀ g∈S,g < w.heap.size:=by
 obtain ⟨h0,A,cap,rfl,B,O⟩:=h
 intro g hg
 rcases List.mem_cons.1 hg with rfl | hg
 ·exact B.lt
 ·exact own_lt O g hg
theorem TO.base {lo':Nat} (h:TO lo t c ls S w) (hb:lo'≤lo):TO lo' t c ls S w:=by
 obtain ⟨h0,A,cap,rfl,B,O⟩:=h
 exact ⟨by omega,A,cap,rfl,B,own_base O hb⟩
end
def tO (lo t:Nat) (c:CfgV) (ls:List LeaseV) (S:List Nat) (rw:Bool):Asr:=⟨S,rw,TO lo t c ls S,fun k h hs=>hs.upd k h,fun h=>h.lt⟩
theorem hold_ta {lo t n:Nat} {c:CfgV} {ls:List LeaseV} {S:List Nat} {w:World} (hg:TO lo t c ls S w):∃ A cap,lo≤t∧S=t::blkOf A∧Hold ⟨Tryz.prog,tab,S,w,n,[]⟩ [⟨t,139,true,0,[],tabS c (.v (.slice A ls.length cap)),[],true⟩] [rwO leaE lo A ls.length cap ls true] w:=by
 obtain ⟨h0,A,cap,rfl,B,O⟩:=hg
 have hq:t∉blkOf A:=own_ne_ty O B (by decide)
 exact ⟨A,cap,h0,rfl,Hold.addObj (Hold.addRow (m:=[]) (Hold.nil _ tab _ n w) ⟨t,139,true,0,[],tabS c (.v (.slice A ls.length cap)),[],true⟩ B (fun _=>.inl (by simp)) (by intro q hq; cases hq) (by intro A hA; cases hA)) (rwO leaE lo A ls.length cap ls true) O (fun _ g hg=>.inl (List.mem_cons_of_mem _ hg)) (by intro r hr _; simp only [List.nil_append,List.mem_singleton] at hr; subst hr; exact hq) (by intro A hA; cases hA)⟩
theorem hold_tr {t lo cap n:Nat} {c:CfgV} {ls:List LeaseV} {A:Option Addr} {w:World} (hq:Blk w t 139 (tabC c (.slice A ls.length cap))) (ho:leaE.At lo A ls.length cap ls w):Hold ⟨Tryz.prog,tab,[],w,n,[]⟩ [⟨t,139,true,0,[],tabS c (.v (.slice A ls.length cap)),[],false⟩] [rwO leaE lo A ls.length cap ls false] w :=
 Hold.addObj (hold_q (S:=[]) (tabS c (.v (.slice A ls.length cap))) hq) (rwO leaE lo A ls.length cap ls false) ho (by intro k; cases k) (by intro r hr _; rw [List.mem_singleton] at hr; subst hr; exact own_ne_ty ho hq (by decide)) (by intro A hA; cases hA)
theorem fin_ta {lo t n n1 c1:Nat} {c:CfgV} {A1:Option Addr} {S:List Nat} {w:World} {V:Value} {v:SV} {fr:List (Nat×SV)} {cs:List SV} {ls:List LeaseV} {rest:List Row} {obr:List Asr} {st:St}
  (hst:st=⟨fr,⟨t,139,true,0,[],cs,[],true⟩::rest,rwO leaE lo A1 n1 c1 ls true::obr⟩) (hv:∀ m,den m v=V) (h0:lo≤t) (h1:n1=ls.length) (hcs:∀ m,(denL m cs).toArray=tabC c (.slice A1 n1 c1)) :
  Fin ⟨Tryz.prog,tab,S,w,n,[]⟩ (fun e w'=>e=.returned V∧∃ S',TO lo t c ls S' w'∧Upd S w w'∧∀ g∈S',g∈S∨w.heap.size≤g) v st:=by
 subst hst h1
 refine fin fun w' hH=>?_
 have oc:rwO leaE lo A1 ls.length c1 ls true∈rwO leaE lo A1 ls.length c1 ls true::obr:=List.mem_cons_self ..
 refine ⟨by rw [hv],_,⟨h0,A1,c1,rfl, ?_,hH.obj _ oc⟩,hH.upd,fun g hg=>?_⟩
 ·have:=hH.row 0 _ rfl rfl
  rw [rowA_nil rfl rfl] at this
  rw [← hcs]; exact this
 ·rcases List.mem_cons.1 hg with rfl | hg
  ·exact (hH.wf 0 _ rfl rfl).2.2 rfl
  ·exact hH.own _ oc rfl g hg
theorem newT (c:CfgV) (w:World):Calls Tryz.prog 70 #[(aCfg c)] w fun e w'=>∃ t,e=.returned (.pointer (some ⟨t,0,none⟩))∧TO w.heap.size t c [] [t] w'∧Since w w':=by
 refine ent tab_ok [.a (sCfg c)] Tryz.func70 Tryz.ntmps70 rfl rfl ?_
 repeat' (first | refine gs_ ?_|((conv=>whnf); first | intro b | refine b3_ (fun h=>?_) (fun h=>?_)|refine fin_s ?_))
 all_goals (conv=>whnf)
 refine fin fun w' hH=>⟨_,rfl,⟨?_,none,0,rfl, ?_,World.ownsRow_nil _ _ _ _⟩,hH.upd.since⟩
 ·rcases (hH.wf 1 _ rfl rfl).2.2 rfl with h | h
  ·cases h
  ·exact h
 ·have q:=hH.row 1 _ rfl rfl
  rw [rowA_nil rfl rfl] at q
  exact q
def goodB (c:CfgV) (l:LeaseV):Bool:=mayB c (askOf l) && decide (0≤l.ca) && decide (l.ca < 8) && decide (1≤l.ph) && decide (l.ph≤4)
def isP (x l:LeaseV):Bool:=l.se == x.se || l.ca == x.ca
def isS (s:Int) (l:LeaseV):Bool:=l.se == s
def isT (x l:LeaseV):Bool:=l.se == x.se && l.ca == x.ca && l.fl == x.fl
def atP (ls:List LeaseV) (p:LeaseV→Bool):Option Nat:=ls.findIdx? p
theorem atP_some {ls:List LeaseV} {p:LeaseV→Bool} {k:Nat} (h:atP ls p=some k):k < ls.length∧(∀ hk:k < ls.length,p ls[k]=true)∧∀ j,j < k→∀ hj:j < ls.length,p ls[j]=false:=by
 obtain ⟨hk,h1,h2⟩:=List.findIdx?_eq_some_iff_getElem.1 h
 exact ⟨hk,fun _=>h1,fun j hj _=>by have:=h2 j hj; simpa using this⟩
def oI (y:Option Nat):Int:=match y with | some k=>(k:Int)|none => -1
attribute [local irreducible] mayB
theorem goodT {t:Nat} {c:CfgV} {v:Value} (l:LeaseV) (w:World) (hq:Blk w t 139 (tabC c v)):Calls Tryz.prog 225 #[.pointer (some ⟨t,0,none⟩),.agg #[.int .i64 l.se,.int .i64 l.fl,.int .i64 l.fm,.int .i64 l.to,.int .i64 l.ma,.int .i64 l.ca,.int .i64 l.ph,.int .i64 l.un,.int .i64 l.re,.int .i64 l.gr]] w fun e w'=>e=.returned (.bool (goodB c l))∧Since w w':=by
 refine entH tab_ok (hold_q (S:=[]) (tabS c (.v v)) hq) [.p 0 0,.a [.i .i64 l.se,.i .i64 l.fl,.i .i64 l.fm,.i .i64 l.to,.i .i64 l.ma,.i .i64 l.ca,.i .i64 l.ph,.i .i64 l.un,.i .i64 l.re,.i .i64 l.gr]] Tryz.func225 Tryz.ntmps225 rfl rfl ?_
 repeat' (first | refine gs_ ?_|((conv=>whnf); first | intro b | refine b3_ (fun h=>?_) (fun h=>?_)|refine callS (f:=85) (.b (mayB c (askOf l))) (mayT c (askOf l)) ?_|refine fin_s ?_))
 all_goals (unfold goodB; simp [den, *])
theorem put1T (cp:Nat) (x l:LeaseV) (w:World) (hb:Blk w cp 71 (leaC x).toArray):Calls Tryz.prog 239 #[.agg #[.int .i64 l.se,.int .i64 l.fl,.int .i64 l.fm,.int .i64 l.to,.int .i64 l.ma,.int .i64 l.ca,.int .i64 l.ph,.int .i64 l.un,.int .i64 l.re,.int .i64 l.gr],.pointer (some ⟨cp,0,none⟩)] w fun e w'=>e=.returned (.bool (isP x l))∧Since w w':=by
 refine entH tab_ok (hold_q (S:=[]) [.i .i64 x.se,.i .i64 x.fl,.i .i64 x.fm,.i .i64 x.to,.i .i64 x.ma,.i .i64 x.ca,.i .i64 x.ph,.i .i64 x.un,.i .i64 x.re,.i .i64 x.gr] hb) [.a [.i .i64 l.se,.i .i64 l.fl,.i .i64 l.fm,.i .i64 l.to,.i .i64 l.ma,.i .i64 l.ca,.i .i64 l.ph,.i .i64 l.un,.i .i64 l.re,.i .i64 l.gr],.p 0 0] Tryz.func239 Tryz.ntmps239 rfl rfl ?_
 repeat' (first | refine gs_ ?_|((conv=>whnf); first | intro b | refine wr_i ?_|refine b3_ (fun h=>?_) (fun h=>?_)|refine fin_s ?_))
 all_goals (unfold isP; simp [den, *])
theorem set1T (cp:Nat) (x l:LeaseV) (w:World) (hb:Blk w cp 71 (leaC x).toArray):Calls Tryz.prog 226 #[.agg #[.int .i64 l.se,.int .i64 l.fl,.int .i64 l.fm,.int .i64 l.to,.int .i64 l.ma,.int .i64 l.ca,.int .i64 l.ph,.int .i64 l.un,.int .i64 l.re,.int .i64 l.gr],.pointer (some ⟨cp,0,none⟩)] w fun e w'=>e=.returned (.bool (isT x l))∧Since w w':=by
 refine entH tab_ok (hold_q (S:=[]) [.i .i64 x.se,.i .i64 x.fl,.i .i64 x.fm,.i .i64 x.to,.i .i64 x.ma,.i .i64 x.ca,.i .i64 x.ph,.i .i64 x.un,.i .i64 x.re,.i .i64 x.gr] hb) [.a [.i .i64 l.se,.i .i64 l.fl,.i .i64 l.fm,.i .i64 l.to,.i .i64 l.ma,.i .i64 l.ca,.i .i64 l.ph,.i .i64 l.un,.i .i64 l.re,.i .i64 l.gr],.p 0 0] Tryz.func226 Tryz.ntmps226 rfl rfl ?_
 repeat' (first | refine gs_ ?_|((conv=>whnf); first | intro b | refine wr_i ?_|refine b3_ (fun h=>?_) (fun h=>?_)|refine fin_s ?_))
 all_goals (unfold isT; simp [den, *])
theorem of1T (cp:Nat) (s:Int) (l:LeaseV) (w:World) (hb:Blk w cp 3 #[.int .i64 s]):Calls Tryz.prog 167 #[.agg #[.int .i64 l.se,.int .i64 l.fl,.int .i64 l.fm,.int .i64 l.to,.int .i64 l.ma,.int .i64 l.ca,.int .i64 l.ph,.int .i64 l.un,.int .i64 l.re,.int .i64 l.gr],.pointer (some ⟨cp,0,none⟩)] w fun e w'=>e=.returned (.bool (isS s l))∧Since w w':=by
 refine entH tab_ok (hold_q (S:=[]) [.i .i64 s] hb) [.a [.i .i64 l.se,.i .i64 l.fl,.i .i64 l.fm,.i .i64 l.to,.i .i64 l.ma,.i .i64 l.ca,.i .i64 l.ph,.i .i64 l.un,.i .i64 l.re,.i .i64 l.gr],.p 0 0] Tryz.func167 Tryz.ntmps167 rfl rfl ?_
 repeat' (first | refine gs_ ?_|((conv=>whnf); first | intro b | refine wr_i ?_|refine b3_ (fun h=>?_) (fun h=>?_)|refine fin_s ?_))
 all_goals rfl
theorem indexT {lo n c:Nat} {A:Option Addr} {ls:List LeaseV} (F:FuncId) (cp:Value) (p:LeaseV→Bool) (w:World) (ho:leaE.At lo A n c ls w) (hn:ls.length=n) (hl:n≤1000000) (hp:∀ (l:LeaseV) (w1:World),Since w w1→Calls Tryz.prog F #[.agg #[.int .i64 l.se,.int .i64 l.fl,.int .i64 l.fm,.int .i64 l.to,.int .i64 l.ma,.int .i64 l.ca,.int .i64 l.ph,.int .i64 l.un,.int .i64 l.re,.int .i64 l.gr],cp] w1 fun e w2=>e=.returned (.bool (p l))∧Since w1 w2) (hcf:∀ (args:Array Value) (w1:World),(callFunc F args).run Tryz.prog w1=.ok (.enter F args) w1) :
  Calls Tryz.prog 213 #[.slice A n c,.func (.func F) #[] #[cp]] w fun e w'=>e=.returned (.int .i64 (oI (atP ls p)))∧Since w w':=by
 obtain ⟨g,hA⟩:=Ek.addr ho
 refine entH tab_ok (Hold.addObj (Hold.nil _ tab [] _ w) (rwO leaE lo A n c ls false) ho (by intro k; cases k) (by intro r hr; cases hr) (by intro A hA; cases hA)) [.v (.slice A n c),.f F [.v cp]] Tryz.func213 Tryz.ntmps213 rfl rfl ?_
 repeat' (first | refine gs_ ?_|((conv=>whnf); first | intro b | refine b3_ (fun h=>?_) (fun h=>?_)|refine fin_s ?_))
 conv=>whnf
 refine lp ⟨tab_ok⟩ (ι:={k:Nat // k≤n∧∀ j,j < k→∀ hj:j < ls.length,p ls[j]=false}) (fun x=>match x with | ⟨k,_⟩=>⟨[(0,.v (.slice A n c)),(1,.f F [.v cp]),(7,.i .i64 n),(8,.i .i64 (k:Int))],[],[rwO leaE lo A n c ls false]⟩) (fun x=>n - x.1) ⟨0,Nat.zero_le _,fun j hj=>by omega⟩ (wk ?_) ?_
 ·repeat' (first | exact trivial | rfl | ((conv=>whnf); refine And.intro ?_ ?_))
 rintro ⟨k,hk,hno⟩
 by_cases hlt:k < n
 ·obtain ⟨x,hx⟩:∃ x,ls[k]?=some x:=⟨_,List.getElem?_eq_getElem (by omega)⟩
  obtain ⟨hkl,hxe⟩:=List.getElem?_eq_some_iff.1 hx
  obtain rfl:=hA (by omega)
  cases hpx:p x with
  | true =>
   repeat' (first | refine gs_ ?_|((conv=>whnf); first | intro b2 | refine bto ?_|refine bfo ?_|refine wr_i ?_|refine iv_ ?_|refine opix (g:=g) (off:=0+k*10) [.i .i64 x.se,.i .i64 x.fl,.i .i64 x.fm,.i .i64 x.to,.i .i64 x.ma,.i .i64 x.ca,.i .i64 x.ph,.i .i64 x.un,.i .i64 x.re,.i .i64 x.gr] (fun w hH=>Ek.rng (hH.obj (rwO leaE lo (some ⟨g,0,none⟩) n c ls false) (List.mem_singleton.2 rfl)) hx) ⟨tab_ok⟩ (by rfl) (by rfl) (by show Addr.add ⟨g,0,none⟩ (k*10)=_; rw [Go.WideShapes.add_plain]) ?_|refine callHF hcf (.b (p x)) (fun w hH=>hp x w (hH.out rfl)) ?_|refine b3_ (fun h=>?_) (fun h=>?_)|refine fin_s ?_))
   have e:atP ls p=some k:=List.findIdx?_eq_some_iff_getElem.2 ⟨hkl,by rw [hxe]; exact hpx,fun j hj=>by simpa using hno j hj (by omega)⟩
   rw [e]; rfl
  | false =>
   repeat' (first | refine gs_ ?_|((conv=>whnf); first | intro b2 | refine bto ?_|refine bfo ?_|refine wr_i ?_|refine iv_ ?_|refine opix (g:=g) (off:=0+k*10) [.i .i64 x.se,.i .i64 x.fl,.i .i64 x.fm,.i .i64 x.to,.i .i64 x.ma,.i .i64 x.ca,.i .i64 x.ph,.i .i64 x.un,.i .i64 x.re,.i .i64 x.gr] (fun w hH=>Ek.rng (hH.obj (rwO leaE lo (some ⟨g,0,none⟩) n c ls false) (List.mem_singleton.2 rfl)) hx) ⟨tab_ok⟩ (by rfl) (by rfl) (by show Addr.add ⟨g,0,none⟩ (k*10)=_; rw [Go.WideShapes.add_plain]) ?_|refine callHF hcf (.b (p x)) (fun w hH=>hp x w (hH.out rfl)) ?_|refine b3_ (fun h=>?_) (fun h=>?_)|refine back ⟨k+1,by omega,fun j hj hjl=>(Nat.lt_succ_iff_lt_or_eq.1 hj).elim (fun h=>hno j h hjl) (fun h=>by subst h; rw [hxe]; exact hpx)⟩ (wk ?_) ?_|refine fin_s ?_))
   all_goals first | (show n - (k+1) < n - k; omega)|skip
   all_goals (repeat' (first | exact trivial | rfl | ((conv=>whnf); refine And.intro ?_ ?_)))
 ·repeat' (first | refine gs_ ?_|((conv=>whnf); first | intro b2 | refine bto ?_|refine bfo ?_|refine wr_i ?_|refine fin_s ?_))
  obtain rfl:k=n:=by omega
  have e:atP ls p=none:=List.findIdx?_eq_none_iff.2 fun x hx=>by
   obtain ⟨j,hj,rfl⟩:=List.mem_iff_getElem.1 hx
   exact hno j (by omega) hj
  rw [e]; rfl
attribute [local irreducible] atP oI goodB freeB
section
variable {t lo cap:Nat} {c:CfgV} {ls:List LeaseV} {A:Option Addr} (w:World) (hq:Blk w t 139 (tabC c (.slice A ls.length cap))) (ho:leaE.At lo A ls.length cap ls w) (hl:ls.length≤10000)
include hq ho hl
theorem findT (F:FuncId) (cp:Value) (p:LeaseV→Bool) (hp:∀ (l:LeaseV) (w1:World),Since w w1→Calls Tryz.prog F #[.agg #[.int .i64 l.se,.int .i64 l.fl,.int .i64 l.fm,.int .i64 l.to,.int .i64 l.ma,.int .i64 l.ca,.int .i64 l.ph,.int .i64 l.un,.int .i64 l.re,.int .i64 l.gr],cp] w1 fun e w2=>e=.returned (.bool (p l))∧Since w1 w2) (hcf:∀ (args:Array Value) (w1:World),(callFunc F args).run Tryz.prog w1=.ok (.enter F args) w1) :
  Calls Tryz.prog 166 #[.pointer (some ⟨t,0,none⟩),.func (.func F) #[] #[cp]] w fun e w'=>e=.returned (.int .i64 (oI (atP ls p)))∧Since w w':=by
 refine entH tab_ok (hold_tr hq ho) [.p 0 0,.f F [.v cp]] Tryz.func166 Tryz.ntmps166 rfl rfl ?_
 repeat' (first | refine gs_ ?_|((conv=>whnf); first | intro b | refine callH (f:=213) (.i .i64 (oI (atP ls p))) (fun w hH=>indexT F cp p w (hH.obj (rwO leaE lo A ls.length cap ls false) (List.mem_singleton.2 rfl)) rfl (by omega) (fun l w1 hs=>hp l w1 ((hH.out rfl).trans hs)) hcf) ?_|refine fin_s ?_))
 all_goals rfl
theorem ofiT (s:Int):Calls Tryz.prog 118 #[.pointer (some ⟨t,0,none⟩),.int .i64 s] w fun e w'=>e=.returned (.int .i64 (oI (atP ls (isS s))))∧Since w w':=by
 refine entH tab_ok (hold_tr hq ho) [.p 0 0,.i .i64 s] Tryz.func118 Tryz.ntmps118 rfl rfl ?_
 repeat' (first | refine gs_ ?_|((conv=>whnf); first | intro b | refine callH (f:=166) (.i .i64 (oI (atP ls (isS s)))) (fun w hH=>findT w (hH.row 0 _ rfl rfl) (hH.obj (rwO leaE lo A ls.length cap ls false) (List.mem_singleton.2 rfl)) hl 167 _ (isS s) (fun l w1 hs=>of1T _ s l w1 (keep_blk hs (hH.row 1 _ rfl rfl))) (entC (by kernel_rfl))) ?_|refine fin_s ?_))
 all_goals rfl
theorem atT0 (i:Int) (hi:i < 0):Calls Tryz.prog 117 #[.pointer (some ⟨t,0,none⟩),.int .i64 i] w fun e w'=>e=.returned (.tuple #[.agg #[.int .i64 zeroL.se,.int .i64 zeroL.fl,.int .i64 zeroL.fm,.int .i64 zeroL.to,.int .i64 zeroL.ma,.int .i64 zeroL.ca,.int .i64 zeroL.ph,.int .i64 zeroL.un,.int .i64 zeroL.re,.int .i64 zeroL.gr],.bool false])∧Since w w':=by
 refine entH tab_ok (hold_tr hq ho) [.p 0 0,.i .i64 i] Tryz.func117 Tryz.ntmps117 rfl rfl ?_
 repeat' (first | refine gs_ ?_|((conv=>whnf); first | intro b | refine bto ?_|refine bfo ?_|refine fin_s ?_))
 all_goals rfl
theorem atT1 (k:Nat) (x:LeaseV) (hx:ls[k]?=some x):Calls Tryz.prog 117 #[.pointer (some ⟨t,0,none⟩),.int .i64 (k:Int)] w fun e w'=>e=.returned (.tuple #[.agg #[.int .i64 x.se,.int .i64 x.fl,.int .i64 x.fm,.int .i64 x.to,.int .i64 x.ma,.int .i64 x.ca,.int .i64 x.ph,.int .i64 x.un,.int .i64 x.re,.int .i64 x.gr],.bool true])∧Since w w':=by
 obtain ⟨hk,_⟩:=List.getElem?_eq_some_iff.1 hx
 obtain ⟨g,rfl⟩:=own_addr ho (by omega)
 refine entH tab_ok (hold_tr hq ho) [.p 0 0,.i .i64 (k:Int)] Tryz.func117 Tryz.ntmps117 rfl rfl ?_
 repeat' (first | refine gs_ ?_|((conv=>whnf); first | intro b | refine bto ?_|refine bfo ?_|refine iv_ ?_|refine opix (g:=g) (off:=0+k*10) [.i .i64 x.se,.i .i64 x.fl,.i .i64 x.fm,.i .i64 x.to,.i .i64 x.ma,.i .i64 x.ca,.i .i64 x.ph,.i .i64 x.un,.i .i64 x.re,.i .i64 x.gr] (fun w hH=>Ek.rng (hH.obj (rwO leaE lo (some ⟨g,0,none⟩) ls.length cap ls false) (List.mem_singleton.2 rfl)) hx) ⟨tab_ok⟩ (by rfl) (by rfl) (by show Addr.add ⟨g,0,none⟩ (k*10)=_; rw [Go.WideShapes.add_plain]) ?_|refine fin_s ?_))
 all_goals rfl
end
def atV (ls:List LeaseV) (y:Option Nat):LeaseV:=match y with | some k=>ls.getD k zeroL | none=>zeroL
def ofL (ls:List LeaseV) (s:Int):LeaseV:=atV ls (atP ls (isS s))
def hasL (ls:List LeaseV) (s:Int):Bool:=(atP ls (isS s)).isSome
theorem oI_some (k:Nat):oI (some k)=(k:Int):=by unfold oI; rfl
theorem oI_none:oI none = -1:=by unfold oI; rfl
theorem atY {t lo cap:Nat} {c:CfgV} {ls:List LeaseV} {A:Option Addr} (w:World) (hq:Blk w t 139 (tabC c (.slice A ls.length cap))) (ho:leaE.At lo A ls.length cap ls w) (hl:ls.length≤10000) (p:LeaseV→Bool) :
  Calls Tryz.prog 117 #[.pointer (some ⟨t,0,none⟩),.int .i64 (oI (atP ls p))] w fun e w'=>e=.returned (.tuple #[.agg #[.int .i64 (atV ls (atP ls p)).se,.int .i64 (atV ls (atP ls p)).fl,.int .i64 (atV ls (atP ls p)).fm,.int .i64 (atV ls (atP ls p)).to,.int .i64 (atV ls (atP ls p)).ma,.int .i64 (atV ls (atP ls p)).ca,.int .i64 (atV ls (atP ls p)).ph,.int .i64 (atV ls (atP ls p)).un,.int .i64 (atV ls (atP ls p)).re,.int .i64 (atV ls (atP ls p)).gr],.bool (atP ls p).isSome])∧Since w w':=by
 cases h:atP ls p with
 | none=>rw [oI_none]; exact atT0 w hq ho hl (-1) (by decide)
 | some k =>
  obtain ⟨hk,_,_⟩:=atP_some h
  have hx:ls[k]?=some ls[k]:=List.getElem?_eq_getElem hk
  have e:atV ls (some k)=ls[k]:=by simp [atV,List.getD,hx]
  rw [oI_some,e]
  exact atT1 w hq ho hl k _ hx
attribute [local irreducible] atV
theorem ofT {t lo cap:Nat} {c:CfgV} {ls:List LeaseV} {A:Option Addr} (w:World) (hq:Blk w t 139 (tabC c (.slice A ls.length cap))) (ho:leaE.At lo A ls.length cap ls w) (hl:ls.length≤10000) (s:Int) :
  Calls Tryz.prog 86 #[.pointer (some ⟨t,0,none⟩),.int .i64 s] w fun e w'=>e=.returned (.tuple #[.agg #[.int .i64 (ofL ls s).se,.int .i64 (ofL ls s).fl,.int .i64 (ofL ls s).fm,.int .i64 (ofL ls s).to,.int .i64 (ofL ls s).ma,.int .i64 (ofL ls s).ca,.int .i64 (ofL ls s).ph,.int .i64 (ofL ls s).un,.int .i64 (ofL ls s).re,.int .i64 (ofL ls s).gr],.bool (hasL ls s)])∧Since w w':=by
 refine entH tab_ok (hold_tr hq ho) [.p 0 0,.i .i64 s] Tryz.func86 Tryz.ntmps86 rfl rfl ?_
 repeat' (first | refine gs_ ?_|((conv=>whnf); first | intro b | refine callH (f:=118) (.i .i64 (oI (atP ls (isS s)))) (fun w hH=>ofiT w (hH.row 0 _ rfl rfl) (hH.obj (rwO leaE lo A ls.length cap ls false) (List.mem_singleton.2 rfl)) hl s) ?_|refine callH (f:=117) (.t [.a [.i .i64 (ofL ls s).se,.i .i64 (ofL ls s).fl,.i .i64 (ofL ls s).fm,.i .i64 (ofL ls s).to,.i .i64 (ofL ls s).ma,.i .i64 (ofL ls s).ca,.i .i64 (ofL ls s).ph,.i .i64 (ofL ls s).un,.i .i64 (ofL ls s).re,.i .i64 (ofL ls s).gr],.b (hasL ls s)]) (fun w hH=>atY w (hH.row 0 _ rfl rfl) (hH.obj (rwO leaE lo A ls.length cap ls false) (List.mem_singleton.2 rfl)) hl (isS s)) ?_|refine fin_s ?_))
 all_goals rfl
theorem listT {t lo cap:Nat} {c:CfgV} {ls:List LeaseV} {A:Option Addr} (w:World) (hq:Blk w t 139 (tabC c (.slice A ls.length cap))) (ho:leaE.At lo A ls.length cap ls w) (hl:ls.length≤10000) :
  Calls Tryz.prog 54 #[.pointer (some ⟨t,0,none⟩)] w fun e w'=>∃ A' c',e=.returned (.slice A' ls.length c')∧leaE.At w.heap.size A' ls.length c' ls w'∧Since w w':=by
 refine entH tab_ok (hold_tr hq ho) [.p 0 0] Tryz.func54 Tryz.ntmps54 rfl rfl ?_
 repeat' (first | refine gs_ ?_|((conv=>whnf); first | intro b | refine callN (f:=79) (ι:={x:Nat×Option Addr×Nat // w.heap.size≤x.1}) (fun x=>.v (.slice x.1.2.1 ls.length x.1.2.2)) (fun x=>rwO leaE x.1.1 x.1.2.1 ls.length x.1.2.2 ls true) (fun w1 hH=>(Qu.CL.cloneT lo A cap ls w1 (hH.obj (rwO leaE lo A ls.length cap ls false) (List.mem_singleton.2 rfl)) (by omega)).mono (by rintro e w' ⟨A',c',rfl,hO,hs⟩; exact ⟨⟨(w1.heap.size,A',c'),hH.upd.size⟩,rfl,hO,hs,own_low hO⟩)) (fun x=>?_)|refine fin fun w' hH=>⟨_,_,rfl,own_base (hH.obj (rwO leaE _ _ _ _ _ true) (List.mem_cons_of_mem _ (List.mem_cons_self ..))) x.2,hH.upd.since⟩|refine fin_s ?_))
def putE (c:CfgV) (ls:List LeaseV) (l:LeaseV):Int:=if goodB c l=true then (if (atP ls (isP l)).isSome then 7 else if freeB c ls l.fl=true then 0 else 5) else 1
def putL (c:CfgV) (ls:List LeaseV) (l:LeaseV):List LeaseV:=if putE c ls l=0 then ls++[l] else ls
def setE (c:CfgV) (ls:List LeaseV) (x:LeaseV):Int:=if goodB c x=true then (if (atP ls (isT x)).isSome then 0 else 6) else 1
def setL (c:CfgV) (ls:List LeaseV) (x:LeaseV):List LeaseV:=if goodB c x=true then (match atP ls (isT x) with | some k=>ls.set k x | none=>ls) else ls
def endL (ls:List LeaseV) (s:Int):List LeaseV:=match atP ls (isS s) with | some k=>ls.eraseIdx k | none=>ls
theorem oI_neg {y:Option Nat} (h:y.isSome=false):oI y = -1:=by cases y with | none=>exact oI_none | some k=>cases h
theorem oI_pos {y:Option Nat} (h:y.isSome=true):0≤oI y:=by cases y with | none=>cases h | some k=>rw [oI_some]; omega
theorem lea_cap {lo g n c:Nat} {ls:List LeaseV} {w:World} (h:leaE.At lo (some ⟨g,0,none⟩) n c ls w):n≤c:=by
 rcases h.2 with ⟨hv,_⟩ | ⟨_,_,_,hv,_,_,hc,_⟩
 ·simp at hv
 ·simp at hv; omega
theorem putT {lo t:Nat} {c:CfgV} {ls:List LeaseV} {S:List Nat} {w:World} (hg:TO lo t c ls S w) (hl:ls.length≤10000) (l:LeaseV) :
  Calls Tryz.prog 186 #[.pointer (some ⟨t,0,none⟩),.agg #[.int .i64 l.se,.int .i64 l.fl,.int .i64 l.fm,.int .i64 l.to,.int .i64 l.ma,.int .i64 l.ca,.int .i64 l.ph,.int .i64 l.un,.int .i64 l.re,.int .i64 l.gr]] w fun e w'=>e=.returned (.int .i64 (putE c ls l))∧∃ S',TO lo t c (putL c ls l) S' w'∧Upd S w w'∧∀ g∈S',g∈S∨w.heap.size≤g:=by
 obtain ⟨A,cap,h0,hS,hH⟩:=hold_ta (n:=_) hg
 unfold putL putE
 cases hgd:goodB c l with
 | false =>
  rw [if_neg (by decide),if_neg (by decide)]
  refine entH tab_ok (hH) [.p 0 0,.a [.i .i64 l.se,.i .i64 l.fl,.i .i64 l.fm,.i .i64 l.to,.i .i64 l.ma,.i .i64 l.ca,.i .i64 l.ph,.i .i64 l.un,.i .i64 l.re,.i .i64 l.gr]] Tryz.func186 Tryz.ntmps186 rfl rfl ?_
  repeat' (first | refine gs_ ?_|((conv=>whnf); first | intro b | refine callH (f:=225) (.b false) (fun w hH=>by have:=goodT l w (hH.row 0 _ rfl rfl); rw [hgd] at this; exact this) ?_|refine fin_ta (by rfl) (by intro m; rfl) h0 (by rfl) (by intro m; rfl)|refine fin_s ?_))
 | true =>
  cases hf:(atP ls (isP l)).isSome with
  | true =>
   have hp:=oI_pos hf
   refine entH tab_ok (hH) [.p 0 0,.a [.i .i64 l.se,.i .i64 l.fl,.i .i64 l.fm,.i .i64 l.to,.i .i64 l.ma,.i .i64 l.ca,.i .i64 l.ph,.i .i64 l.un,.i .i64 l.re,.i .i64 l.gr]] Tryz.func186 Tryz.ntmps186 rfl rfl ?_
   repeat' (first | refine gs_ ?_|((conv=>whnf); first | intro b | refine bto ?_|refine bfo ?_|refine callH (f:=225) (.b true) (fun w hH=>by have:=goodT l w (hH.row 0 _ rfl rfl); rw [hgd] at this; exact this) ?_|refine callH (f:=166) (.i .i64 (oI (atP ls (isP l)))) (fun w hH=>findT w (hH.row 0 _ rfl rfl) (hH.obj (rwO leaE lo A ls.length cap ls true) (List.mem_singleton.2 rfl)) hl 239 _ (isP l) (fun y w1 hs=>put1T _ l y w1 (keep_blk hs (hH.row 1 _ rfl rfl))) (entC (by kernel_rfl))) ?_|refine fin_ta (by rfl) (by intro m; rfl) h0 (by rfl) (by intro m; rfl)|refine fin_s ?_))
  | false =>
   have hp:=oI_neg hf
   cases hfr:freeB c ls l.fl with
   | false =>
    refine entH tab_ok (hH) [.p 0 0,.a [.i .i64 l.se,.i .i64 l.fl,.i .i64 l.fm,.i .i64 l.to,.i .i64 l.ma,.i .i64 l.ca,.i .i64 l.ph,.i .i64 l.un,.i .i64 l.re,.i .i64 l.gr]] Tryz.func186 Tryz.ntmps186 rfl rfl ?_
    repeat' (first | refine gs_ ?_|((conv=>whnf); first | intro b | refine bto ?_|refine bfo ?_|refine callH (f:=225) (.b true) (fun w hH=>by have:=goodT l w (hH.row 0 _ rfl rfl); rw [hgd] at this; exact this) ?_|refine callH (f:=166) (.i .i64 (oI (atP ls (isP l)))) (fun w hH=>findT w (hH.row 0 _ rfl rfl) (hH.obj (rwO leaE lo A ls.length cap ls true) (List.mem_singleton.2 rfl)) hl 239 _ (isP l) (fun y w1 hs=>put1T _ l y w1 (keep_blk hs (hH.row 1 _ rfl rfl))) (entC (by kernel_rfl))) ?_|refine callH (f:=234) (.b false) (fun w hH=>by have:=freeT c l.fl w (hH.obj (rwO leaE lo A ls.length cap ls true) (List.mem_singleton.2 rfl)) rfl (by omega); rw [hfr] at this; exact this) ?_|refine fin_ta (by rfl) (by intro m; rfl) h0 (by rfl) (by intro m; rfl)|refine fin_s ?_))
   | true =>
    refine entH tab_ok (hH) [.p 0 0,.a [.i .i64 l.se,.i .i64 l.fl,.i .i64 l.fm,.i .i64 l.to,.i .i64 l.ma,.i .i64 l.ca,.i .i64 l.ph,.i .i64 l.un,.i .i64 l.re,.i .i64 l.gr]] Tryz.func186 Tryz.ntmps186 rfl rfl ?_
    repeat' (first | refine gs_ ?_|((conv=>whnf); first | intro b | refine bto ?_|refine bfo ?_|refine callH (f:=225) (.b true) (fun w hH=>by have:=goodT l w (hH.row 0 _ rfl rfl); rw [hgd] at this; exact this) ?_|refine callH (f:=166) (.i .i64 (oI (atP ls (isP l)))) (fun w hH=>findT w (hH.row 0 _ rfl rfl) (hH.obj (rwO leaE lo A ls.length cap ls true) (List.mem_singleton.2 rfl)) hl 239 _ (isP l) (fun y w1 hs=>put1T _ l y w1 (keep_blk hs (hH.row 1 _ rfl rfl))) (entC (by kernel_rfl))) ?_|refine callH (f:=234) (.b true) (fun w hH=>by have:=freeT c l.fl w (hH.obj (rwO leaE lo A ls.length cap ls true) (List.mem_singleton.2 rfl)) rfl (by omega); rw [hfr] at this; exact this) ?_|refine opb1 (e:=71) ⟨tab_ok⟩ [.i .i64 l.se,.i .i64 l.fl,.i .i64 l.fm,.i .i64 l.to,.i .i64 l.ma,.i .i64 l.ca,.i .i64 l.ph,.i .i64 l.un,.i .i64 l.re,.i .i64 l.gr] (by rfl) (by rfl) ?_|refine opap 0 2 (e:=71) (lo:=lo) (size:=10) (bytes:=80) (z:=.agg #[.int .i64 0,.int .i64 0,.int .i64 0,.int .i64 0,.int .i64 0,.int .i64 0,.int .i64 0,.int .i64 0,.int .i64 0,.int .i64 0]) (A:=rwO leaE lo A ls.length cap ls true) (vals:=rowsOf leaC ls) (cells:=leaC l) (zs:=rowsOf leaC (ls++[l])) (n2:=(ls++[l]).length) (fun A' c'=>rwO leaE lo A' (ls++[l]).length c' (ls++[l]) true) (by rfl) (by rfl) (by rfl) (by rfl) rfl rfl (fun w h=>h) (fun A' c' w h=>h) (fun _ _=>rfl) (by rfl) (by rfl) (by rfl) (by rfl) Tryz.underlying46 (by kernel_rfl) rfl (by decide) (by decide) (leaC_one _) (by omega) (fun w hH=>by have h:t < w.heap.size:=(hH.row 0 _ rfl rfl).lt; omega) (by simp) (by rw [rowsOf_append,rowsOf_one]) (fun A' c'=>?_)|refine fin_ta (ls:=ls++[l]) (by rfl) (by intro m; rfl) h0 (by rfl) (by intro m; rfl)|refine fin_s ?_))
theorem setT {lo t:Nat} {c:CfgV} {ls:List LeaseV} {S:List Nat} {w:World} (hg:TO lo t c ls S w) (hl:ls.length≤10000) (l:LeaseV) :
  Calls Tryz.prog 177 #[.pointer (some ⟨t,0,none⟩),.agg #[.int .i64 l.se,.int .i64 l.fl,.int .i64 l.fm,.int .i64 l.to,.int .i64 l.ma,.int .i64 l.ca,.int .i64 l.ph,.int .i64 l.un,.int .i64 l.re,.int .i64 l.gr]] w fun e w'=>e=.returned (.int .i64 (setE c ls l))∧∃ S',TO lo t c (setL c ls l) S' w'∧Upd S w w'∧∀ g∈S',g∈S∨w.heap.size≤g:=by
 obtain ⟨A,cap,h0,hS,hH⟩:=hold_ta (n:=_) hg
 unfold setL setE
 cases hgd:goodB c l with
 | false =>
  rw [if_neg (by decide),if_neg (by decide)]
  refine entH tab_ok (hH) [.p 0 0,.a [.i .i64 l.se,.i .i64 l.fl,.i .i64 l.fm,.i .i64 l.to,.i .i64 l.ma,.i .i64 l.ca,.i .i64 l.ph,.i .i64 l.un,.i .i64 l.re,.i .i64 l.gr]] Tryz.func177 Tryz.ntmps177 rfl rfl ?_
  repeat' (first | refine gs_ ?_|((conv=>whnf); first | intro b | refine callH (f:=225) (.b false) (fun w hH=>by have:=goodT l w (hH.row 0 _ rfl rfl); rw [hgd] at this; exact this) ?_|refine fin_ta (by rfl) (by intro m; rfl) h0 (by rfl) (by intro m; rfl)|refine fin_s ?_))
 | true =>
  cases hf:atP ls (isT l) with
  | none =>
   refine entH tab_ok (hH) [.p 0 0,.a [.i .i64 l.se,.i .i64 l.fl,.i .i64 l.fm,.i .i64 l.to,.i .i64 l.ma,.i .i64 l.ca,.i .i64 l.ph,.i .i64 l.un,.i .i64 l.re,.i .i64 l.gr]] Tryz.func177 Tryz.ntmps177 rfl rfl ?_
   repeat' (first | refine gs_ ?_|((conv=>whnf); first | intro b | refine bto ?_|refine bfo ?_|refine callH (f:=225) (.b true) (fun w hH=>by have:=goodT l w (hH.row 0 _ rfl rfl); rw [hgd] at this; exact this) ?_|refine callH (f:=166) (.i .i64 (-1)) (fun w hH=>by have:=findT w (hH.row 0 _ rfl rfl) (hH.obj (rwO leaE lo A ls.length cap ls true) (List.mem_singleton.2 rfl)) hl 226 _ (isT l) (fun y w1 hs=>set1T _ l y w1 (keep_blk hs (hH.row 1 _ rfl rfl))) (entC (by kernel_rfl)); rw [hf,oI_none] at this; exact this) ?_|refine fin_ta (ls:=ls) (by rfl) (by intro m; rfl) h0 (by rfl) (by intro m; rfl)|refine fin_s ?_))
  | some k =>
   obtain ⟨hk,_,_⟩:=atP_some hf
   obtain ⟨g,rfl⟩:=own_addr (hH.obj (rwO leaE lo A ls.length cap ls true) (List.mem_singleton.2 rfl)) (by omega)
   refine entH tab_ok (hH) [.p 0 0,.a [.i .i64 l.se,.i .i64 l.fl,.i .i64 l.fm,.i .i64 l.to,.i .i64 l.ma,.i .i64 l.ca,.i .i64 l.ph,.i .i64 l.un,.i .i64 l.re,.i .i64 l.gr]] Tryz.func177 Tryz.ntmps177 rfl rfl ?_
   repeat' (first | refine gq_ ?_|((conv=>whnf); first | intro b | refine drA ⟨tab_ok⟩ [7] ?_|refine bto ?_|refine bfo ?_|refine callH (f:=225) (.b true) (fun w hH=>by have:=goodT l w (hH.row 0 _ rfl rfl); rw [hgd] at this; exact this) ?_|refine callH (f:=166) (.i .i64 (k:Int)) (fun w hH=>by have:=findT w (hH.row 0 _ rfl rfl) (hH.obj (rwO leaE lo (some ⟨g,0,none⟩) ls.length cap ls true) (List.mem_singleton.2 rfl)) hl 226 _ (isT l) (fun y w1 hs=>set1T _ l y w1 (keep_blk hs (hH.row 1 _ rfl rfl))) (entC (by kernel_rfl)); rw [hf,oI_some] at this; exact this) ?_|refine ui_ ?_|refine iv_ ?_|refine opst ⟨tab_ok⟩ 0 k leaE l [.i .i64 l.se,.i .i64 l.fl,.i .i64 l.fm,.i .i64 l.to,.i .i64 l.ma,.i .i64 l.ca,.i .i64 l.ph,.i .i64 l.un,.i .i64 l.re,.i .i64 l.gr] (by rfl) (by rfl) (by show Addr.add ⟨g,0,none⟩ (k*10)=_; rw [Go.WideShapes.add_plain,Nat.zero_add]; rfl) (by rfl) (by rfl) (by rfl) hk (by decide) (by rfl) ?_|refine fin_ta (ls:=ls.set k l) (by rfl) (by intro m; rfl) h0 (by simp) (by intro m; rfl)|refine fin_s ?_))
theorem endT {lo t:Nat} {c:CfgV} {ls:List LeaseV} {S:List Nat} {w:World} (hg:TO lo t c ls S w) (hl:ls.length≤10000) (s:Int) :
  Calls Tryz.prog 223 #[.pointer (some ⟨t,0,none⟩),.int .i64 s] w fun e w'=>e=.returned (.tuple #[.agg #[.int .i64 (ofL ls s).se,.int .i64 (ofL ls s).fl,.int .i64 (ofL ls s).fm,.int .i64 (ofL ls s).to,.int .i64 (ofL ls s).ma,.int .i64 (ofL ls s).ca,.int .i64 (ofL ls s).ph,.int .i64 (ofL ls s).un,.int .i64 (ofL ls s).re,.int .i64 (ofL ls s).gr],.bool (hasL ls s)])∧∃ S',TO lo t c (endL ls s) S' w'∧Upd S w w'∧∀ g∈S',g∈S∨w.heap.size≤g:=by
 obtain ⟨A,cap,h0,hS,hH⟩:=hold_ta (n:=_) hg
 have h9:=fun w=>ofiT (t:=t) (lo:=lo) (cap:=cap) (c:=c) (ls:=ls) (A:=A) w
 unfold endL
 cases hf:atP ls (isS s) with
 | none =>
  have e1:ofL ls s=zeroL:=by unfold ofL; rw [hf]; unfold atV; rfl
  have e2:hasL ls s=false:=by unfold hasL; rw [hf]; rfl
  rw [e1,e2]
  refine entH tab_ok (hH) [.p 0 0,.i .i64 s] Tryz.func223 Tryz.ntmps223 rfl rfl ?_
  repeat' (first | refine gs_ ?_|((conv=>whnf); first | intro b | refine callH (f:=118) (.i .i64 (-1)) (fun w hH=>by have:=ofiT w (hH.row 0 _ rfl rfl) (hH.obj (rwO leaE lo A ls.length cap ls true) (List.mem_singleton.2 rfl)) hl s; rw [hf,oI_none] at this; exact this) ?_|refine callH (f:=117) (.t [.a [.i .i64 zeroL.se,.i .i64 zeroL.fl,.i .i64 zeroL.fm,.i .i64 zeroL.to,.i .i64 zeroL.ma,.i .i64 zeroL.ca,.i .i64 zeroL.ph,.i .i64 zeroL.un,.i .i64 zeroL.re,.i .i64 zeroL.gr],.b false]) (fun w hH=>atT0 w (hH.row 0 _ rfl rfl) (hH.obj (rwO leaE lo A ls.length cap ls true) (List.mem_singleton.2 rfl)) hl (-1) (by decide)) ?_|refine fin_ta (ls:=ls) (by rfl) (by intro m; rfl) h0 (by rfl) (by intro m; rfl)|refine fin_s ?_))
 | some k =>
  obtain ⟨hk,_,_⟩:=atP_some hf
  obtain ⟨x,hx⟩:∃ x,ls[k]?=some x:=⟨_,List.getElem?_eq_getElem hk⟩
  have e1:ofL ls s=x:=by unfold ofL; rw [hf]; unfold atV; simp [List.getD,hx]
  have e2:hasL ls s=true:=by unfold hasL; rw [hf]; rfl
  rw [e1,e2]
  have hm:ls.length=(ls.eraseIdx k).length+1:=by rw [List.length_eraseIdx_of_lt hk]; omega
  obtain ⟨g,rfl⟩:=own_addr (hH.obj (rwO leaE lo A ls.length cap ls true) (List.mem_singleton.2 rfl)) (by omega)
  refine entH tab_ok (hH) [.p 0 0,.i .i64 s] Tryz.func223 Tryz.ntmps223 rfl rfl ?_
  repeat' (first | refine gs_ ?_|((conv=>whnf); first | intro b | refine wr_i ?_|refine callH (f:=118) (.i .i64 (k:Int)) (fun w hH=>by have:=ofiT w (hH.row 0 _ rfl rfl) (hH.obj (rwO leaE lo (some ⟨g,0,none⟩) ls.length cap ls true) (List.mem_singleton.2 rfl)) hl s; rw [hf,oI_some] at this; exact this) ?_|refine callH (f:=117) (.t [.a [.i .i64 x.se,.i .i64 x.fl,.i .i64 x.fm,.i .i64 x.to,.i .i64 x.ma,.i .i64 x.ca,.i .i64 x.ph,.i .i64 x.un,.i .i64 x.re,.i .i64 x.gr],.b true]) (fun w hH=>atT1 w (hH.row 0 _ rfl rfl) (hH.obj (rwO leaE lo (some ⟨g,0,none⟩) ls.length cap ls true) (List.mem_singleton.2 rfl)) hl k x hx) ?_|refine callO (f:=261) (A:=rwO leaE lo (some ⟨g,0,none⟩) ls.length cap ls true) 0 (fun _:Unit=>.v (.slice (some ⟨g,0,none⟩) (ls.eraseIdx k).length cap)) (fun _=>rwO leaE lo (some ⟨g,0,none⟩) (ls.eraseIdx k).length cap (ls.eraseIdx k) true) (fun w hH hA=>by have hcap:=lea_cap hA; have:=Qu.CL.deleteT lo g (ls.eraseIdx k).length cap k ls w (by rw [← hm]; exact hA) hm (by omega) (by omega) (by omega); rw [← hm] at this; exact this.mono (by rintro e w' ⟨rfl,h1,h2⟩; exact ⟨(),rfl,h1,h2,fun _ h=>.inl h⟩)) (fun _=>?_)|refine fin_ta (ls:=ls.eraseIdx k) (by rfl) (by intro m; rfl) h0 (by rfl) (by intro m; rfl)|refine fin_s ?_))
end Le
namespace Gr
open Go.RowKit Ba Mem En Mo Go.Proofs.YtepfmfalebmcnaaGreatDoor.Ty Go.Proofs.YtepfmfalebmcnaaGreatDoor.St
open Ct (cfgA carA)
open Et (carsO)
set_option maxRecDepth 100000
theorem fin_gn {lo q n n1 n2 c1 c2:Nat} {G:GrV} {A1 A2:Option Addr} {S:List Nat} {w:World} {V:Value} {v:SV} {fr:List (Nat×SV)} {cs:List SV} {ls:List CarV} {ws:List WaitV} {rest:List Row} {obr:List Asr} {st:St}
  (hst:st=⟨fr,⟨q,128,true,0,[],cs,[],true⟩::rest,carsO lo A1 n1 c1 ls true::waitsO lo A2 n2 c2 ws true::obr⟩)
  (hv:∀ m,den m v=V) (h0:lo≤q) (h1:n1=G.cars.length) (h2:n2=G.waits.length) (h3:ls=G.cars) (h4:ws=G.waits) (hcs:∀ m,(denL m cs).toArray=grpA G (.slice A1 n1 c1) (.slice A2 n2 c2)) :
  Fin ⟨Tryz.prog,tab,S,w,n,[]⟩ (fun e w'=>e=.returned V∧∃ S',GO lo q G S' w'∧Upd S w w'∧∀ g∈S',g∈S∨w.heap.size≤g) v st:=by
 subst hst h1 h2 h3 h4
 refine fin fun w' hH=>?_
 have oc:carsO lo A1 G.cars.length c1 G.cars true∈carsO lo A1 G.cars.length c1 G.cars true::waitsO lo A2 G.waits.length c2 G.waits true::obr:=List.mem_cons_self ..
 have ow:waitsO lo A2 G.waits.length c2 G.waits true∈carsO lo A1 G.cars.length c1 G.cars true::waitsO lo A2 G.waits.length c2 G.waits true::obr:=List.mem_cons_of_mem _ (List.mem_cons_self ..)
 refine ⟨by rw [hv],_,⟨h0,A1,c1,A2,c2,rfl, ?_,hH.obj _ oc,hH.obj _ ow⟩,hH.upd,fun g hg=>?_⟩
 ·have:=hH.row 0 _ rfl rfl
  rw [rowA_nil rfl rfl] at this
  rw [← hcs]; exact this
 ·rcases List.mem_cons.1 hg with rfl | hg
  ·exact (hH.wf 0 _ rfl rfl).2.2 rfl
  ·exact (List.mem_append.1 hg).elim (hH.own _ oc rfl g) (hH.own _ ow rfl g)
attribute [local irreducible] Go.Calls hasC atP oI
def hallR (G:GrV) (f wy:Int):GrV×Int:=if hasC G.c f wy=true then (if atP G.waits (isW f wy)=none then ({ G with waits:=G.waits++[⟨f,wy,-1,G.now⟩] },0) else (G,0)) else (G,1)
theorem oI_some (k:Nat):oI (some k)=(k:Int):=by unfold oI; rfl
theorem oI_none:oI none = -1:=by unfold oI; rfl
theorem hallG {lo q:Nat} {G:GrV} {S:List Nat} {w:World} (hg:GO lo q G S w) (hl:G.waits.length≤10000) (f wy:Int):Calls Tryz.prog 102 #[.pointer (some ⟨q,0,none⟩),.int .i64 f,.int .i64 wy] w fun e w'=>e=.returned (.int .i64 (hallR G f wy).2)∧∃ S',GO lo q (hallR G f wy).1 S' w'∧Upd S w w'∧∀ g∈S',g∈S∨w.heap.size≤g:=by
 obtain ⟨A1,c1,A2,c2,h0,hS,hH⟩:=hold_go (n:=_) hg
 unfold hallR
 cases hC:hasC G.c f wy with
 | false =>
  rw [if_neg (by decide)]
  refine entH tab_ok (hH) [.p 0 0,.i .i64 f,.i .i64 wy] Tryz.func102 Tryz.ntmps102 rfl rfl ?_
  repeat' (first | refine gs_ ?_|((conv=>whnf); first | intro b | refine callH (f:=143) (.b (hasC G.c f wy)) (fun w hH=>hasCT q G _ _ f wy w (hH.row 0 _ rfl rfl)) ?_|refine fin_gn (by rfl) (by intro m; rfl) h0 (by rfl) (by rfl) (by rfl) (by rfl) (by intro m; rfl)|refine fin_s ?_))
 | true =>
  rw [if_pos rfl]
  cases hP:atP G.waits (isW f wy) with
  | some k =>
   rw [if_neg (by intro h; cases h)]
   have ho:oI (atP G.waits (isW f wy))=(k:Int):=by rw [hP,oI_some]
   refine entH tab_ok (hH) [.p 0 0,.i .i64 f,.i .i64 wy] Tryz.func102 Tryz.ntmps102 rfl rfl ?_
   repeat' (first | refine gs_ ?_|((conv=>whnf); first | intro b | refine bto ?_|refine bfo ?_|refine callH (f:=143) (.b (hasC G.c f wy)) (fun w hH=>hasCT q G _ _ f wy w (hH.row 0 _ rfl rfl)) ?_|refine callH (f:=144) (.i .i64 (oI (atP G.waits (isW f wy)))) (fun w hH=>findT lo q G _ A2 c2 f wy w (hH.row 0 _ rfl rfl) (hH.obj (waitsO lo A2 _ c2 G.waits true) (List.mem_cons_of_mem _ (List.mem_cons_self ..))) (by omega)) ?_|refine fin_gn (by rfl) (by intro m; rfl) h0 (by rfl) (by rfl) (by rfl) (by rfl) (by intro m; rfl)|refine fin_s ?_))
  | none =>
   rw [if_pos rfl]
   have ho:oI (atP G.waits (isW f wy)) = -1:=by rw [hP,oI_none]
   refine entH tab_ok (hH) [.p 0 0,.i .i64 f,.i .i64 wy] Tryz.func102 Tryz.ntmps102 rfl rfl ?_
   repeat' (first | refine gs_ ?_|((conv=>whnf); first | intro b | refine bto ?_|refine bfo ?_|refine callH (f:=143) (.b (hasC G.c f wy)) (fun w hH=>hasCT q G _ _ f wy w (hH.row 0 _ rfl rfl)) ?_|refine callH (f:=144) (.i .i64 (oI (atP G.waits (isW f wy)))) (fun w hH=>findT lo q G _ A2 c2 f wy w (hH.row 0 _ rfl rfl) (hH.obj (waitsO lo A2 _ c2 G.waits true) (List.mem_cons_of_mem _ (List.mem_cons_self ..))) (by omega)) ?_|refine opb1 (e:=200) ⟨tab_ok⟩ [.i .i64 f,.i .i64 wy,.i .i64 (-1),.i .i64 G.now] (by rfl) (by rfl) ?_|refine opap 1 2 (e:=200) (lo:=lo) (size:=4) (bytes:=32) (z:=.agg #[.int .i64 0,.int .i64 0,.int .i64 0,.int .i64 0]) (A:=waitsO lo A2 G.waits.length c2 G.waits true) (vals:=rowsOf waitL G.waits) (cells:=waitL (⟨f,wy,-1,G.now⟩:WaitV)) (zs:=rowsOf waitL (G.waits++[(⟨f,wy,-1,G.now⟩:WaitV)])) (n2:=G.waits.length+1) (fun A' c'=>waitsO lo A' (G.waits.length+1) c' (G.waits++[(⟨f,wy,-1,G.now⟩:WaitV)]) true) (by rfl) (by rfl) (by rfl) (by rfl) rfl rfl (fun w h=>h) (fun A' c' w h=>h) (fun _ _=>rfl) (by rfl) (by rfl) (by rfl) (by rfl) Tryz.underlying126 (by kernel_rfl) rfl (by decide) (by decide) (waitL_one _) (by omega) (fun w hH=>by have h:q < w.heap.size:=(hH.row 0 _ rfl rfl).lt; omega) rfl (by rw [rowsOf_append,rowsOf_one]) (fun A' c'=>?_)|refine fin_gn (by rfl) (by intro m; rfl) h0 (by rfl) (by simp) (by rfl) (by rfl) (by intro m; simp [denL,den,grpA])|refine fin_s ?_))
end Gr
namespace Gr
open Go.RowKit Ba Mem En Mo Go.Proofs.YtepfmfalebmcnaaGreatDoor.Ty Go.Proofs.YtepfmfalebmcnaaGreatDoor.St
open Ct (cfgA carA)
open Et (carsO)
set_option maxRecDepth 100000
attribute [local irreducible] Go.Calls
def hallX (a:WaitV) (x:CarV):CarV:={ x with su:=haU x.su a.fl a.wy,sd:=haD x.sd a.fl a.wy }
theorem assign1T (g off gw ow cp:Nat) (P S P2 S2:List Value) (x:CarV) (a:WaitV) (w:World) (hb:Blk w g 124 (el P (carA x) S)) (hp:P.length=off) (hw:Blk w gw 200 (el P2 (waitA a) S2)) (hp2:P2.length=ow) (hc:Blk w cp 250 #[.pointer (some ⟨gw,ow,none⟩)]):Calls Tryz.prog 215 #[.pointer (some ⟨g,off,none⟩),.pointer (some ⟨cp,0,none⟩)] w fun e w'=>e=.returned (.int .i64 0)∧Blk w' g 124 (el P (carA (hallX a x)) S)∧Upd [g] w w':=by
 refine entH tab_ok (Hold.addRow (Hold.addRow (hold_e0 (sCar x) hb hp rfl) ⟨gw,200,true,ow,P2,[.i .i64 a.fl,.i .i64 a.wy,.i .i64 a.ca,.i .i64 a.si],S2,false⟩ hw (by intro h; cases h) (by intro r hr _; rw [List.mem_singleton] at hr; subst hr; exact Blk.ne_ hb hw (by decide)) (by intro A hA; cases hA) (by rfl) hp2) ⟨cp,250,true,0,[],[.p 1 0],[],false⟩ hc (by intro h; cases h) (by intro r hr _; simp only [List.mem_append,List.mem_singleton] at hr; rcases hr with rfl | rfl <;> exact Blk.ne_ (by assumption) hc (by decide)) (by intro A hA; cases hA)) [.p 0 0,.p 2 0] Tryz.func215 Tryz.ntmps215 rfl rfl ?_
 repeat' (first | refine gs_ ?_|((conv=>whnf); first | intro b | refine b3_ (fun h=>?_) (fun h=>?_)|refine callS (f:=216) (.a [.i .u64 _,.i .u64 _,.i .u64 _]) (hallT _ _ _ _ _) ?_|refine fin_s ?_|refine fin_r ?_ ?_|refine fin_e ?_ ?_))
 all_goals rfl
end Gr
namespace Gr
open Go.RowKit Ba Mem Go.Proofs.YtepfmfalebmcnaaGreatDoor.Ty Mo Go.Proofs.YtepfmfalebmcnaaGreatDoor.St
open Ct (cfgA carA bdX tkV tkF tkW tkS tickT)
open Et (blL)
def okT (x:CarV):Prop:=bdX x∧(R x.sp∧R x.su∧R x.sd)∧(x.mo=1 → -1099511627776≤x.ta∧x.ta≤1099511627776)∧(-1000000000≤x.ti∧x.ti≤1000000000)∧(0≤x.un∧x.un≤252)∧(0≤x.wy∧x.wy≤2)
def okW (a:WaitV):Prop:=(0≤a.fl∧a.fl≤63)∧1≤a.wy∧a.wy≤2
theorem hallX_ok {a:WaitV} {x:CarV} (h:okT x):okT (hallX a x):=by
 obtain ⟨h1,⟨h2,h3,h4⟩,h5,h6,h7,h8⟩:=h
 refine ⟨h1,⟨h2, ?_, ?_⟩,h5,h6,h7,h8⟩
 ·show R (haU x.su a.fl a.wy)
  unfold haU; split
  ·exact or_R h3 (bit_R _)
  ·exact h3
 ·show R (haD x.sd a.fl a.wy)
  unfold haD; split
  ·exact or_R h4 (bit_R _)
  ·exact h4
def bestI (c:CfgV) (cs:List CarV) (a:WaitV):Int:=(blL c a.fl a.wy cs cs.length).1
def giveC (cs:List CarV) (a:WaitV) (b:Int):List CarV:=if 0≤b then cs.modify b.toNat (hallX a) else cs
def asgStep (c:CfgV) (p:List WaitV×List CarV) (i:Nat):List WaitV×List CarV :=
 match p.1[i]? with
 | none=>p
 | some a=>if a.ca = -1 then (p.1.set i { a with ca:=bestI c p.2 a },giveC p.2 a (bestI c p.2 a)) else p
def asgN (c:CfgV) (ws:List WaitV) (cs:List CarV):Nat→List WaitV×List CarV
 | 0=>(ws,cs)
 | i+1=>asgStep c (asgN c ws cs i) i
theorem giveC_len (cs:List CarV) (a:WaitV) (b:Int):(giveC cs a b).length=cs.length:=by unfold giveC; split <;> simp
theorem step_len (c:CfgV) (p:List WaitV×List CarV) (i:Nat):(asgStep c p i).1.length=p.1.length∧(asgStep c p i).2.length=p.2.length:=by
 unfold asgStep
 split
 ·exact ⟨rfl,rfl⟩
 ·split
  ·exact ⟨by simp,giveC_len _ _ _⟩
  ·exact ⟨rfl,rfl⟩
theorem asg_len (c:CfgV) (ws:List WaitV) (cs:List CarV):∀ i,(asgN c ws cs i).1.length=ws.length∧(asgN c ws cs i).2.length=cs.length
 | 0=>⟨rfl,rfl⟩
 | i+1=>by
  have h:=asg_len c ws cs i
  have h2:=step_len c (asgN c ws cs i) i
  exact ⟨h2.1.trans h.1,h2.2.trans h.2⟩
theorem giveC_ok {cs:List CarV} {a:WaitV} {b:Int} (h:∀ x∈cs,okT x):∀ x∈giveC cs a b,okT x:=by
 intro x hx
 unfold giveC at hx
 split at hx
 ·obtain ⟨i,hi,rfl⟩:=List.mem_iff_getElem.1 hx
  rw [List.getElem_modify]
  split
  ·exact hallX_ok (h _ (List.getElem_mem _))
  ·exact h _ (List.getElem_mem _)
 ·exact h x hx
theorem step_ok {c:CfgV} {p:List WaitV×List CarV} {i:Nat} (hw:∀ a∈p.1,okW a) (hc:∀ x∈p.2,okT x):(∀ a∈(asgStep c p i).1,okW a)∧∀ x∈(asgStep c p i).2,okT x:=by
 unfold asgStep
 split
 ·exact ⟨hw,hc⟩
 ·rename_i a ha
  split
  ·refine ⟨fun y hy=>?_,giveC_ok hc⟩
   rcases List.mem_or_eq_of_mem_set hy with h | h
   ·exact hw y h
   ·rw [h]; exact hw a (List.mem_of_getElem? ha)
  ·exact ⟨hw,hc⟩
theorem asg_ok {c:CfgV} {ws:List WaitV} {cs:List CarV} (hw:∀ a∈ws,okW a) (hc:∀ x∈cs,okT x):∀ i,(∀ a∈(asgN c ws cs i).1,okW a)∧∀ x∈(asgN c ws cs i).2,okT x
 | 0=>⟨hw,hc⟩
 | i+1=>step_ok (asg_ok hw hc i).1 (asg_ok hw hc i).2
def tkStep (c:CfgV) (p:List CarV×List WaitV×List WaitV) (i:Nat):List CarV×List WaitV×List WaitV :=
 match p.1[i]? with
 | none=>p
 | some x=>match (if tkS x=true then atP p.2.1 (isW (tkF x) (tkW x)) else none) with
  | none=>(p.1.set i (tkV c x),p.2)
  | some k=>(p.1.set i (tkV c x),p.2.1.eraseIdx k,p.2.2++(p.2.1[k]?).toList)
def tkN (c:CfgV) (cs:List CarV) (ws:List WaitV):Nat→List CarV×List WaitV×List WaitV
 | 0=>(cs,ws,[])
 | i+1=>tkStep c (tkN c cs ws i) i
theorem tkS_len (c:CfgV) (p:List CarV×List WaitV×List WaitV) (i:Nat):(tkStep c p i).1.length=p.1.length:=by
 unfold tkStep
 split
 ·rfl
 ·split <;> simp
theorem tkS_at (c:CfgV) (p:List CarV×List WaitV×List WaitV) (i j:Nat) (h:i≠j):(tkStep c p i).1[j]?=p.1[j]?:=by
 unfold tkStep
 split
 ·rfl
 ·split <;> simp [List.getElem?_set,h]
theorem tk_len (c:CfgV) (cs:List CarV) (ws:List WaitV):∀ i,(tkN c cs ws i).1.length=cs.length
 | 0=>rfl
 | i+1=>(tkS_len c _ i).trans (tk_len c cs ws i)
theorem tk_at (c:CfgV) (cs:List CarV) (ws:List WaitV):∀ i j,i≤j→(tkN c cs ws i).1[j]?=cs[j]?
 | 0,_,_=>rfl
 | i+1,j,h=>(tkS_at c _ i j (by omega)).trans (tk_at c cs ws i j (by omega))
theorem tkS_wl (c:CfgV) (p:List CarV×List WaitV×List WaitV) (i:Nat):(tkStep c p i).2.1.length≤p.2.1.length∧(tkStep c p i).2.2.length≤p.2.2.length+1:=by
 unfold tkStep
 split
 ·exact ⟨Nat.le_refl _,Nat.le_succ _⟩
 ·split
  ·exact ⟨Nat.le_refl _,Nat.le_succ _⟩
  ·rename_i k hk
   refine ⟨List.length_eraseIdx_le _ _, ?_⟩
   have:(p.2.1[k]?).toList.length≤1:=by cases p.2.1[k]? <;> simp
   simp only [List.length_append]
   omega
theorem tk_wl (c:CfgV) (cs:List CarV) (ws:List WaitV):∀ i,(tkN c cs ws i).2.1.length≤ws.length∧(tkN c cs ws i).2.2.length≤i
 | 0=>⟨Nat.le_refl _,Nat.le_refl _⟩
 | i+1=>by
  have h:=tk_wl c cs ws i
  have h2:=tkS_wl c (tkN c cs ws i) i
  exact ⟨Nat.le_trans h2.1 h.1,Nat.le_trans h2.2 (by omega)⟩
def tickP (G:GrV):List CarV×List WaitV×List WaitV:=tkN G.c (asgN G.c G.waits G.cars G.waits.length).2 (asgN G.c G.waits G.cars G.waits.length).1 G.cars.length
def tickG (G:GrV):GrV:=⟨G.c,(tickP G).1,(tickP G).2.1,Tm.cl (Tm.cl G.now+Tm.cl 1)⟩
theorem bl_rng (c:CfgV) (f cw:Int) (ls:List CarV):∀ k,-1≤(blL c f cw ls k).1∧(blL c f cw ls k).1 < (k:Int)∧(blL c f cw ls k).1 < (ls.length:Int)
 | 0=>by unfold blL; omega
 | k+1=>by
  have h:=bl_rng c f cw ls k
  unfold blL
  split
  ·omega
  ·rename_i x hx
   have:=(List.getElem?_eq_some_iff.1 hx).1
   split
   ·show -1≤(k:Int)∧(k:Int) < ((k+1:Nat):Int)∧(k:Int) < (ls.length:Int)
    omega
   ·omega
end Gr
namespace Gr
open Go.RowKit Ba Mem En Mo Go.Proofs.YtepfmfalebmcnaaGreatDoor.Ty Go.Proofs.YtepfmfalebmcnaaGreatDoor.St
open Ct (cfgA carA)
open Et (carsO blL bestT inL)
set_option maxRecDepth 100000
attribute [local irreducible] Go.Calls
theorem bestI_eq {c:CfgV} {cs:List CarV} {a:WaitV} {n:Nat} (h:cs.length=n):bestI c cs a=(blL c a.fl a.wy cs n).1:=by subst h; rfl
theorem bestI_rng (c:CfgV) (cs:List CarV) (a:WaitV) : -1≤bestI c cs a∧bestI c cs a < (cs.length:Int):=⟨(bl_rng c a.fl a.wy cs cs.length).1,(bl_rng c a.fl a.wy cs cs.length).2.2⟩
attribute [local irreducible] bestI
theorem mod_set {α:Type} {l:List α} {i:Nat} {x:α} (f:α→α) (h:l[i]?=some x):l.modify i f=l.set i (f x):=by
 apply List.ext_getElem?
 intro j
 rw [List.getElem?_modify,List.getElem?_set]
 by_cases hj:i=j
 ·subst hj
  obtain ⟨h1,h2⟩:=List.getElem?_eq_some_iff.1 h
  subst h2
  simp [h1]
 ·simp [hj]
theorem set_same {α:Type} {l:List α} {k:Nat} {a:α} (h:l[k]?=some a):l.set k a=l:=by
 obtain ⟨h1,h2⟩:=List.getElem?_eq_some_iff.1 h
 subst h2
 exact List.set_getElem_self h1
theorem inL_of {x:CarV} (h:okT x):inL x:=⟨h.2.2.2.2.1,h.2.1⟩
theorem assignT (lo q:Nat) (G:GrV) (A1 A2:Option Addr) (c1 c2:Nat) (w:World) (hq:Blk w q 128 (grpA G (.slice A1 G.cars.length c1) (.slice A2 G.waits.length c2))) (hO:(carsO lo A1 G.cars.length c1 G.cars true).st w∧(waitsO lo A2 G.waits.length c2 G.waits true).st w) (hd:∀ g∈blkOf A1,g∉blkOf A2) (hl1:G.cars.length≤10000) (hl2:G.waits.length≤10000) (hk1:∀ x∈G.cars,okT x) (hk2:∀ a∈G.waits,okW a) :
  Calls Tryz.prog 170 #[.pointer (some ⟨q,0,none⟩)] w fun e w'=>e=.returned (.tuple #[])∧CarsAt lo A1 G.cars.length c1 (asgN G.c G.waits G.cars G.waits.length).2 w'∧WaitsAt lo A2 G.waits.length c2 (asgN G.c G.waits G.cars G.waits.length).1 w'∧Upd (blkOf A1++blkOf A2) w w':=by
 obtain ⟨g,hA⟩:∃ g,0 < G.waits.length→A2=some ⟨g,0,none⟩:=by
  rcases own_at hO.2 with ⟨_,h0,_⟩ | ⟨g,_,h1,_⟩
  ·exact ⟨0,fun k=>by omega⟩
  ·exact ⟨g,fun _=>h1⟩
 have ho:=fun k=>asg_ok (c:=G.c) hk2 hk1 k
 have hn:=fun k=>asg_len G.c G.waits G.cars k
 refine entH tab_ok (Hold.addObj (Hold.addObj (hold_q (S:=blkOf A1++blkOf A2) [.i .i64 G.c.ca,.i .i64 G.c.fl,.i .i64 G.c.ft,.i .i64 G.c.se,.i .i64 G.c.dr,.i .i64 G.c.dw,.i .i64 G.c.ho,.i .i64 G.c.re,.i .i64 G.c.yi,.i .i64 G.c.qu,.i .i64 G.c.qo,.i .i64 G.c.lo,.i .i64 G.c.sl,.i .i64 G.c.rt,.i .i64 G.c.cp,.i .i64 G.c.tr,.i .i64 G.c.de,.i .i64 G.c.wi,.v (.slice A1 G.cars.length c1),.v (.slice A2 G.waits.length c2),.i .i64 G.now] hq) (carsO lo A1 G.cars.length c1 G.cars true) hO.1 (fun _ g hg=>.inl (List.mem_append.2 (.inl hg))) (by intro r hr _; rw [List.mem_singleton] at hr; subst hr; exact own_ne_ty hO.1 hq (by decide)) (by intro A hA; cases hA)) (waitsO lo A2 G.waits.length c2 G.waits true) hO.2 (fun _ g hg=>.inl (List.mem_append.2 (.inr hg))) (by intro r hr _; rw [List.mem_singleton] at hr; subst hr; exact own_ne_ty hO.2 hq (by decide)) (by intro A hA; simp only [List.nil_append,List.mem_singleton] at hA; subst hA; exact fun _ g hg=>hd g hg)) [.p 0 0] Tryz.func170 Tryz.ntmps170 rfl rfl ?_
 repeat' (first | refine gs_ ?_|((conv=>whnf); first | intro b | refine b3_ (fun h=>?_) (fun h=>?_)|refine fin_s ?_))
 conv=>whnf
 refine lpS ⟨tab_ok⟩ (ι:={k:Nat // k≤G.waits.length}) (fun x=>match x with | ⟨k,_⟩=>⟨[(0,.p 0 0),(8,.i .i64 G.waits.length),(9,.i .i64 (k:Int))],[⟨q,128,true,0,[],[.i .i64 G.c.ca,.i .i64 G.c.fl,.i .i64 G.c.ft,.i .i64 G.c.se,.i .i64 G.c.dr,.i .i64 G.c.dw,.i .i64 G.c.ho,.i .i64 G.c.re,.i .i64 G.c.yi,.i .i64 G.c.qu,.i .i64 G.c.qo,.i .i64 G.c.lo,.i .i64 G.c.sl,.i .i64 G.c.rt,.i .i64 G.c.cp,.i .i64 G.c.tr,.i .i64 G.c.de,.i .i64 G.c.wi,.v (.slice A1 G.cars.length c1),.v (.slice A2 G.waits.length c2),.i .i64 G.now],[],false⟩],[carsO lo A1 G.cars.length c1 (asgN G.c G.waits G.cars k).2 true,waitsO lo A2 G.waits.length c2 (asgN G.c G.waits G.cars k).1 true]⟩) (fun x=>G.waits.length - x.1) ⟨0,Nat.zero_le _⟩ (wk ?_) ?_
 ·repeat' (first | exact trivial | rfl | ((conv=>whnf); refine And.intro ?_ ?_))
 rintro ⟨k,hk⟩
 by_cases hlt:k < G.waits.length
 ·obtain rfl:=hA (by omega)
  obtain ⟨a,ha⟩:∃ a,(asgN G.c G.waits G.cars k).1[k]?=some a:=⟨_,List.getElem?_eq_getElem (by rw [(hn k).1]; exact hlt)⟩
  have hka:=(ho k).1 a (List.mem_of_getElem? ha)
  have hs:asgN G.c G.waits G.cars (k+1)=asgStep G.c (asgN G.c G.waits G.cars k) k:=rfl
  refine sm_open ⟨tab_ok⟩ (π:=wPS lo g G.waits.length c2 k (asgN G.c G.waits G.cars k).1) 1 (fun p=>⟨g,200,true,0+k*4,p.1.1,[.i .i64 a.fl,.i .i64 a.wy,.i .i64 a.ca,.i .i64 a.si],p.1.2,true⟩) (by rfl) (by rfl) (fun w hw=>wait_open hw ha) (fun p=>rfl) (fun p=>?_)
  by_cases hca:a.ca = -1
  ·have hb:=bestI_rng G.c (asgN G.c G.waits G.cars k).2 a
   rw [(hn k).2] at hb
   by_cases hb0:0≤bestI G.c (asgN G.c G.waits G.cars k).2 a
   ·obtain ⟨kk,hkk⟩:∃ kk:Nat,bestI G.c (asgN G.c G.waits G.cars k).2 a=(kk:Int):=⟨_,(Int.toNat_of_nonneg hb0).symm⟩
    have hkl:kk < (asgN G.c G.waits G.cars k).2.length:=by rw [(hn k).2]; omega
    obtain ⟨g1,rfl⟩:=own_addr hO.1 (by omega)
    have he:asgN G.c G.waits G.cars (k+1)=((asgN G.c G.waits G.cars k).1.set k { a with ca:=bestI G.c (asgN G.c G.waits G.cars k).2 a },(asgN G.c G.waits G.cars k).2.set kk (hallX a (asgN G.c G.waits G.cars k).2[kk])):=by
     rw [hs]; unfold asgStep; rw [ha]; simp only [hca,if_true]; unfold giveC; rw [if_pos hb0,hkk]
     rw [show (asgN G.c G.waits G.cars k).2.modify ((kk:Int).toNat) (hallX a)=(asgN G.c G.waits G.cars k).2.set kk (hallX a (asgN G.c G.waits G.cars k).2[kk]) by rw [Int.toNat_natCast]; exact mod_set _ (List.getElem?_eq_getElem hkl)]
    repeat' (first | refine gs_ ?_|((conv=>whnf); first | intro b | refine bto ?_|refine bfo ?_|refine wr_i ?_|refine b3_ (fun h=>?_) (fun h=>?_)|refine opir ⟨tab_ok⟩ 1 (by rfl) (by rfl) (by rfl) (by rfl) (by rfl) (by rfl) (by rfl) ⟨⟨by omega,by omega⟩,by show 0+k*4=_; simp⟩ ?_|refine callH (f:=214) (.i .i64 (bestI G.c (asgN G.c G.waits G.cars k).2 a)) (fun w hH=>by have:=bestT G.c a.fl a.wy lo _ _ c1 _ w (hH.obj (carsO lo _ _ c1 (asgN G.c G.waits G.cars k).2 true) (List.mem_cons_self ..)) (hn k).2 (by omega) hka.1 (fun x hx=>inL_of ((ho k).2 x hx)); rw [← bestI_eq (hn k).2] at this; exact this) ?_|refine callO (f:=146) 0 (fun _:Unit=>.i .i64 0) (fun _=>carsO lo (some ⟨g1,0,none⟩) G.cars.length c1 ((asgN G.c G.waits G.cars k).2.set kk (hallX a (asgN G.c G.waits G.cars k).2[kk])) true) (fun w hH hA=>chg1 (hH.row 0 _ rfl rfl) hA (hH.far _ (List.mem_cons_self ..) 0 _ rfl rfl) hkk hkl (hn k).2 (by kernel_rfl) (fun w1 P S hu hP hB=>assign1T g1 _ g (0+k*4) _ P S p.1.1 p.1.2 _ { a with ca:=bestI G.c (asgN G.c G.waits G.cars k).2 a } w1 hB hP (hu.blk (hH.row 1 _ rfl rfl) (hH.far _ (List.mem_cons_self ..) 1 _ rfl rfl)) p.2.1 (hu.blk (hH.row 2 _ rfl rfl) (hH.far _ (List.mem_cons_self ..) 2 _ rfl rfl)))) (fun _=>?_)|refine back ⟨k+1,by omega⟩ (wk_close 1 (waitsO lo (some ⟨g,0,none⟩) G.waits.length c2 (asgN G.c G.waits G.cars (k+1)).1 true) 1 ?_ (fun w' hB=>?_) (by rfl) (by rfl) (by rfl) (by rfl) (by rfl) (by show [carsO lo _ G.cars.length c1 (asgN G.c G.waits G.cars (k+1)).2 true,_]=_; rw [he]; rfl)) ?_|refine fin_s ?_))
    all_goals first | (show G.waits.length - (k+1) < G.waits.length - k; omega)|skip
    all_goals first
     | (show WaitsAt _ _ _ _ _ _; rw [he]; exact p.2.2 _ _ hB)
     | (repeat' (first | exact trivial | rfl | ((conv=>whnf); refine And.intro ?_ ?_)))
   ·have he:asgN G.c G.waits G.cars (k+1)=((asgN G.c G.waits G.cars k).1.set k { a with ca:=bestI G.c (asgN G.c G.waits G.cars k).2 a },(asgN G.c G.waits G.cars k).2):=by
     rw [hs]; unfold asgStep; rw [ha]; simp only [hca,if_true]; unfold giveC; rw [if_neg hb0]
    repeat' (first | refine gs_ ?_|((conv=>whnf); first | intro b | refine bto ?_|refine bfo ?_|refine wr_i ?_|refine b3_ (fun h=>?_) (fun h=>?_)|refine opir ⟨tab_ok⟩ 1 (by rfl) (by rfl) (by rfl) (by rfl) (by rfl) (by rfl) (by rfl) ⟨⟨by omega,by omega⟩,by show 0+k*4=_; simp⟩ ?_|refine callH (f:=214) (.i .i64 (bestI G.c (asgN G.c G.waits G.cars k).2 a)) (fun w hH=>by have:=bestT G.c a.fl a.wy lo _ _ c1 _ w (hH.obj (carsO lo _ _ c1 (asgN G.c G.waits G.cars k).2 true) (List.mem_cons_self ..)) (hn k).2 (by omega) hka.1 (fun x hx=>inL_of ((ho k).2 x hx)); rw [← bestI_eq (hn k).2] at this; exact this) ?_|refine callH (f:=146) (.i .i64 1) (fun w hH=>change0 q G A1 _ c1 _ _ _ w (hH.row 0 _ rfl rfl) (.inl (by omega))) ?_|refine back ⟨k+1,by omega⟩ (wk_close 1 (waitsO lo (some ⟨g,0,none⟩) G.waits.length c2 (asgN G.c G.waits G.cars (k+1)).1 true) 1 ?_ (fun w' hB=>?_) (by rfl) (by rfl) (by rfl) (by rfl) (by rfl) (by show [carsO lo _ G.cars.length c1 (asgN G.c G.waits G.cars (k+1)).2 true,_]=_; rw [he]; rfl)) ?_|refine fin_s ?_))
    all_goals first | (show G.waits.length - (k+1) < G.waits.length - k; omega)|skip
    all_goals first
     | (show WaitsAt _ _ _ _ _ _; rw [he]; exact p.2.2 _ _ hB)
     | (repeat' (first | exact trivial | rfl | ((conv=>whnf); refine And.intro ?_ ?_)))
  ·have he:asgN G.c G.waits G.cars (k+1)=asgN G.c G.waits G.cars k:=by
    rw [hs]; unfold asgStep; rw [ha]; simp only [hca,if_false]
   repeat' (first | refine gs_ ?_|((conv=>whnf); first | intro b | refine bto ?_|refine bfo ?_|refine wr_i ?_|refine opir ⟨tab_ok⟩ 1 (by rfl) (by rfl) (by rfl) (by rfl) (by rfl) (by rfl) (by rfl) ⟨⟨by omega,by omega⟩,by show 0+k*4=_; simp⟩ ?_|refine back ⟨k+1,by omega⟩ (wk_close 1 (waitsO lo (some ⟨g,0,none⟩) G.waits.length c2 (asgN G.c G.waits G.cars (k+1)).1 true) 1 ?_ (fun w' hB=>?_) (by rfl) (by rfl) (by rfl) (by rfl) (by rfl) (by show [carsO lo _ G.cars.length c1 (asgN G.c G.waits G.cars (k+1)).2 true,_]=_; rw [he]; rfl)) ?_|refine fin_s ?_))
   all_goals first | (show G.waits.length - (k+1) < G.waits.length - k; omega)|skip
   all_goals first
    | (show WaitsAt _ _ _ _ _ _; rw [he]; have q0:=p.2.2 a _ hB; rwa [set_same ha] at q0)
    | (repeat' (first | exact trivial | rfl | ((conv=>whnf); refine And.intro ?_ ?_)))
 ·refine sm_run ⟨tab_ok⟩ ?_
  repeat' (first | refine gs_ ?_|((conv=>whnf); first | intro b | refine bto ?_|refine bfo ?_|refine wr_i ?_|refine b3_ (fun h=>?_) (fun h=>?_)|refine fin fun w' hH=>⟨rfl, ?_, ?_,hH.upd⟩|refine fin_s ?_))
  all_goals obtain rfl:k=G.waits.length:=by omega
  ·exact hH.obj _ (List.mem_cons_self ..)
  ·exact hH.obj (waitsO lo A2 G.waits.length c2 _ true) (List.mem_cons_of_mem _ (List.mem_cons_self ..))
end Gr
namespace Gr
open Go.RowKit Ba Mem En Mo Go.Proofs.YtepfmfalebmcnaaGreatDoor.Ty Go.Proofs.YtepfmfalebmcnaaGreatDoor.St
open Ct (cfgA carA tkV tkF tkW tkS tickT)
open Et (carsO inL)
open Tm (cl)
open Tw (addT)
set_option maxRecDepth 100000
attribute [local irreducible] Go.Calls
abbrev cPS (lo g n c k:Nat) (ls:List CarV):={x:List Value×List Value // x.1.length=0+k*15∧∀ y w',Blk w' g 124 (el x.1 (carA y) x.2)→CarsAt lo (some ⟨g,0,none⟩) n c (ls.set k y) w'}
theorem car_open {lo g n c k:Nat} {ls:List CarV} {w:World} {x:CarV} (h:CarsAt lo (some ⟨g,0,none⟩) n c ls w) (hx:ls[k]?=some x):∃ p:cPS lo g n c k ls,g∈blkOf (some ⟨g,0,none⟩)∧p.1.1.length=0+k*15∧Blk w g 124 (el p.1.1 (carA x) p.1.2):=by
 obtain ⟨hi,rfl⟩:=List.getElem?_eq_some_iff.1 hx
 obtain ⟨P,S,hP,hB,hb⟩:=own_el carL_len h hi
 exact ⟨⟨(P,S),hP,fun y w' hB'=>hb y w' hB'⟩,by simp [blkOf],hP,hB⟩
theorem waits_cap {lo g n c:Nat} {ls:List WaitV} {w:World} (h:WaitsAt lo (some ⟨g,0,none⟩) n c ls w):n≤c:=by
 rcases h.2 with ⟨hv,_⟩ | ⟨_,_,_,hv,_,_,hc,_⟩
 ·simp at hv
 ·simp at hv; omega
theorem tk_okc {c:CfgV} {cs:List CarV} {ws:List WaitV} {k:Nat} {x:CarV} (h:∀ x∈cs,okT x) (hx:(tkN c cs ws k).1[k]?=some x):okT x:=by
 rw [tk_at c cs ws k k (Nat.le_refl _)] at hx
 exact h x (List.mem_of_getElem? hx)
attribute [local irreducible] atP oI tkS tkV tkF tkW bestI
def nowV (n:Int):Int:=cl (cl n+cl 1)
attribute [local irreducible] cl
def GrV.adv (G:GrV):GrV:=⟨G.c,G.cars,G.waits,nowV G.now⟩
set_option maxHeartbeats 4000000 in
theorem tickGT {lo q:Nat} {G:GrV} {S:List Nat} {w:World} (hg:GO lo q G S w) (hl1:G.cars.length≤10000) (hl2:G.waits.length≤10000) (hk1:∀ x∈G.cars,okT x) (hk2:∀ a∈G.waits,okW a) :
  Calls Tryz.prog 120 #[.pointer (some ⟨q,0,none⟩)] w fun e w'=>∃ A' c',e=.returned (.slice A' (tickP G).2.2.length c')∧WaitsAt w.heap.size A' (tickP G).2.2.length c' (tickP G).2.2 w'∧GO lo q (tickG G) S w'∧Upd S w w':=by
 obtain ⟨A1,c1,A2,c2,h0,hS,hH⟩:=hold_go (n:=_) hg
 have hd:∀ w1,CarsAt lo A1 G.cars.length c1 (asgN G.c G.waits G.cars G.waits.length).2 w1→WaitsAt lo A2 G.waits.length c2 (asgN G.c G.waits G.cars G.waits.length).1 w1→∀ g∈blkOf A1,g∉blkOf A2:=fun w1 O1 O2 g hg hg2=>by
  rcases own_at O1 with ⟨h,_⟩ | ⟨g1,cur,h,_,B1,_⟩
  ·subst h; cases hg
  ·subst h
   have:g=g1:=by simpa [blkOf] using hg
   subst this
   exact own_ne_ty O2 B1 (by decide) hg2
 have hd0:∀ w1,CarsAt lo A1 G.cars.length c1 G.cars w1→WaitsAt lo A2 G.waits.length c2 G.waits w1→∀ g∈blkOf A1,g∉blkOf A2:=fun w1 O1 O2 g hg hg2=>by
  rcases own_at O1 with ⟨h,_⟩ | ⟨g1,cur,h,_,B1,_⟩
  ·subst h; cases hg
  ·subst h
   have:g=g1:=by simpa [blkOf] using hg
   subst this
   exact own_ne_ty O2 B1 (by decide) hg2
 have hkc:=(asg_ok (c:=G.c) hk2 hk1 G.waits.length).2
 obtain ⟨hn1,hn2⟩:=asg_len G.c G.waits G.cars G.waits.length
 refine entH tab_ok (Hold.addObj (hold_pair hH rfl rfl) (waitsO w.heap.size none 0 0 [] true) (World.ownsRow_nil _ _ _ _) (by intro _ g hg; cases hg) (by intro r _ _ hg; cases hg) (by intro A hA _ g hg hg2; cases hg2)) [.p 0 0] Tryz.func120 Tryz.ntmps120 rfl rfl ?_
 repeat' (first | refine gs_ ?_|((conv=>whnf); first | intro b | refine callS (f:=127) (.i .i64 (nowV _)) (addT _ 1) ?_|refine callO (f:=170) 0 (A:=pairO (carsO lo A1 G.cars.length c1 G.cars true) (waitsO lo A2 G.waits.length c2 G.waits true)) (fun _:Unit=>.t []) (fun _=>pairO (carsO lo A1 G.cars.length c1 (asgN G.c G.waits G.cars G.waits.length).2 true) (waitsO lo A2 G.waits.length c2 (asgN G.c G.waits G.cars G.waits.length).1 true)) (fun w hH hA=>(assignT lo q { G with now:=nowV G.now } A1 A2 c1 c2 w (hH.row 0 _ rfl rfl) hA (hd0 _ hA.1 hA.2) hl1 hl2 hk1 hk2).mono (by rintro e w' ⟨rfl,h1,h2,h3⟩; exact ⟨(),rfl,⟨h1,h2⟩,h3,fun _ h=>.inl h⟩)) (fun _=>?_)|refine fin_s ?_))
 conv=>whnf
 generalize hcs:(asgN G.c G.waits G.cars G.waits.length).2=cs at *
 generalize hws:(asgN G.c G.waits G.cars G.waits.length).1=ws at *
 have hpl:∀ k,(tkN G.c cs ws k).1.length=G.cars.length:=fun k=>by rw [tk_len,hn2]
 have hwl:∀ k,(tkN G.c cs ws k).2.1.length≤G.waits.length∧(tkN G.c cs ws k).2.2.length≤k:=fun k=>by have:=tk_wl G.c cs ws k; omega
 refine sm_hold _ [carsO lo A1 G.cars.length c1 cs true,waitsO lo A2 G.waits.length c2 ws true,waitsO w.heap.size none 0 0 [] true] (by rfl) (fun w1 hH=>Hold.unpair hH rfl rfl (hd w1)) ?_
 refine lpS ⟨tab_ok⟩ (ι:={x:(Nat×Option Addr×Nat)×(List CarV×List WaitV×List WaitV) // x.1.1≤G.cars.length∧tkN G.c cs ws x.1.1=x.2}) (fun x=>match x with | ⟨((k,A3,c3),(tc,tw,ts)),_⟩=>⟨[(0,.p 0 0),(3,.v (.slice A3 ts.length c3)),(25,.i .i64 G.cars.length),(26,.i .i64 (k:Int))],[⟨q,128,true,0,[],[.i .i64 G.adv.c.ca,.i .i64 G.adv.c.fl,.i .i64 G.adv.c.ft,.i .i64 G.adv.c.se,.i .i64 G.adv.c.dr,.i .i64 G.adv.c.dw,.i .i64 G.adv.c.ho,.i .i64 G.adv.c.re,.i .i64 G.adv.c.yi,.i .i64 G.adv.c.qu,.i .i64 G.adv.c.qo,.i .i64 G.adv.c.lo,.i .i64 G.adv.c.sl,.i .i64 G.adv.c.rt,.i .i64 G.adv.c.cp,.i .i64 G.adv.c.tr,.i .i64 G.adv.c.de,.i .i64 G.adv.c.wi,.v (.slice A1 G.cars.length c1),.v (.slice A2 tw.length c2),.i .i64 G.adv.now],[],true⟩],[carsO lo A1 G.cars.length c1 tc true,waitsO lo A2 tw.length c2 tw true,waitsO w.heap.size A3 ts.length c3 ts true]⟩) (fun x=>G.cars.length - x.1.1.1) ⟨((0,none,0),(cs,ws,[])),Nat.zero_le _,rfl⟩ (wk ?_ (congrArg (fun z=>goM q G.adv A1 G.cars.length c1 A2 z c2) hn1) (by rfl) (congrArg (fun z=>[carsO lo A1 G.cars.length c1 cs true,waitsO lo A2 z c2 ws true,waitsO w.heap.size none 0 0 [] true]) hn1)) ?_
 ·repeat' (first | exact trivial | rfl | ((conv=>whnf); refine And.intro ?_ ?_))
 rintro ⟨⟨⟨k,A3,c3⟩,⟨tc,tw,ts⟩⟩,hk,hT⟩
 have hk:k≤G.cars.length:=hk
 have hT:tkN G.c cs ws k=(tc,tw,ts):=hT
 have l1:tc.length=G.cars.length:=by have:=hpl k; rw [hT] at this; exact this
 have l2:tw.length≤G.waits.length∧ts.length≤k:=by have:=hwl k; rw [hT] at this; exact this
 by_cases hlt:k < G.cars.length
 ·obtain ⟨g,rfl⟩:=own_addr (hH.obj (carsO lo A1 _ c1 _ true) (List.mem_cons_self ..)) (by omega)
  obtain ⟨x,hx⟩:∃ x,tc[k]?=some x:=⟨_,List.getElem?_eq_getElem (by omega)⟩
  have hkx:okT x:=tk_okc (ws:=ws) (c:=G.c) (k:=k) hkc (by rw [hT]; exact hx)
  have hs:tkN G.c cs ws (k+1)=tkStep G.c (tc,tw,ts) k:=by rw [← hT]; rfl
  refine sm_open ⟨tab_ok⟩ (π:=cPS lo g G.cars.length c1 k tc) 0 (fun p=>⟨g,124,true,0+k*15,p.1.1,(sCar x),p.1.2,true⟩) (by rfl) (by rfl) (fun w hw=>car_open hw hx) (fun p=>rfl) (fun p=>?_)
  by_cases hin:tkS x=true∧(atP tw (isW (tkF x) (tkW x))).isSome=true
  ·obtain ⟨hSv,hat⟩:=hin
   obtain ⟨kk,hkk⟩:=Option.isSome_iff_exists.1 hat
   obtain ⟨hkl,_,_⟩:=atP_some hkk
   obtain ⟨a,ha⟩:∃ a,tw[kk]?=some a:=⟨_,List.getElem?_eq_getElem hkl⟩
   have ho:oI (atP tw (isW (tkF x) (tkW x)))=(kk:Int):=by rw [hkk,oI_some]
   have he:tkN G.c cs ws (k+1)=(tc.set k (tkV G.c x),tw.eraseIdx kk,ts++[a]):=by rw [hs]; unfold tkStep; simp only [hx,hSv,if_true,hkk,ha,Option.toList]
   have hm:tw.length=(tw.eraseIdx kk).length+1:=by rw [List.length_eraseIdx_of_lt hkl]; omega
   obtain ⟨g2,rfl⟩:=own_addr (hH.obj (waitsO lo A2 _ c2 _ true) (List.mem_cons_of_mem _ (List.mem_cons_self ..))) (by omega)
   repeat' (first | refine gs_ ?_|((conv=>whnf); first | intro b | refine bto ?_|refine bfo ?_|refine wr_i ?_|refine And.intro ?_ ?_|refine puir ⟨tab_ok⟩ 1 (by rfl) (by rfl) (by rfl) (by rfl) (by rfl) (by rfl) (by rfl) ⟨⟨by omega,by omega⟩,by show 0+k*15=_; simp⟩ ?_|refine opir ⟨tab_ok⟩ 1 (by rfl) (by rfl) (by rfl) (by rfl) (by rfl) (by rfl) (by rfl) ⟨⟨by omega,by omega⟩,by show 0+k*15=_; simp⟩ ?_|refine callS (f:=171) (.t [.a [.i .i64 (tkV G.c x).ds,.i .i64 (tkV G.c x).da,.i .i64 (tkV G.c x).un,.i .i64 (tkV G.c x).wy,.i .i64 (tkV G.c x).ti,.i .i64 (tkV G.c x).ju,.i .i64 (tkV G.c x).lo,.b (tkV G.c x).bl,.b (tkV G.c x).br,.i .i64 (tkV G.c x).mo,.i .i64 (tkV G.c x).ta,.b (tkV G.c x).ho,.i .u64 (tkV G.c x).sp,.i .u64 (tkV G.c x).su,.i .u64 (tkV G.c x).sd],.a [.i .i64 (tkF x),.i .i64 (tkW x)],.b (tkS x)]) (fun w=>tickT G.c x w hkx.1 hkx.2.1.1 hkx.2.1.2.1 hkx.2.1.2.2 hkx.2.2.1 hkx.2.2.2.1.1 hkx.2.2.2.1.2) ?_|refine callH (f:=144) (.i .i64 (kk:Int)) (fun w hH=>by have:=findT lo q { G.adv with waits:=tw } (.slice (some ⟨g,0,none⟩) G.cars.length c1) (some ⟨g2,0,none⟩) c2 (tkF x) (tkW x) w (hH.row 0 _ rfl rfl) (hH.obj (waitsO lo (some ⟨g2,0,none⟩) _ c2 tw true) (List.mem_cons_self ..)) (by show tw.length≤_; omega); change Calls _ _ _ _ (fun e w'=>e=.returned (.int .i64 (oI (atP tw (isW (tkF x) (tkW x)))))∧Since w w') at this; rw [ho] at this; exact this) ?_|refine br_t hSv ?_|refine iv_ ?_|refine opix (g:=g2) (off:=0+kk*4) [.i .i64 a.fl,.i .i64 a.wy,.i .i64 a.ca,.i .i64 a.si] (fun w hH=>wait_at (hH.obj (waitsO lo (some ⟨g2,0,none⟩) tw.length c2 tw true) (List.mem_cons_self ..)) ha) ⟨tab_ok⟩ (by rfl) (by rfl) (by show Addr.add ⟨g2,0,none⟩ (kk*4)=_; rw [Go.WideShapes.add_plain]) ?_|refine opb1 (e:=200) ⟨tab_ok⟩ [.i .i64 a.fl,.i .i64 a.wy,.i .i64 a.ca,.i .i64 a.si] (by rfl) (by rfl) ?_|refine opap 1 4 (e:=200) (lo:=w.heap.size) (size:=4) (bytes:=32) (z:=.agg #[.int .i64 0,.int .i64 0,.int .i64 0,.int .i64 0]) (A:=waitsO w.heap.size A3 ts.length c3 ts true) (vals:=rowsOf waitL ts) (cells:=waitL a) (zs:=rowsOf waitL (ts++[a])) (n2:=(ts++[a]).length) (fun A' c'=>waitsO w.heap.size A' (ts++[a]).length c' (ts++[a]) true) (by rfl) (by rfl) (by rfl) (by rfl) rfl rfl (fun w h=>h) (fun A' c' w h=>h) (fun _ _=>rfl) (by rfl) (by rfl) (by rfl) (by rfl) Tryz.underlying126 (by kernel_rfl) rfl (by decide) (by decide) (waitL_one _) (by omega) (fun w hH=>hH.upd.size) (by simp) (by rw [rowsOf_append,rowsOf_one]) (fun A' c'=>?_)|refine callO (f:=172) (A:=waitsO lo (some ⟨g2,0,none⟩) tw.length c2 tw true) 0 (fun _:Unit=>.v (.slice (some ⟨g2,0,none⟩) (tw.eraseIdx kk).length c2)) (fun _=>waitsO lo (some ⟨g2,0,none⟩) (tw.eraseIdx kk).length c2 (tw.eraseIdx kk) true) (fun w hH hA=>by have hcap:=waits_cap hA; have:=C2.deleteT lo g2 (tw.eraseIdx kk).length c2 kk tw w (by rw [← hm]; exact hA) hm (by omega) (by omega) (by omega); rw [← hm] at this; exact this.mono (by rintro e w' ⟨rfl,h1,h2⟩; exact ⟨(),rfl,h1,h2,fun _ h=>.inl h⟩)) (fun _=>?_)|refine back ⟨((k+1,A',c'),(tc.set k (tkV G.c x),tw.eraseIdx kk,ts++[a])),by show k+1≤_; omega,he⟩ (wk_close 1 (carsO lo (some ⟨g,0,none⟩) G.cars.length c1 (tc.set k (tkV G.c x)) true) 0 ?_ (fun w' hB=>p.2.2 _ _ hB) (by rfl) (by rfl) (by rfl) (by rfl) (by rfl) (by rfl)) ?_|refine br_b (fun h=>?_) (fun h=>?_)|refine fin_s ?_))
   all_goals first | (show G.cars.length - (k+1) < G.cars.length - k; omega)|skip
   all_goals (repeat' (first | exact trivial | rfl | ((conv=>whnf); refine And.intro ?_ ?_)))
  ·have he:tkN G.c cs ws (k+1)=(tc.set k (tkV G.c x),tw,ts):=by
    rw [hs]; unfold tkStep; simp only [hx]
    cases hSv:tkS x with
    | false=>rfl
    | true =>
     have:atP tw (isW (tkF x) (tkW x))=none:=by
      cases h:atP tw (isW (tkF x) (tkW x)) with
      | none=>rfl
      | some j=>exact absurd ⟨hSv,by rw [h]; rfl⟩ hin
     simp only [if_true,this]
   have hno:tkS x=true→¬ oI (atP tw (isW (tkF x) (tkW x))) ≥ 0:=fun h=>by
    cases h2:atP tw (isW (tkF x) (tkW x)) with
    | none=>rw [oI_none]; decide
    | some j=>exact absurd ⟨h,by rw [h2]; rfl⟩ hin
   repeat' (first | refine gs_ ?_|((conv=>whnf); first | intro b | refine bto ?_|refine bfo ?_|refine wr_i ?_|refine And.intro ?_ ?_|refine puir ⟨tab_ok⟩ 1 (by rfl) (by rfl) (by rfl) (by rfl) (by rfl) (by rfl) (by rfl) ⟨⟨by omega,by omega⟩,by show 0+k*15=_; simp⟩ ?_|refine opir ⟨tab_ok⟩ 1 (by rfl) (by rfl) (by rfl) (by rfl) (by rfl) (by rfl) (by rfl) ⟨⟨by omega,by omega⟩,by show 0+k*15=_; simp⟩ ?_|refine callS (f:=171) (.t [.a [.i .i64 (tkV G.c x).ds,.i .i64 (tkV G.c x).da,.i .i64 (tkV G.c x).un,.i .i64 (tkV G.c x).wy,.i .i64 (tkV G.c x).ti,.i .i64 (tkV G.c x).ju,.i .i64 (tkV G.c x).lo,.b (tkV G.c x).bl,.b (tkV G.c x).br,.i .i64 (tkV G.c x).mo,.i .i64 (tkV G.c x).ta,.b (tkV G.c x).ho,.i .u64 (tkV G.c x).sp,.i .u64 (tkV G.c x).su,.i .u64 (tkV G.c x).sd],.a [.i .i64 (tkF x),.i .i64 (tkW x)],.b (tkS x)]) (fun w=>tickT G.c x w hkx.1 hkx.2.1.1 hkx.2.1.2.1 hkx.2.1.2.2 hkx.2.2.1 hkx.2.2.2.1.1 hkx.2.2.2.1.2) ?_|refine callH (f:=144) (.i .i64 (oI (atP tw (isW (tkF x) (tkW x))))) (fun w hH=>findT lo q { G.adv with waits:=tw } _ A2 c2 (tkF x) (tkW x) w (hH.row 0 _ rfl rfl) (hH.obj (waitsO lo A2 _ c2 tw true) (List.mem_cons_self ..)) (by show tw.length≤_; omega)) ?_|refine br_f (decide_eq_false (hno (by assumption))) ?_|refine back ⟨((k+1,A3,c3),(tc.set k (tkV G.c x),tw,ts)),by show k+1≤_; omega,he⟩ (wk_close 1 (carsO lo (some ⟨g,0,none⟩) G.cars.length c1 (tc.set k (tkV G.c x)) true) 0 ?_ (fun w' hB=>p.2.2 _ _ hB) (by rfl) (by rfl) (by rfl) (by rfl) (by rfl) (by rfl)) ?_|refine br_b (fun h=>?_) (fun h=>?_)|refine fin_s ?_))
   all_goals first | (show G.cars.length - (k+1) < G.cars.length - k; omega)|skip
   all_goals (repeat' (first | exact trivial | rfl | ((conv=>whnf); refine And.intro ?_ ?_)))
 ·obtain rfl:k=G.cars.length:=by omega
  have hTP:tickP G=(tc,tw,ts):=by unfold tickP; rw [hcs,hws]; exact hT
  refine sm_run ⟨tab_ok⟩ ?_
  repeat' (first | refine gs_ ?_|((conv=>whnf); first | intro b | refine bto ?_|refine bfo ?_|refine wr_i ?_|refine fin fun w' hH=>?_|refine fin_s ?_))
  rw [hTP]
  refine ⟨A3,c3,rfl,hH.obj (waitsO w.heap.size A3 ts.length c3 ts true) (List.mem_cons_of_mem _ (List.mem_cons_of_mem _ (List.mem_cons_self ..))),⟨h0,A1,c1,A2,c2,hS, ?_, ?_, ?_⟩,hH.upd⟩
  ·have:=hH.row 0 _ rfl rfl
   rw [rowA_nil rfl rfl] at this
   show Blk w' q _ (grpA (tickG G) (.slice A1 (tickP G).1.length c1) (.slice A2 (tickP G).2.1.length c2))
   rw [hTP]
   show Blk w' q _ (grpA (tickG G) (.slice A1 tc.length c1) _)
   rw [l1]
   exact this
  ·have:=hH.obj _ (List.mem_cons_self ..)
   show CarsAt lo A1 (tickP G).1.length c1 (tickP G).1 w'
   rw [hTP]
   show CarsAt lo A1 tc.length c1 tc w'
   rw [l1]
   exact this
  ·have:=hH.obj (waitsO lo A2 tw.length c2 tw true) (List.mem_cons_of_mem _ (List.mem_cons_self ..))
   show WaitsAt lo A2 (tickP G).2.1.length c2 (tickP G).2.1 w'
   rw [hTP]
   exact this
end Gr
end Go.Proofs.YtepfmfalebmcnaaGreatDoor
