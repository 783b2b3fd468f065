/-
  Wanted: part 13.
  No condition.
-/
import Derived.Test.YtepfmfalebmcnaaGreatDoorQH12
import Derived.Test.YtepfmfalebmcnaaGreatDoorQH8
set_option linter.all false
namespace Go.Proofs.YtepfmfalebmcnaaGreatDoor
namespace Lc
open Go.RowKit Ba Mem En Go.Proofs.YtepfmfalebmcnaaGreatDoor.Ty Mo Go.Proofs.YtepfmfalebmcnaaGreatDoor.St Co
open Ri (MsgV msgC)
open Gr (loadR loadG hallR hallG pressR pressG curtR curtG faultR faultG GI doR fltX disW one fault_in)
open Fl (leaE)
set_option maxRecDepth 100000
attribute [local irreducible] Go.Calls
def gdo (G:Gr.GrV) (o:KopV):Gr.GrV:=if 4≤o.k∧o.k≤8 then (doR G (o.k - 3) o.a o.b (o.b == 1)).1 else G
def doK (K:KV) (o:KopV):KV:=if o.k=1 then ansK K o.q else if o.k=2 then hearK K o.q.se o.m else if o.k=3 then goneK K o.q.se else if o.k=10 then obK K else { K with G:=gdo K.G o }
theorem doR_w (G:Gr.GrV) (k a b:Int) (y:Bool) (hk:1≤k∧k≤5):(doR G k a b y).1.now=G.now∧(doR G k a b y).1.c=G.c∧∀ z∈(doR G k a b y).1.waits,z.si=G.now∨∃ u∈G.waits,z.si=u.si:=by
 have id':∀ z∈G.waits,z.si=G.now∨∃ u∈G.waits,z.si=u.si:=fun z hz=>.inr ⟨z,hz,rfl⟩
 have on:∀ (f:CarV→CarV×Int),(one G a f).1.now=G.now∧(one G a f).1.c=G.c∧∀ z∈(one G a f).1.waits,z.si=G.now∨∃ u∈G.waits,z.si=u.si:=fun f =>
  ⟨(Gr.one_w _ _).2.1,one_c _ _ _,by rw [(Gr.one_w _ _).1]; exact id'⟩
 unfold doR
 split
 ·unfold Gr.hallR; split
  ·split
   ·refine ⟨rfl,rfl,fun z hz=>?_⟩
    rcases List.mem_append.1 hz with h | h
    ·exact id' z h
    ·rw [List.mem_singleton] at h; subst h; exact .inl rfl
   ·exact ⟨rfl,rfl,id'⟩
  ·exact ⟨rfl,rfl,id'⟩
 split
 ·unfold Gr.pressR; split
  ·exact on _
  ·exact ⟨rfl,rfl,id'⟩
 split
 ·exact on _
 split
 ·exact on _
 split
 ·unfold Gr.faultR; split
  ·split
   ·refine ⟨(on _).1,(on _).2.1,fun z hz=>?_⟩
    obtain ⟨u,hu,rfl⟩:=List.mem_map.1 hz
    refine .inr ⟨u,hu, ?_⟩
    unfold disW; split <;> rfl
   ·exact ⟨rfl,rfl,id'⟩
  ·exact on _
 omega
theorem gdo_w (G:Gr.GrV) (o:KopV):(gdo G o).now=G.now∧(gdo G o).c=G.c∧∀ z∈(gdo G o).waits,z.si=G.now∨∃ u∈G.waits,z.si=u.si:=by
 unfold gdo; split
 ·exact doR_w _ _ _ _ _ (by omega)
 ·exact ⟨rfl,rfl,fun z hz=>.inr ⟨z,hz,rfl⟩⟩
section
variable {c:CfgV} {n T m:Nat} {K:KV}
theorem KI.gdo (h:KI c n T m K) (o:KopV):KI c (n+1) T m { K with G:=gdo K.G o }:=by
 obtain ⟨e1,e2,e3⟩:=gdo_w K.G o
 refine ⟨?_,fun z hz=>?_,by show 0≤(Lc.gdo K.G o).now∧_; rw [e1]; exact h.now,h.lq,h.okq,h.ll,h.okl⟩
 ·show GI c (n+1) T (Lc.gdo K.G o)
  unfold Lc.gdo; split
  ·exact h.g.do_ _ _ _ _
  ·exact h.g.more (Nat.le_succ n)
 ·rcases e3 z hz with e | ⟨u,hu,e⟩
  ·rw [e]; exact h.now
  ·rw [e]; exact h.s u hu
theorem KI.do_ (h:KI c n T m K) (o:KopV):KI c (n+1) T m (doK K o):=by
 have up:∀ {K':KV},KI c n T m K'→KI c (n+1) T m K':=fun h=>h.more (Nat.le_succ n) (Nat.le_refl _) (Nat.le_refl _)
 unfold doK
 split
 ·exact up (h.ans _)
 split
 ·exact up (h.hear _ _)
 split
 ·exact up (h.gone _)
 split
 ·exact up (KI.ob h _)
 ·exact KI.gdo h o
end
section
variable {lo q:Nat} {p:Pt} {K:KV} {S:List Nat} {w:World} {c:CfgV} {n T m:Nat}
theorem hallW (h:KW lo q p K S w) (hl:K.G.waits.length≤10000) (a b:Int):Calls Tryz.prog 102 #[.pointer (some ⟨p.g,0,none⟩),.int .i64 a,.int .i64 b] w fun e w'=>∃ S',e=.returned (.int .i64 (hallR K.G a b).2)∧KW lo q p { K with G:=(doR K.G 1 a b (b == 1)).1 } S' w'∧Upd S w w'∧∀ g∈S',g∈S∨w.heap.size≤g :=
 KW.grp h (doR_w K.G 1 a b (b == 1) (by decide)).2.1 (fun S1 hq=>hallG hq hl a b)
theorem pressW (h:KW lo q p K S w) (a b:Int):Calls Tryz.prog 103 #[.pointer (some ⟨p.g,0,none⟩),.int .i64 a,.int .i64 b] w fun e w'=>∃ S',e=.returned (.int .i64 (pressR K.G a b).2)∧KW lo q p { K with G:=(doR K.G 2 a b (b == 1)).1 } S' w'∧Upd S w w'∧∀ g∈S',g∈S∨w.heap.size≤g :=
 KW.grp h (doR_w K.G 2 a b (b == 1) (by decide)).2.1 (fun S1 hq=>pressG hq a b)
theorem loadW2 (h:KW lo q p K S w) (a b:Int):Calls Tryz.prog 104 #[.pointer (some ⟨p.g,0,none⟩),.int .i64 a,.int .i64 b] w fun e w'=>∃ S',e=.returned (.int .i64 (loadR K.G a b).2)∧KW lo q p { K with G:=(doR K.G 3 a b (b == 1)).1 } S' w'∧Upd S w w'∧∀ g∈S',g∈S∨w.heap.size≤g :=
 KW.grp h (doR_w K.G 3 a b (b == 1) (by decide)).2.1 (fun S1 hq=>loadG hq a b)
theorem curtW (h:KW lo q p K S w) (a b:Int):Calls Tryz.prog 105 #[.pointer (some ⟨p.g,0,none⟩),.int .i64 a,.bool (b == 1)] w fun e w'=>∃ S',e=.returned (.int .i64 (curtR K.G a (b == 1)).2)∧KW lo q p { K with G:=(doR K.G 4 a b (b == 1)).1 } S' w'∧Upd S w w'∧∀ g∈S',g∈S∨w.heap.size≤g :=
 KW.grp h (doR_w K.G 4 a b (b == 1) (by decide)).2.1 (fun S1 hq=>curtG hq a (b == 1))
theorem faultW (h:KW lo q p K S w) (hl:K.G.waits.length≤1000000) (a b:Int):Calls Tryz.prog 106 #[.pointer (some ⟨p.g,0,none⟩),.int .i64 a,.bool (b == 1)] w fun e w'=>∃ S',e=.returned (.int .i64 (faultR K.G a (b == 1)).2)∧KW lo q p { K with G:=(doR K.G 5 a b (b == 1)).1 } S' w'∧Upd S w w'∧∀ g∈S',g∈S∨w.heap.size≤g :=
 KW.grp h (doR_w K.G 5 a b (b == 1) (by decide)).2.1 (fun S1 hq=>faultG hq hl a (b == 1))
theorem own_rebase {α:Type} {E:Ek α} {lo lo' n c:Nat} {A:Option Addr} {ls:List α} {w:World} (h:E.At lo A n c ls w) (hb:∀ g∈blkOf A,lo'≤g):E.At lo' A n c ls w:=by
 refine ⟨h.1, ?_⟩
 rcases h.2 with h2 | ⟨g,cap,cur,hv,hbg,rest⟩
 ·exact .inl h2
 ·have hv':=hv
  simp at hv'
  exact .inr ⟨g,cap,cur,hv,hb g (by rw [hv'.1]; simp [blkOf]),rest⟩
attribute [local irreducible] ansK ansM hearK hearM goneK obK doR Gr.hallR pressR loadR curtR faultR evs
end
end Lc
namespace Gw
open Go.RowKit Ba Mem En Go.Proofs.YtepfmfalebmcnaaGreatDoor.Ty Mp
open Ri (MsgV)
open Mg (PktV pktC)
open Co (KV Pt KW Nr evE EvV evs ansK ansM hearK hearM askK hearW inC Hold.ob)
set_option maxRecDepth 100000
attribute [local irreducible] Go.Calls
def sesN (c:CfgV):Int:=if 64 < (if 1 > c.se then 1 else c.se) then 64 else if 1 > c.se then 1 else c.se
theorem ses_bd (c:CfgV):1≤sesN c∧sesN c≤64:=by unfold sesN; (repeat' split) <;> omega
def helB (c:CfgV) (p:PktV):Bool:=p.has && (p.ki == 1 && (p.ep == 0 && (p.sq == 0 && decide (p.se < sesN c))))
section
variable {lo gq M:Nat} {c:CfgV} {x:Gp} {ep i:Int} {K:KV} {Sk:List Nat} {D:Fam} {w:World}
theorem helT (hb:Blk w gq 96 (gwA c x ep)) (p:PktV):Calls Tryz.prog 139 #[.pointer (some ⟨gq,0,none⟩),.agg (pktC p)] w fun e w'=>e=.returned (.bool (helB c p))∧Since w w':=by
 unfold helB
 cases hh:p.has with
 | false =>
  have hp:pktC p=#[.int .i64 p.se,.int .i64 p.ep,.int .i64 p.sq,.int .i64 p.ak,.bool false,.int .i64 p.ki,.int .i64 p.a,.int .i64 p.b,.int .i64 p.c]:=by unfold pktC; rw [hh]
  rw [hp]
  refine entH tab_ok (hold_q (S:=[]) (gwS c x ep) hb) [.p 0 0,.a [.i .i64 p.se,.i .i64 p.ep,.i .i64 p.sq,.i .i64 p.ak,.b false,.i .i64 p.ki,.i .i64 p.a,.i .i64 p.b,.i .i64 p.c]] Tryz.func139 Tryz.ntmps139 rfl rfl ?_
  repeat' (first | refine gs_ ?_|((conv=>whnf); first | intro b | refine fin_s ?_))
  all_goals rfl
 | true =>
  have hp:pktC p=#[.int .i64 p.se,.int .i64 p.ep,.int .i64 p.sq,.int .i64 p.ak,.bool true,.int .i64 p.ki,.int .i64 p.a,.int .i64 p.b,.int .i64 p.c]:=by unfold pktC; rw [hh]
  rw [hp]
  by_cases h1:p.ki=1
  case neg =>
   refine entH tab_ok (hold_q (S:=[]) (gwS c x ep) hb) [.p 0 0,.a [.i .i64 p.se,.i .i64 p.ep,.i .i64 p.sq,.i .i64 p.ak,.b true,.i .i64 p.ki,.i .i64 p.a,.i .i64 p.b,.i .i64 p.c]] Tryz.func139 Tryz.ntmps139 rfl rfl ?_
   repeat' (first | refine gs_ ?_|((conv=>whnf); first | intro b | refine fin_s ?_))
   all_goals (simp [den,h1])
  by_cases h2:p.ep=0
  case neg =>
   refine entH tab_ok (hold_q (S:=[]) (gwS c x ep) hb) [.p 0 0,.a [.i .i64 p.se,.i .i64 p.ep,.i .i64 p.sq,.i .i64 p.ak,.b true,.i .i64 p.ki,.i .i64 p.a,.i .i64 p.b,.i .i64 p.c]] Tryz.func139 Tryz.ntmps139 rfl rfl ?_
   repeat' (first | refine gs_ ?_|((conv=>whnf); first | intro b | refine fin_s ?_))
   all_goals (simp [den,h2])
  by_cases h3:p.sq=0
  case neg =>
   refine entH tab_ok (hold_q (S:=[]) (gwS c x ep) hb) [.p 0 0,.a [.i .i64 p.se,.i .i64 p.ep,.i .i64 p.sq,.i .i64 p.ak,.b true,.i .i64 p.ki,.i .i64 p.a,.i .i64 p.b,.i .i64 p.c]] Tryz.func139 Tryz.ntmps139 rfl rfl ?_
   repeat' (first | refine gs_ ?_|((conv=>whnf); first | intro b | refine fin_s ?_))
   all_goals (simp [den,h3])
  refine entH tab_ok (hold_q (S:=[]) (gwS c x ep) hb) [.p 0 0,.a [.i .i64 p.se,.i .i64 p.ep,.i .i64 p.sq,.i .i64 p.ak,.b true,.i .i64 p.ki,.i .i64 p.a,.i .i64 p.b,.i .i64 p.c]] Tryz.func139 Tryz.ntmps139 rfl rfl ?_
  repeat' (first | refine gs_ ?_|((conv=>whnf); first | intro b | refine fin_s ?_))
  all_goals (simp [den,h1,h2,h3]; try rfl)
def saidK (K:KV) (n f:Int) (m:MsgV):KV:=if m.ki=3 then ansK K ⟨n,f,m.a,m.b,m.c⟩ else if m.ki=9∨m.ki=13∨m.ki=15 then hearK K n m else K
def saidE (K:KV) (n f:Int) (m:MsgV):List EvV:=if m.ki=3 then evs n [ansM K ⟨n,f,m.a,m.b,m.c⟩] else if m.ki=9∨m.ki=13∨m.ki=15 then evs n (hearM K n m) else []
theorem evs_len (n:Int) (ms:List MsgV):(evs n ms).length=ms.length:=by simp [evs]
theorem saidT (hb:Blk w gq 96 (gwA c x ep)) (h:KG lo x.q x.p x.mb M K Sk D w) (hg:gq∉kgF x.mb Sk D) (hq:K.Q.length≤1000) (hl:K.L.length≤10000) (h0:K.G.cars.length≤10000) (n f:Int) (m:MsgV) (hin:Le.hasL K.L n=true→inC K (Le.ofL K.L n)) :
  Calls Tryz.prog 142 #[.pointer (some ⟨gq,0,none⟩),.int .i64 n,.int .i64 f,.agg #[.int .i64 m.ki,.int .i64 m.a,.int .i64 m.b,.int .i64 m.c]] w fun e w'=>∃ y:List Nat×Nr,e=.returned (.slice y.2.2.1 (saidE K n f m).length y.2.2.2)∧KG lo x.q x.p x.mb M (saidK K n f m) y.1 D w'∧(rwO evE y.2.1 y.2.2.1 (saidE K n f m).length y.2.2.2 (saidE K n f m) true).st w'∧Upd (kgF x.mb Sk D) w w'∧(∀ g∈kgF x.mb y.1 D,g∈kgF x.mb Sk D∨w.heap.size≤g)∧∀ g∈blkOf y.2.2.1,w.heap.size≤g∧g∉kgF x.mb y.1 D:=by
 by_cases k3:m.ki=3
 ·have e1:saidK K n f m=ansK K ⟨n,f,m.a,m.b,m.c⟩:=if_pos k3
  have e2:saidE K n f m=evs n [ansM K ⟨n,f,m.a,m.b,m.c⟩]:=if_pos k3
  rw [e1,e2]
  refine entH tab_ok (hold_g hb h hg) [.p 0 0,.i .i64 n,.i .i64 f,.a [.i .i64 m.ki,.i .i64 m.a,.i .i64 m.b,.i .i64 m.c]] Tryz.func142 Tryz.ntmps142 rfl rfl ?_
  repeat' (first | refine gs_ ?_|((conv=>whnf); first | intro b | refine callON (f:=44) (A:=kgO lo x.q x.p x.mb M K Sk D true) 0 (fun y:List Nat×Nr=>.v (.slice y.2.2.1 1 y.2.2.2)) (fun y=>kgO lo x.q x.p x.mb M (ansK K ⟨n,f,m.a,m.b,m.c⟩) y.1 D true) (fun y=>rwO evE w.heap.size y.2.2.1 1 y.2.2.2 (evs n [ansM K ⟨n,f,m.a,m.b,m.c⟩]) true) (fun w1 hH hA=>(KG.coreE hA (fun hk=>askK hk hq hl ⟨n,f,m.a,m.b,m.c⟩)).mono (by rintro e w' ⟨y,rfl,h1,h2,h3,h4,h5⟩; exact ⟨y,rfl,h1,Lc.own_rebase h2 (fun g hg=>Nat.le_trans hH.upd.size (h5 g hg).1),h3,h4,h5⟩)) (fun y=>?_)|refine fin fun w' hH=>⟨(y.1,w.heap.size,y.2.2),rfl,Hold.ob hH (A:=kgO lo x.q x.p x.mb M (ansK K ⟨n,f,m.a,m.b,m.c⟩) y.1 D true) 0 rfl,Hold.ob hH (A:=rwO evE w.heap.size y.2.2.1 1 y.2.2.2 (evs n [ansM K ⟨n,f,m.a,m.b,m.c⟩]) true) 1 rfl,hH.upd,fun g hg=>hH.own _ (List.mem_of_getElem? (i:=0) rfl) rfl g hg,fun g hg=>⟨Ek.lows (Hold.ob hH (A:=rwO evE w.heap.size y.2.2.1 1 y.2.2.2 (evs n [ansM K ⟨n,f,m.a,m.b,m.c⟩]) true) 1 rfl) g hg,fun hgk=>(pair_at (R:=DisR) (fun _ _ h=>h.symm) hH.dis (i:=0) (j:=1) rfl rfl (by decide) (.inl rfl)) g hgk hg⟩⟩|refine fin_s ?_))
 ·by_cases kh:m.ki=9∨m.ki=13∨m.ki=15
  ·have e1:saidK K n f m=hearK K n m:=(if_neg k3).trans (if_pos kh)
   have e2:saidE K n f m=evs n (hearM K n m):=(if_neg k3).trans (if_pos kh)
   rw [e1,e2,evs_len]
   by_cases k9:m.ki=9
   ·refine entH tab_ok (hold_g hb h hg) [.p 0 0,.i .i64 n,.i .i64 f,.a [.i .i64 m.ki,.i .i64 m.a,.i .i64 m.b,.i .i64 m.c]] Tryz.func142 Tryz.ntmps142 rfl rfl ?_
    repeat' (first | refine gs_ ?_|((conv=>whnf); first | intro b | refine callON (f:=201) (A:=kgO lo x.q x.p x.mb M K Sk D true) 0 (fun y:List Nat×Nr=>.v (.slice y.2.2.1 (hearM K n m).length y.2.2.2)) (fun y=>kgO lo x.q x.p x.mb M (hearK K n m) y.1 D true) (fun y=>rwO evE w.heap.size y.2.2.1 (hearM K n m).length y.2.2.2 (evs n (hearM K n m)) true) (fun w1 hH hA=>(KG.coreE hA (fun hk=>hearW hk h0 hl n m hin)).mono (by rintro e w' ⟨y,rfl,h1,h2,h3,h4,h5⟩; exact ⟨y,rfl,h1,Lc.own_rebase h2 (fun g hg=>Nat.le_trans hH.upd.size (h5 g hg).1),h3,h4,h5⟩)) (fun y=>?_)|refine fin fun w' hH=>⟨(y.1,w.heap.size,y.2.2),rfl,Hold.ob hH (A:=kgO lo x.q x.p x.mb M (hearK K n m) y.1 D true) 0 rfl,Hold.ob hH (A:=rwO evE w.heap.size y.2.2.1 (hearM K n m).length y.2.2.2 (evs n (hearM K n m)) true) 1 rfl,hH.upd,fun g hg=>hH.own _ (List.mem_of_getElem? (i:=0) rfl) rfl g hg,fun g hg=>⟨Ek.lows (Hold.ob hH (A:=rwO evE w.heap.size y.2.2.1 (hearM K n m).length y.2.2.2 (evs n (hearM K n m)) true) 1 rfl) g hg,fun hgk=>(pair_at (R:=DisR) (fun _ _ h=>h.symm) hH.dis (i:=0) (j:=1) rfl rfl (by decide) (.inl rfl)) g hgk hg⟩⟩|refine fin_s ?_))
   by_cases k13:m.ki=13
   ·refine entH tab_ok (hold_g hb h hg) [.p 0 0,.i .i64 n,.i .i64 f,.a [.i .i64 m.ki,.i .i64 m.a,.i .i64 m.b,.i .i64 m.c]] Tryz.func142 Tryz.ntmps142 rfl rfl ?_
    repeat' (first | refine gs_ ?_|((conv=>whnf); first | intro b | refine callON (f:=201) (A:=kgO lo x.q x.p x.mb M K Sk D true) 0 (fun y:List Nat×Nr=>.v (.slice y.2.2.1 (hearM K n m).length y.2.2.2)) (fun y=>kgO lo x.q x.p x.mb M (hearK K n m) y.1 D true) (fun y=>rwO evE w.heap.size y.2.2.1 (hearM K n m).length y.2.2.2 (evs n (hearM K n m)) true) (fun w1 hH hA=>(KG.coreE hA (fun hk=>hearW hk h0 hl n m hin)).mono (by rintro e w' ⟨y,rfl,h1,h2,h3,h4,h5⟩; exact ⟨y,rfl,h1,Lc.own_rebase h2 (fun g hg=>Nat.le_trans hH.upd.size (h5 g hg).1),h3,h4,h5⟩)) (fun y=>?_)|refine fin fun w' hH=>⟨(y.1,w.heap.size,y.2.2),rfl,Hold.ob hH (A:=kgO lo x.q x.p x.mb M (hearK K n m) y.1 D true) 0 rfl,Hold.ob hH (A:=rwO evE w.heap.size y.2.2.1 (hearM K n m).length y.2.2.2 (evs n (hearM K n m)) true) 1 rfl,hH.upd,fun g hg=>hH.own _ (List.mem_of_getElem? (i:=0) rfl) rfl g hg,fun g hg=>⟨Ek.lows (Hold.ob hH (A:=rwO evE w.heap.size y.2.2.1 (hearM K n m).length y.2.2.2 (evs n (hearM K n m)) true) 1 rfl) g hg,fun hgk=>(pair_at (R:=DisR) (fun _ _ h=>h.symm) hH.dis (i:=0) (j:=1) rfl rfl (by decide) (.inl rfl)) g hgk hg⟩⟩|refine fin_s ?_))
   have k15:m.ki=15:=by omega
   refine entH tab_ok (hold_g hb h hg) [.p 0 0,.i .i64 n,.i .i64 f,.a [.i .i64 m.ki,.i .i64 m.a,.i .i64 m.b,.i .i64 m.c]] Tryz.func142 Tryz.ntmps142 rfl rfl ?_
   repeat' (first | refine gs_ ?_|((conv=>whnf); first | intro b | refine callON (f:=201) (A:=kgO lo x.q x.p x.mb M K Sk D true) 0 (fun y:List Nat×Nr=>.v (.slice y.2.2.1 (hearM K n m).length y.2.2.2)) (fun y=>kgO lo x.q x.p x.mb M (hearK K n m) y.1 D true) (fun y=>rwO evE w.heap.size y.2.2.1 (hearM K n m).length y.2.2.2 (evs n (hearM K n m)) true) (fun w1 hH hA=>(KG.coreE hA (fun hk=>hearW hk h0 hl n m hin)).mono (by rintro e w' ⟨y,rfl,h1,h2,h3,h4,h5⟩; exact ⟨y,rfl,h1,Lc.own_rebase h2 (fun g hg=>Nat.le_trans hH.upd.size (h5 g hg).1),h3,h4,h5⟩)) (fun y=>?_)|refine fin fun w' hH=>⟨(y.1,w.heap.size,y.2.2),rfl,Hold.ob hH (A:=kgO lo x.q x.p x.mb M (hearK K n m) y.1 D true) 0 rfl,Hold.ob hH (A:=rwO evE w.heap.size y.2.2.1 (hearM K n m).length y.2.2.2 (evs n (hearM K n m)) true) 1 rfl,hH.upd,fun g hg=>hH.own _ (List.mem_of_getElem? (i:=0) rfl) rfl g hg,fun g hg=>⟨Ek.lows (Hold.ob hH (A:=rwO evE w.heap.size y.2.2.1 (hearM K n m).length y.2.2.2 (evs n (hearM K n m)) true) 1 rfl) g hg,fun hgk=>(pair_at (R:=DisR) (fun _ _ h=>h.symm) hH.dis (i:=0) (j:=1) rfl rfl (by decide) (.inl rfl)) g hgk hg⟩⟩|refine fin_s ?_))
  ·have e1:saidK K n f m=K:=(if_neg k3).trans (if_neg kh)
   have e2:saidE K n f m=[]:=(if_neg k3).trans (if_neg kh)
   rw [e1,e2]
   have k9:m.ki≠9:=by omega
   have k13:m.ki≠13:=by omega
   have k15:m.ki≠15:=by omega
   refine entH tab_ok (hold_g hb h hg) [.p 0 0,.i .i64 n,.i .i64 f,.a [.i .i64 m.ki,.i .i64 m.a,.i .i64 m.b,.i .i64 m.c]] Tryz.func142 Tryz.ntmps142 rfl rfl ?_
   repeat' (first | refine gs_ ?_|((conv=>whnf); first | intro b | refine fin fun w' hH=>⟨(Sk,w.heap.size,none,0),rfl,Hold.ob hH (A:=kgO lo x.q x.p x.mb M K Sk D true) 0 rfl,Ek.nil _ _ _,hH.upd,fun g hg=>.inl hg,fun g hg=>by cases hg⟩|refine fin_s ?_))
end
end Gw
namespace En
open Go.RowKit Ba Mem Mp
def nilO:Asr:=⟨[],true,fun _=>True,fun _ _ _=>trivial,fun _ g hg=>by cases hg⟩
def absO (A C:Asr) (g:Nat) (t:TypeId) (cells:Array Value):Asr:=⟨A.F++(C.F++[g]),true,fun w=>A.st w∧C.st w∧Blk w g t cells,fun u hd h =>
 ⟨A.up u (fun x hx=>hd x (List.mem_append.2 (.inl hx))) h.1,C.up u (fun x hx=>hd x (List.mem_append.2 (.inr (List.mem_append.2 (.inl hx))))) h.2.1,u.blk h.2.2 (hd g (List.mem_append.2 (.inr (List.mem_append.2 (.inr (List.mem_singleton.2 rfl))))))⟩,fun h x hx=>by
 rcases List.mem_append.1 hx with hx | hx
 ·exact A.lt h.1 x hx
 rcases List.mem_append.1 hx with hx | hx
 ·exact C.lt h.2.1 x hx
 ·rw [List.mem_singleton] at hx; subst hx; exact h.2.2.lt⟩
section
variable {X:Cx} {m:List Row} {ob:List Asr} {w w':World} {s:St}
theorem Ext.dead {k:Nat} {r:Row} (h:m[k]?=some r):Ext m (m.set k { r with live:=false }):=fun i q hq=>by
 by_cases e:k=i
 ·subst e; rw [h] at hq; cases hq
  exact ⟨{ r with live:=false },by rw [List.getElem?_set_self (List.getElem?_eq_some_iff.1 h).1],rfl,rfl⟩
 ·exact ⟨q,by rw [List.getElem?_set_ne e]; exact hq,rfl,rfl⟩
theorem Hold.absorb (hH:Hold X m ob w) {i j k:Nat} {A C:Asr} {r:Row} (hA:ob[i]?=some A) (hC:ob[j]?=some C) (hr:m[k]?=some r) (hij:i≠j) (hAw:A.rw=true) (hCw:C.rw=true) (hl:r.live=true) (hrw:r.rw=true) (h2:r.pre=[]) (h3:r.suf=[]) :
  Hold X (m.set k { r with live:=false }) ((ob.set i (absO A C r.g r.t (denL m r.cs).toArray)).set j nilO) w∧(∀ x∈C.F,x∉A.F)∧r.g∉A.F∧r.g∉C.F:=by
 have mA:=List.mem_of_getElem? hA
 have mC:=List.mem_of_getElem? hC
 have hE:=Ext.dead hr
 have fA:=hH.far A mA k r hr hl
 have fC:=hH.far C mC k r hr hl
 have dAC:∀ x∈C.F,x∉A.F:=pair_at (R:=DisR) (fun _ _ h=>h.symm) hH.dis hC hA (Ne.symm hij) (.inr hAw)
 have blk:Blk w r.g r.t (denL m r.cs).toArray:=by have:=hH.row k r hr hl; rwa [rowA_nil h2 h3] at this
 have live:∀ (j:Nat) (q:Row),(m.set k { r with live:=false })[j]?=some q→q.live=true→j≠k∧m[j]?=some q:=fun j q hq hql=>by
  rcases getElem?_set_or hq with ⟨rfl,rfl⟩ | ⟨hne,hq⟩
  ·cases hql
  ·exact ⟨Ne.symm hne,hq⟩
 have mem:∀ D,D∈(ob.set i (absO A C r.g r.t (denL m r.cs).toArray)).set j nilO→D=nilO∨D=absO A C r.g r.t (denL m r.cs).toArray∨∃ l,l≠i∧l≠j∧ob[l]?=some D:=fun D hD=>by
  rcases mem_set_or hD with rfl | ⟨l,hlj,hD⟩
  ·exact .inl rfl
  ·rcases getElem?_set_or hD with ⟨rfl,rfl⟩ | ⟨hli,hD⟩
   ·exact .inr (.inl rfl)
   ·exact .inr (.inr ⟨l,Ne.symm hli,hlj,hD⟩)
 refine ⟨⟨hH.upd,fun a q hq hql=>?_,fun a q hq hql=>?_,fun a b q q' ha hb hq hq' hne=>?_,fun D hD=>?_,fun D hD a q hq hql hg=>?_,fun D hD hDw g hg=>?_, ?_⟩,dAC,fA,fC⟩
 ·obtain ⟨_,hq⟩:=live a q hq hql
  rw [rowA_ext hE (hH.wf a q hq hql).1]; exact hH.row a q hq hql
 ·obtain ⟨_,hq⟩:=live a q hq hql
  rw [List.length_set]; exact hH.wf a q hq hql
 ·obtain ⟨_,ha⟩:=live a q ha hq
  obtain ⟨_,hb⟩:=live b q' hb hq'
  exact hH.ne a b q q' ha hb hq hq' hne
 ·rcases mem D hD with rfl | rfl | ⟨l,_,_,hD⟩
  ·trivial
  ·exact ⟨hH.obj A mA,hH.obj C mC,blk⟩
  ·exact hH.obj D (List.mem_of_getElem? hD)
 ·obtain ⟨hak,hq⟩:=live a q hq hql
  rcases mem D hD with rfl | rfl | ⟨l,_,_,hD⟩
  ·cases hg
  ·rcases List.mem_append.1 hg with hg | hg
   ·exact hH.far A mA a q hq hql hg
   rcases List.mem_append.1 hg with hg | hg
   ·exact hH.far C mC a q hq hql hg
   ·exact hH.ne a k q r hq hr hql hl hak (List.mem_singleton.1 hg)
  ·exact hH.far D (List.mem_of_getElem? hD) a q hq hql hg
 ·rcases mem D hD with rfl | rfl | ⟨l,_,_,hD⟩
  ·cases hg
  ·rcases List.mem_append.1 hg with hg | hg
   ·exact hH.own A mA hAw g hg
   rcases List.mem_append.1 hg with hg | hg
   ·exact hH.own C mC hCw g hg
   ·rw [List.mem_singleton.1 hg]; exact (hH.wf k r hr hl).2.2 hrw
  ·exact hH.own D (List.mem_of_getElem? hD) hDw g hg
 ·have nil:∀ D:Asr,DisR D nilO:=fun D _ g _ h=>by cases h
  have far:∀ (l:Nat) (D:Asr),l≠i→l≠j→ob[l]?=some D→DisR D (absO A C r.g r.t (denL m r.cs).toArray):=fun l D hli hlj hD _ g hg hgx=>by
   rcases List.mem_append.1 hgx with hx | hx
   ·exact pair_at (R:=DisR) (fun _ _ h=>h.symm) hH.dis hD hA hli (.inr hAw) g hg hx
   rcases List.mem_append.1 hx with hx | hx
   ·exact pair_at (R:=DisR) (fun _ _ h=>h.symm) hH.dis hD hC hlj (.inr hCw) g hg hx
   ·rw [List.mem_singleton] at hx; subst hx
    exact hH.far D (List.mem_of_getElem? hD) k r hr hl hg
  have at_:∀ (l:Nat) (D:Asr),((ob.set i (absO A C r.g r.t (denL m r.cs).toArray)).set j nilO)[l]?=some D→D=nilO∨(l=i∧D=absO A C r.g r.t (denL m r.cs).toArray)∨(l≠i∧l≠j∧ob[l]?=some D):=fun l D hD=>by
   rcases getElem?_set_or hD with ⟨rfl,rfl⟩ | ⟨hlj,hD⟩
   ·exact .inl rfl
   ·rcases getElem?_set_or hD with ⟨rfl,rfl⟩ | ⟨hli,hD⟩
    ·exact .inr (.inl ⟨rfl,rfl⟩)
    ·exact .inr (.inr ⟨Ne.symm hli,Ne.symm hlj,hD⟩)
  refine pair_of fun a b D E hne hD hE'=>?_
  rcases at_ a D hD with rfl | ⟨rfl,rfl⟩ | ⟨h1,h1',kD⟩ <;> rcases at_ b E hE' with rfl | ⟨rfl,rfl⟩ | ⟨h4,h4',kE⟩
  ·exact nil _
  ·exact (nil _).symm
  ·exact (nil _).symm
  ·exact nil _
  ·exact absurd rfl hne
  ·exact (far b E h4 h4' kE).symm
  ·exact nil _
  ·exact far a D h1 h1' kD
  ·exact pair_at (R:=DisR) (fun _ _ h=>h.symm) hH.dis kD kE hne
variable {o:Oper} {K:St→Prop} {ty kt e:TypeId} {mm x y:Operand} {b n:Nat} {mp:Int→Option Value} {I:Int}
theorem opupN (i j k:Nat) {A C:Asr} {r:Row} {u:Value} (vv:SV) (B:Asr) (ho:o.op=.mapUpdate ty mm x y) (hm:evO mm s.fr=some (.v (.map (some b)))) (hx:evO x s.fr=some (.i .i64 I)) (hy:evO y s.fr=some vv) (hA:s.ob[i]?=some A) (hC:s.ob[j]?=some C) (hr:s.m[k]?=some r) (hij:i≠j) (hAw:A.rw=true) (hCw:C.rw=true) (hl:(r.live && r.rw && r.pre.isEmpty && r.suf.isEmpty)=true)
  (hM:∀ w,A.st w→MapF X.P kt w b n mp) (hbF:b∈A.F) (hu:den s.m vv=u)
  (hB:∀ w w',A.st w→C.st w→Blk w r.g r.t (denL s.m r.cs).toArray→(∀ x∈C.F,x∉A.F)→r.g∉A.F→r.g∉C.F→MapF X.P kt w' b (n+1) (Mp.setK mp I (some u))→Upd [b] w w'→B.st w') (hF:∀ g∈B.F,g∈A.F∨g∈C.F∨g=r.g)
  (hk:X.P.underlying kt=some (.int .i64)) (ht:X.P.underlying ty=some (.map kt e)) (hw:(Lit.int .i64 I).wf=true) (hn:n < 1000000)
  (h:setR k (fun r K=>K { r with live:=false }) s.m fun m=>setO i B s.ob fun ob=>setO j nilO ob fun ob=>put X.n o.dst (.v undef) ⟨s.fr,m,ob⟩ K):OpVC X o s K:=⟨fun a w Q hR=>by
 simp only [Bool.and_eq_true,List.isEmpty_iff] at hl
 obtain ⟨⟨⟨l1,l2⟩,l3⟩,l4⟩:=hl
 have sA:=hR.h.obj A (List.mem_of_getElem? hA)
 have sC:=hR.h.obj C (List.mem_of_getElem? hC)
 obtain ⟨habs,d1,d2,d3⟩:=hR.h.absorb hA hC hr hij hAw hCw l1 l2 l3 l4
 have blk:Blk w r.g r.t (denL s.m r.cs).toArray:=by have:=hR.h.row k r hr l1; rwa [rowA_nil l3 l4] at this
 refine wp_mapput mm x y ty ho hk ht (hM w sA) hn (by rw [(evO_of hR.fr hm).2]; rfl) (by rw [(evO_of hR.fr hx).2]; rfl) hw (u:=u) (by rw [(evO_of hR.fr hy).2]; exact hu) (fun w' hmap hupd=>?_)
 have hij2:((s.ob.set i (absO A C r.g r.t (denL s.m r.cs).toArray)).set j nilO)[i]?=some (absO A C r.g r.t (denL s.m r.cs).toArray):=by
  rw [List.getElem?_set_ne (Ne.symm hij),List.getElem?_set_self (List.getElem?_eq_some_iff.1 hA).1]
 have hH:=habs.obj_set (B:=B) hij2 rfl (hB w w' sA sC blk d1 d2 d3 hmap hupd) (hupd.mono (fun g hg _=>by rw [List.mem_singleton] at hg; subst hg; exact List.mem_append.2 (.inl hbF))) (fun g hg=>by
  rcases hF g hg with hg | hg | rfl
  ·exact .inl (List.mem_append.2 (.inl hg))
  ·exact .inl (List.mem_append.2 (.inr (List.mem_append.2 (.inl hg))))
  ·exact .inl (List.mem_append.2 (.inr (List.mem_append.2 (.inr (List.mem_singleton.2 rfl))))))
 have hset:((s.ob.set i (absO A C r.g r.t (denL s.m r.cs).toArray)).set j nilO).set i B=(s.ob.set i B).set j nilO:=by
  rw [List.set_comm _ _ (Ne.symm hij),List.set_set]
 rw [hset] at hH
 obtain ⟨r',hr',hs⟩:=setR_of h
 rw [hr] at hr'; cases hr'
 obtain ⟨s',r1,r2,r3,r4⟩:=put_of (a:=a) (s:=⟨s.fr,s.m.set k { r with live:=false },(s.ob.set i B).set j nilO⟩) (v:=.v undef) hR.ds hR.sz (hR.fr.ext (Ext.dead hr)) hH rfl (setO_of (setO_of hs))
 exact ⟨s',r1,by rw [r2]; exact Ext.dead hr,r4⟩⟩
end
end En
namespace Gw
open Go.RowKit Ba Mem En Go.Proofs.YtepfmfalebmcnaaGreatDoor.Ty Mp Tm
open Ri (MsgV)
open Ln (LkV LO)
open Co (KV Pt KW Nr evE EvV goneK Hold.ob)
set_option maxRecDepth 100000
attribute [local irreducible] Go.Calls
def lkA (lo q:Nat) (k:LkV) (ls:List MsgV) (S:List Nat) (rw:Bool):Asr:=⟨S,rw,LO lo q k ls S,fun u hd h=>h.upd u hd,fun h=>h.lt⟩
theorem nx_bd (n:Int):0≤Se.nx n∧Se.nx n≤65535:=by unfold Se.nx; omega
def nxE (e:Int):Int:=if Se.nx e=0 then Se.nx (Se.nx e) else Se.nx e
def newV (c:CfgV) (i e now:Int) (h:MsgV):SeV:=⟨⟨c,i,e,0,0,0,0,false,cl now⟩,[],h,false⟩
def keepB (v:SeV) (h:MsgV):Bool:=!v.hd && (v.h.a == h.a && v.h.b == h.b)
def bornK (c:CfgV) (x:Kv) (e i:Int) (h:MsgV):Kv:=tell1 (x.1,setV x.2 i (some (newV c i e x.1.G.now h))) ⟨i,⟨2,e,0,0⟩⟩
def welK (c:CfgV) (x:Kv) (ep i:Int) (h:MsgV):Kv×Int:=match x.2 i with
 | some v=>if keepB v h=true then (x,ep) else (bornK c (endV x i) (nxE ep) i h,nxE ep)
 | none=>(bornK c x (nxE ep) i h,nxE ep)
section
variable {lo q mb M:Nat} {p:Pt} {K:KV} {Sk:List Nat} {D:Fam} {w w':World} {i:Int} {d:SeD}
theorem KG.more {M':Nat} (h:KG lo q p mb M K Sk D w) (hm:M≤M'):KG lo q p mb M' K Sk D w:=⟨h.k,⟨h.f.h0,h.f.mp.mono hm,h.f.at_,h.f.ne,h.f.far⟩,h.far⟩
theorem KG.add (h:KG lo q p mb M K Sk D w) (hi:0≤i∧i < 64) (hs:SeO lo d w) (hf:∀ g∈blS d,g∉kgF mb Sk D) (hm:MapF Tryz.prog 3 w' mb (M+1) (Mp.setK (ptrs D) i (some (.pointer (some ⟨d.b,0,none⟩))))) (u:Upd [mb] w w'):KG lo q p mb (M+1) K Sk (setD D i (some d)) w' :=
 ⟨h.k.upd u (fun g hg hgm=>h.far g hg (by rw [List.mem_singleton] at hgm; subst hgm; exact List.mem_cons_self ..)),h.f.add hi hs (fun g hg hgm=>hf g hg (List.mem_append.2 (.inr hgm))) hm u,fun g hg hgm=>by
  rcases fam_add g hgm with hgm | hgm
  ·exact h.far g hg hgm
  ·exact hf g hgm (List.mem_append.2 (.inl hg))⟩
theorem kg_add:∀ g∈kgF mb Sk (setD D i (some d)),g∈kgF mb Sk D∨g∈d.S∨g=d.b:=fun g hg=>by
 rcases List.mem_append.1 hg with hg | hg
 ·exact .inl (List.mem_append.2 (.inl hg))
 ·rcases fam_add g hg with hg | hg
  ·exact .inl (List.mem_append.2 (.inr hg))
  ·rcases List.mem_cons.1 hg with rfl | hg
   ·exact .inr (.inr rfl)
   ·exact .inr (.inl hg)
end
section
variable {gq M:Nat} {c:CfgV} {x:Gp} {ep i:Int} {K:KV} {Sk:List Nat} {D:Fam} {w:World}
theorem hold_gw {n:Nat} (hb:Blk w gq 96 (gwA c x ep)) (h:KG 0 x.q x.p x.mb M K Sk D w) (hg:gq∉kgF x.mb Sk D):Hold ⟨Tryz.prog,tab,gq::kgF x.mb Sk D,w,n,[]⟩ [⟨gq,96,true,0,[],gwS c x ep,[],true⟩] [kgO 0 x.q x.p x.mb M K Sk D true] w :=
 Hold.addObj (Hold.addRow (m:=[]) (Hold.nil _ tab _ _ w) ⟨gq,96,true,0,[],gwS c x ep,[],true⟩ hb (fun _=>.inl (List.mem_cons_self ..)) (by intro q hq; cases hq) (by intro A hA; cases hA)) (kgO 0 x.q x.p x.mb M K Sk D true) h (fun _ g hg=>.inl (List.mem_cons_of_mem _ hg)) (by intro r hr _; simp only [List.nil_append,List.mem_singleton] at hr; subst hr; exact hg) (by intro A hA; cases hA)
def WelQ (gq M:Nat) (c:CfgV) (x:Gp) (S:List Nat) (w:World) (r:Kv×Int) (e:Ending) (w':World):Prop :=
 ∃ y:List Nat×Fam,e=.returned (.tuple #[])∧Blk w' gq 96 (gwA c x r.2)∧KG 0 x.q x.p x.mb M r.1.1 y.1 y.2 w'∧vals y.2=r.1.2∧Upd (gq::S) w w'∧(∀ g∈kgF x.mb y.1 y.2,g∈gq::S∨w.heap.size≤g)∧gq∉kgF x.mb y.1 y.2
theorem bl_far {b q mb:Nat} {v:SeV} {Sk:List Nat} {D:Fam} (d1:∀ x∈[q],x∉kgF mb Sk D) (d2:b∉kgF mb Sk D):∀ g∈blS ⟨b,q,[q],v⟩,g∉kgF mb Sk D:=fun g hg=>by
 rcases List.mem_cons.1 hg with rfl | hg
 ·exact d2
 ·exact d1 g hg
theorem kg_add3 {b q mb:Nat} {v:SeV} {Sk:List Nat} {D:Fam} {g:Nat} (hg:g∈kgF mb Sk (setD D i (some ⟨b,q,[q],v⟩))):g∈kgF mb Sk D∨g∈[q]∨g=b:=kg_add g hg
set_option maxHeartbeats 4000000 in
theorem welNew {T:Int} (h:MsgV) (hd:D i=none) (hb:Blk w gq 96 (gwA c x ep)) (hk:KG 0 x.q x.p x.mb M K Sk D w) (hg:gq∉kgF x.mb Sk D) (hi:0≤i∧i < 64) (ht:TI T (K,vals D)) (hT:0≤T) (hM:M < 1000000) :
  Calls Tryz.prog 140 #[.pointer (some ⟨gq,0,none⟩),.int .i64 i,.agg #[.int .i64 h.ki,.int .i64 h.a,.int .i64 h.b,.int .i64 h.c]] w (WelQ gq (M+1) c x (kgF x.mb Sk D) w (bornK c (K,vals D) (nxE ep) i h,nxE ep)):=by
 have hp:ptrs D i=none:=by unfold ptrs; rw [hd]; rfl
 have hti:TI T (K,setV (vals D) i (some (newV c i (nxE ep) K.G.now h))):=ht.set i _ (by simp [newV]) (by simp [newV]; exact hT)
 have hbo:∀ b q,tellF (K,vals (setD D i (some ⟨b,q,[q],newV c i (nxE ep) K.G.now h⟩))) [(⟨i,⟨2,nxE ep,0,0⟩⟩:EvV)]=bornK c (K,vals D) (nxE ep) i h:=fun b q=>by rw [vals_set]; rfl
 by_cases h0:Se.nx ep=0
 ·have hep:nxE ep=Se.nx (Se.nx ep):=if_pos h0
  rw [hep] at hti hbo ⊢
  refine entH tab_ok (hold_gw hb hk hg) [.p 0 0,.i .i64 i,.a [.i .i64 h.ki,.i .i64 h.a,.i .i64 h.b,.i .i64 h.c]] Tryz.func140 Tryz.ntmps140 rfl rfl ?_
  repeat' (first | refine gs_ ?_|((conv=>whnf); first | intro b | refine bto ?_|refine bfo ?_|refine And.intro ?_ ?_|refine oplo (b:=x.mb) (n:=M) (m:=ptrs D) (k:=3) (e:=100) 0 (.pointer none) (.v (.pointer none)) false (by rfl) (by rfl) (by rfl) (by rfl) (fun w h=>kg_mp h) (by kernel_rfl) (by kernel_rfl) (fun w=>rfl) (wf_small hi) (by rw [hp]; rfl) (by rw [hp]; rfl) ?_|refine callS (f:=197) (.i .i64 (Se.nx _)) (Se.nextT _) ?_|refine callH (f:=94) (.i .i64 K.G.now) (fun w hH=>nowG (hH.row 0 _ rfl rfl) (Hold.ob hH (A:=kgO 0 x.q x.p x.mb M K Sk D true) 0 rfl) (hH.far _ (List.mem_of_getElem? (i:=0) rfl) 0 _ rfl rfl)) ?_|refine callN (f:=198) (ι:=Nat) (fun q=>.v (.pointer (some ⟨q,0,none⟩))) (fun q=>lkA 0 q ⟨c,i,Se.nx (Se.nx ep),0,0,0,0,false,cl K.G.now⟩ [] [q] true) (fun w1 hH=>(Ln.newL c i (Se.nx (Se.nx ep)) K.G.now (nx_bd _) w1).mono (by rintro e w' ⟨q,rfl,h1,h2⟩; exact ⟨q,rfl,h1.base (Nat.zero_le _),h2,h1.low⟩)) (fun q=>?_)|(refine opupN (A:=kgO 0 x.q x.p x.mb M K Sk D true) (C:=lkA 0 q ⟨c,i,Se.nx (Se.nx ep),0,0,0,0,false,cl K.G.now⟩ [] [q] true) (r:=⟨b,103,true,0,[],[.v (.pointer (some ⟨q,0,none⟩)),.i .i64 h.ki,.i .i64 h.a,.i .i64 h.b,.i .i64 h.c,.b false],[],true⟩) (u:=.pointer (some ⟨b,0,none⟩)) (b:=x.mb) (n:=M) (mp:=ptrs D) (kt:=3) (e:=100) 0 1 2 (.p 2 0) (kgO 0 x.q x.p x.mb (M+1) K Sk (setD D i (some ⟨b,q,[q],newV c i (Se.nx (Se.nx ep)) K.G.now h⟩)) true) (by rfl) (by rfl) (by rfl) (by rfl) (by rfl) (by rfl) (by rfl) (by decide) rfl rfl rfl (fun w h=>kg_mp h) (kg_mb ..) (by rfl) (fun w w' hA hC hB d1 d2 d3 hm hu=>KG.add (d:=⟨b,q,[q],newV c i (Se.nx (Se.nx ep)) K.G.now h⟩) hA hi ⟨Nat.zero_le _,hB,hC,d3⟩ (bl_far d1 d2) hm hu) (fun g hg=>kg_add3 hg) (by kernel_rfl) (by kernel_rfl) (wf_small hi) hM ?_; obtain ⟨bs,rfl⟩:∃ bs,bs=b:=⟨b,rfl⟩)|refine opb1 (e:=82) ⟨tab_ok⟩ [.i .i64 i,.i .i64 2,.i .i64 (Se.nx (Se.nx ep)),.i .i64 0,.i .i64 0] (by rfl) (by rfl) ?_|refine callO (f:=92) (A:=kgO 0 x.q x.p x.mb (M+1) K Sk (setD D i (some ⟨bs,q,[q],newV c i (Se.nx (Se.nx ep)) K.G.now h⟩)) true) 0 (fun z:{z:List Nat×Fam // vals z.2=(tellF (K,vals (setD D i (some ⟨bs,q,[q],newV c i (Se.nx (Se.nx ep)) K.G.now h⟩))) [(⟨i,⟨2,Se.nx (Se.nx ep),0,0⟩⟩:EvV)]).2}=>.t []) (fun z=>kgO 0 x.q x.p x.mb (M+1) (tellF (K,vals (setD D i (some ⟨bs,q,[q],newV c i (Se.nx (Se.nx ep)) K.G.now h⟩))) [(⟨i,⟨2,Se.nx (Se.nx ep),0,0⟩⟩:EvV)]).1 z.1.1 z.1.2 true) (fun w hH hA=>(tellT (n:=1) (A:=some ⟨b,0,none⟩) (es:=[(⟨i,⟨2,Se.nx (Se.nx ep),0,0⟩⟩:EvV)]) (hH.row 0 _ rfl rfl) hA (hH.far _ (List.mem_of_getElem? (i:=0) rfl) 0 _ rfl rfl) (Co.Ek.of_blk (lo:=0) (hH.row 3 _ rfl rfl) (Nat.zero_le _) (by decide)) rfl (by intro g hg; rw [List.mem_singleton.1 hg]; exact hH.far _ (List.mem_of_getElem? (i:=0) rfl) 3 _ rfl rfl) (by intro hm; exact hH.ne 0 3 _ _ rfl rfl rfl rfl (by decide) (List.mem_singleton.1 hm)) (by intro e he; rw [List.mem_singleton.1 he]; exact hi) (by rw [vals_set]; exact hti) (by decide)).mono (by rintro e w' ⟨z,rfl,h1,h2,h3,h4⟩; exact ⟨⟨z,h2⟩,rfl,h1,h3,h4⟩)) (fun z=>?_)|refine fin fun w' hH=>⟨z.1,rfl,by have:=hH.row 0 _ rfl rfl; rw [rowA_nil rfl rfl] at this; exact this,by rw [← hbo bs q]; exact Hold.ob hH (A:=kgO 0 x.q x.p x.mb (M+1) (tellF (K,vals (setD D i (some ⟨bs,q,[q],newV c i (Se.nx (Se.nx ep)) K.G.now h⟩))) [(⟨i,⟨2,Se.nx (Se.nx ep),0,0⟩⟩:EvV)]).1 z.1.1 z.1.2 true) 0 rfl,by rw [← hbo bs q]; exact z.2,hH.upd,fun g hg=>hH.own _ (List.mem_of_getElem? (i:=0) rfl) rfl g hg,hH.far _ (List.mem_of_getElem? (i:=0) rfl) 0 _ rfl rfl⟩|refine fin_s ?_))
 ·have hep:nxE ep=Se.nx ep:=if_neg h0
  rw [hep] at hti hbo ⊢
  refine entH tab_ok (hold_gw hb hk hg) [.p 0 0,.i .i64 i,.a [.i .i64 h.ki,.i .i64 h.a,.i .i64 h.b,.i .i64 h.c]] Tryz.func140 Tryz.ntmps140 rfl rfl ?_
  repeat' (first | refine gs_ ?_|((conv=>whnf); first | intro b | refine bto ?_|refine bfo ?_|refine And.intro ?_ ?_|refine oplo (b:=x.mb) (n:=M) (m:=ptrs D) (k:=3) (e:=100) 0 (.pointer none) (.v (.pointer none)) false (by rfl) (by rfl) (by rfl) (by rfl) (fun w h=>kg_mp h) (by kernel_rfl) (by kernel_rfl) (fun w=>rfl) (wf_small hi) (by rw [hp]; rfl) (by rw [hp]; rfl) ?_|refine callS (f:=197) (.i .i64 (Se.nx _)) (Se.nextT _) ?_|refine callH (f:=94) (.i .i64 K.G.now) (fun w hH=>nowG (hH.row 0 _ rfl rfl) (Hold.ob hH (A:=kgO 0 x.q x.p x.mb M K Sk D true) 0 rfl) (hH.far _ (List.mem_of_getElem? (i:=0) rfl) 0 _ rfl rfl)) ?_|refine callN (f:=198) (ι:=Nat) (fun q=>.v (.pointer (some ⟨q,0,none⟩))) (fun q=>lkA 0 q ⟨c,i,Se.nx ep,0,0,0,0,false,cl K.G.now⟩ [] [q] true) (fun w1 hH=>(Ln.newL c i (Se.nx ep) K.G.now (nx_bd _) w1).mono (by rintro e w' ⟨q,rfl,h1,h2⟩; exact ⟨q,rfl,h1.base (Nat.zero_le _),h2,h1.low⟩)) (fun q=>?_)|(refine opupN (A:=kgO 0 x.q x.p x.mb M K Sk D true) (C:=lkA 0 q ⟨c,i,Se.nx ep,0,0,0,0,false,cl K.G.now⟩ [] [q] true) (r:=⟨b,103,true,0,[],[.v (.pointer (some ⟨q,0,none⟩)),.i .i64 h.ki,.i .i64 h.a,.i .i64 h.b,.i .i64 h.c,.b false],[],true⟩) (u:=.pointer (some ⟨b,0,none⟩)) (b:=x.mb) (n:=M) (mp:=ptrs D) (kt:=3) (e:=100) 0 1 2 (.p 2 0) (kgO 0 x.q x.p x.mb (M+1) K Sk (setD D i (some ⟨b,q,[q],newV c i (Se.nx ep) K.G.now h⟩)) true) (by rfl) (by rfl) (by rfl) (by rfl) (by rfl) (by rfl) (by rfl) (by decide) rfl rfl rfl (fun w h=>kg_mp h) (kg_mb ..) (by rfl) (fun w w' hA hC hB d1 d2 d3 hm hu=>KG.add (d:=⟨b,q,[q],newV c i (Se.nx ep) K.G.now h⟩) hA hi ⟨Nat.zero_le _,hB,hC,d3⟩ (bl_far d1 d2) hm hu) (fun g hg=>kg_add3 hg) (by kernel_rfl) (by kernel_rfl) (wf_small hi) hM ?_; obtain ⟨bs,rfl⟩:∃ bs,bs=b:=⟨b,rfl⟩)|refine opb1 (e:=82) ⟨tab_ok⟩ [.i .i64 i,.i .i64 2,.i .i64 (Se.nx ep),.i .i64 0,.i .i64 0] (by rfl) (by rfl) ?_|refine callO (f:=92) (A:=kgO 0 x.q x.p x.mb (M+1) K Sk (setD D i (some ⟨bs,q,[q],newV c i (Se.nx ep) K.G.now h⟩)) true) 0 (fun z:{z:List Nat×Fam // vals z.2=(tellF (K,vals (setD D i (some ⟨bs,q,[q],newV c i (Se.nx ep) K.G.now h⟩))) [(⟨i,⟨2,Se.nx ep,0,0⟩⟩:EvV)]).2}=>.t []) (fun z=>kgO 0 x.q x.p x.mb (M+1) (tellF (K,vals (setD D i (some ⟨bs,q,[q],newV c i (Se.nx ep) K.G.now h⟩))) [(⟨i,⟨2,Se.nx ep,0,0⟩⟩:EvV)]).1 z.1.1 z.1.2 true) (fun w hH hA=>(tellT (n:=1) (A:=some ⟨b,0,none⟩) (es:=[(⟨i,⟨2,Se.nx ep,0,0⟩⟩:EvV)]) (hH.row 0 _ rfl rfl) hA (hH.far _ (List.mem_of_getElem? (i:=0) rfl) 0 _ rfl rfl) (Co.Ek.of_blk (lo:=0) (hH.row 3 _ rfl rfl) (Nat.zero_le _) (by decide)) rfl (by intro g hg; rw [List.mem_singleton.1 hg]; exact hH.far _ (List.mem_of_getElem? (i:=0) rfl) 3 _ rfl rfl) (by intro hm; exact hH.ne 0 3 _ _ rfl rfl rfl rfl (by decide) (List.mem_singleton.1 hm)) (by intro e he; rw [List.mem_singleton.1 he]; exact hi) (by rw [vals_set]; exact hti) (by decide)).mono (by rintro e w' ⟨z,rfl,h1,h2,h3,h4⟩; exact ⟨⟨z,h2⟩,rfl,h1,h3,h4⟩)) (fun z=>?_)|refine fin fun w' hH=>⟨z.1,rfl,by have:=hH.row 0 _ rfl rfl; rw [rowA_nil rfl rfl] at this; exact this,by rw [← hbo bs q]; exact Hold.ob hH (A:=kgO 0 x.q x.p x.mb (M+1) (tellF (K,vals (setD D i (some ⟨bs,q,[q],newV c i (Se.nx ep) K.G.now h⟩))) [(⟨i,⟨2,Se.nx ep,0,0⟩⟩:EvV)]).1 z.1.1 z.1.2 true) 0 rfl,by rw [← hbo bs q]; exact z.2,hH.upd,fun g hg=>hH.own _ (List.mem_of_getElem? (i:=0) rfl) rfl g hg,hH.far _ (List.mem_of_getElem? (i:=0) rfl) 0 _ rfl rfl⟩|refine fin_s ?_))
end
end Gw
namespace Gw
open Go.RowKit Ba Mem En Go.Proofs.YtepfmfalebmcnaaGreatDoor.Ty Mp Tm
open Ri (MsgV)
open Ln (LkV LO)
open Co (KV Pt KW Nr evE EvV goneK Hold.ob)
set_option maxRecDepth 100000
section
variable {lo mb M:Nat} {D:Fam} {w:World} {i:Int} {d:SeD}
theorem FO.ha (h:FO lo mb M D w) (hd:D i=some d):w.rangeAt d.b (0+1+1) [.int .i64 d.v.h.a]:=range_of (h.at_ i d hd).2.2.1 (n:=1) rfl rfl
theorem FO.hb (h:FO lo mb M D w) (hd:D i=some d):w.rangeAt d.b (0+1+2) [.int .i64 d.v.h.b]:=range_of (h.at_ i d hd).2.2.1 (n:=1) rfl rfl
end
attribute [local irreducible] Go.Calls
section
variable {gq M:Nat} {c:CfgV} {x:Gp} {ep i:Int} {K:KV} {Sk:List Nat} {D:Fam} {w:World}
set_option maxHeartbeats 8000000 in
theorem welEnd {T:Int} {d:SeD} (h:MsgV) (hd:D i=some d) (hkp:keepB d.v h=false) (hb:Blk w gq 96 (gwA c x ep)) (hk:KG 0 x.q x.p x.mb M K Sk D w) (hg:gq∉kgF x.mb Sk D) (hi:0≤i∧i < 64) (ht:TI T (K,vals D)) (hT:0≤T) (hM:M < 1000000) :
  Calls Tryz.prog 140 #[.pointer (some ⟨gq,0,none⟩),.int .i64 i,.agg #[.int .i64 h.ki,.int .i64 h.a,.int .i64 h.b,.int .i64 h.c]] w (WelQ gq (M+1) c x (kgF x.mb Sk D) w (bornK c (endV (K,vals D) i) (nxE ep) i h,nxE ep)):=by
 have hp:ptrs D i=some (.pointer (some ⟨d.b,0,none⟩)):=by unfold ptrs; rw [hd]; rfl
 have hti:TI T (goneK K i,setV (setV (vals D) i none) i (some (newV c i (nxE ep) (goneK K i).G.now h))):=(ht.end_ i).set i _ (by simp [newV]) (by simp [newV]; exact hT)
 have hti:TI T (goneK K i,setV (vals (setD D i none)) i (some (newV c i (nxE ep) (goneK K i).G.now h))):=by rw [vals_set]; exact hti
 have hbo:∀ b q,tellF (goneK K i,vals (setD (setD D i none) i (some ⟨b,q,[q],newV c i (nxE ep) (goneK K i).G.now h⟩))) [(⟨i,⟨2,nxE ep,0,0⟩⟩:EvV)]=bornK c (endV (K,vals D) i) (nxE ep) i h:=fun b q=>by rw [vals_set,vals_set]; rfl
 cases hhd:d.v.hd with
 | true =>
  by_cases h0:Se.nx ep=0
  ·have hep:nxE ep=Se.nx (Se.nx ep):=if_pos h0
   rw [hep] at hti hbo ⊢
   refine entH tab_ok (hold_gw hb hk hg) [.p 0 0,.i .i64 i,.a [.i .i64 h.ki,.i .i64 h.a,.i .i64 h.b,.i .i64 h.c]] Tryz.func140 Tryz.ntmps140 rfl rfl ?_
   repeat' (first | refine gq_ ?_|((conv=>whnf); first | intro b | refine drA (id:=3) ⟨tab_ok⟩ [3,10,20] ?_|refine drA ⟨tab_ok⟩ [] ?_|refine bto ?_|refine bfo ?_|refine And.intro ?_ ?_|refine oplo (b:=x.mb) (n:=M) (m:=ptrs D) (k:=3) (e:=100) 0 (.pointer none) (.v (.pointer (some ⟨d.b,0,none⟩))) true (by rfl) (by rfl) (by rfl) (by rfl) (fun w h=>kg_mp h) (by kernel_rfl) (by kernel_rfl) (fun w=>rfl) (wf_small hi) (by rw [hp]; rfl) (by rw [hp]; rfl) ?_|refine opnv (by rfl) (by rfl) ?_|refine punv (by rfl) (by rfl) ?_|refine opfv ⟨tab_ok⟩ (by rfl) (by rfl) (by rfl) (by rfl) ?_|refine pufv ⟨tab_ok⟩ (by rfl) (by rfl) (by rfl) (by rfl) ?_|refine opxc (g:=d.b) (off:=0+5) (.b true) (fun w hH=>by have:=(Hold.ob hH (A:=kgO 0 x.q x.p x.mb M K Sk D true) 0 rfl).f.hrd hd; rw [hhd] at this; exact this) ⟨tab_ok⟩ (by rfl) (by rfl) (by show Addr.add ⟨d.b,0,none⟩ 5=_; rw [Go.WideShapes.add_plain]) ?_|refine opxc (g:=d.b) (off:=0+1+1) (.i .i64 d.v.h.a) (fun w hH=>(Hold.ob hH (A:=kgO 0 x.q x.p x.mb M K Sk D true) 0 rfl).f.ha hd) ⟨tab_ok⟩ (by rfl) (by rfl) (by show Addr.add (Addr.add ⟨d.b,0,none⟩ 1) 1=_; rw [Go.WideShapes.add_plain,Go.WideShapes.add_plain]) ?_|refine opxc (g:=d.b) (off:=0+1+2) (.i .i64 d.v.h.b) (fun w hH=>(Hold.ob hH (A:=kgO 0 x.q x.p x.mb M K Sk D true) 0 rfl).f.hb hd) ⟨tab_ok⟩ (by rfl) (by rfl) (by show Addr.add (Addr.add ⟨d.b,0,none⟩ 1) 2=_; rw [Go.WideShapes.add_plain,Go.WideShapes.add_plain]) ?_|refine callO (f:=95) (A:=kgO 0 x.q x.p x.mb M K Sk D true) 0 (fun _:List Nat=>.t []) (fun S1=>kgO 0 x.q x.p x.mb M (goneK K i) S1 (setD D i none) true) (fun w hH hA=>endT (hH.row 0 _ rfl rfl) hA (hH.far _ (List.mem_of_getElem? (i:=0) rfl) 0 _ rfl rfl) hi ht.q ht.l) (fun S1=>?_)|refine callS (f:=197) (.i .i64 (Se.nx _)) (Se.nextT _) ?_|refine callH (f:=94) (.i .i64 (goneK K i).G.now) (fun w hH=>nowG (hH.row 0 _ rfl rfl) (Hold.ob hH (A:=kgO 0 x.q x.p x.mb M (goneK K i) S1 (setD D i none) true) 0 rfl) (hH.far _ (List.mem_of_getElem? (i:=0) rfl) 0 _ rfl rfl)) ?_|refine callN (f:=198) (ι:=Nat) (fun q=>.v (.pointer (some ⟨q,0,none⟩))) (fun q=>lkA 0 q ⟨c,i,Se.nx (Se.nx ep),0,0,0,0,false,cl (goneK K i).G.now⟩ [] [q] true) (fun w1 hH=>(Ln.newL c i (Se.nx (Se.nx ep)) (goneK K i).G.now (nx_bd _) w1).mono (by rintro e w' ⟨q,rfl,h1,h2⟩; exact ⟨q,rfl,h1.base (Nat.zero_le _),h2,h1.low⟩)) (fun q=>?_)|(refine opupN (A:=kgO 0 x.q x.p x.mb M (goneK K i) S1 (setD D i none) true) (C:=lkA 0 q ⟨c,i,Se.nx (Se.nx ep),0,0,0,0,false,cl (goneK K i).G.now⟩ [] [q] true) (r:=⟨b,103,true,0,[],[.v (.pointer (some ⟨q,0,none⟩)),.i .i64 h.ki,.i .i64 h.a,.i .i64 h.b,.i .i64 h.c,.b false],[],true⟩) (u:=.pointer (some ⟨b,0,none⟩)) (b:=x.mb) (n:=M) (mp:=ptrs (setD D i none)) (kt:=3) (e:=100) 0 1 2 (.p 2 0) (kgO 0 x.q x.p x.mb (M+1) (goneK K i) S1 (setD (setD D i none) i (some ⟨b,q,[q],newV c i (Se.nx (Se.nx ep)) (goneK K i).G.now h⟩)) true) (by rfl) (by rfl) (by rfl) (by rfl) (by rfl) (by rfl) (by rfl) (by decide) rfl rfl rfl (fun w h=>kg_mp h) (kg_mb ..) (by rfl) (fun w w' hA hC hB d1 d2 d3 hm hu=>KG.add (d:=⟨b,q,[q],newV c i (Se.nx (Se.nx ep)) (goneK K i).G.now h⟩) hA hi ⟨Nat.zero_le _,hB,hC,d3⟩ (bl_far d1 d2) hm hu) (fun g hg=>kg_add3 hg) (by kernel_rfl) (by kernel_rfl) (wf_small hi) hM ?_; obtain ⟨bs,rfl⟩:∃ bs,bs=b:=⟨b,rfl⟩)|refine opb1 (e:=82) ⟨tab_ok⟩ [.i .i64 i,.i .i64 2,.i .i64 (Se.nx (Se.nx ep)),.i .i64 0,.i .i64 0] (by rfl) (by rfl) ?_|refine callO (f:=92) (A:=kgO 0 x.q x.p x.mb (M+1) (goneK K i) S1 (setD (setD D i none) i (some ⟨bs,q,[q],newV c i (Se.nx (Se.nx ep)) (goneK K i).G.now h⟩)) true) 0 (fun z:{z:List Nat×Fam // vals z.2=(tellF (goneK K i,vals (setD (setD D i none) i (some ⟨bs,q,[q],newV c i (Se.nx (Se.nx ep)) (goneK K i).G.now h⟩))) [(⟨i,⟨2,Se.nx (Se.nx ep),0,0⟩⟩:EvV)]).2}=>.t []) (fun z=>kgO 0 x.q x.p x.mb (M+1) (tellF (goneK K i,vals (setD (setD D i none) i (some ⟨bs,q,[q],newV c i (Se.nx (Se.nx ep)) (goneK K i).G.now h⟩))) [(⟨i,⟨2,Se.nx (Se.nx ep),0,0⟩⟩:EvV)]).1 z.1.1 z.1.2 true) (fun w hH hA=>(tellT (n:=1) (A:=some ⟨b,0,none⟩) (es:=[(⟨i,⟨2,Se.nx (Se.nx ep),0,0⟩⟩:EvV)]) (hH.row 0 _ rfl rfl) hA (hH.far _ (List.mem_of_getElem? (i:=0) rfl) 0 _ rfl rfl) (Co.Ek.of_blk (lo:=0) (hH.row 3 _ rfl rfl) (Nat.zero_le _) (by decide)) rfl (by intro g hg; rw [List.mem_singleton.1 hg]; exact hH.far _ (List.mem_of_getElem? (i:=0) rfl) 3 _ rfl rfl) (by intro hm; exact hH.ne 0 3 _ _ rfl rfl rfl rfl (by decide) (List.mem_singleton.1 hm)) (by intro e he; rw [List.mem_singleton.1 he]; exact hi) (by rw [vals_set]; exact hti) (by decide)).mono (by rintro e w' ⟨z,rfl,h1,h2,h3,h4⟩; exact ⟨⟨z,h2⟩,rfl,h1,h3,h4⟩)) (fun z=>?_)|refine fin fun w' hH=>⟨z.1,rfl,by have:=hH.row 0 _ rfl rfl; rw [rowA_nil rfl rfl] at this; exact this,by rw [← hbo bs q]; exact Hold.ob hH (A:=kgO 0 x.q x.p x.mb (M+1) (tellF (goneK K i,vals (setD (setD D i none) i (some ⟨bs,q,[q],newV c i (Se.nx (Se.nx ep)) (goneK K i).G.now h⟩))) [(⟨i,⟨2,Se.nx (Se.nx ep),0,0⟩⟩:EvV)]).1 z.1.1 z.1.2 true) 0 rfl,by rw [← hbo bs q]; exact z.2,hH.upd,fun g hg=>hH.own _ (List.mem_of_getElem? (i:=0) rfl) rfl g hg,hH.far _ (List.mem_of_getElem? (i:=0) rfl) 0 _ rfl rfl⟩|refine fin_s ?_))
  ·have hep:nxE ep=Se.nx ep:=if_neg h0
   rw [hep] at hti hbo ⊢
   refine entH tab_ok (hold_gw hb hk hg) [.p 0 0,.i .i64 i,.a [.i .i64 h.ki,.i .i64 h.a,.i .i64 h.b,.i .i64 h.c]] Tryz.func140 Tryz.ntmps140 rfl rfl ?_
   repeat' (first | refine gq_ ?_|((conv=>whnf); first | intro b | refine drA (id:=3) ⟨tab_ok⟩ [3,10,20] ?_|refine drA ⟨tab_ok⟩ [] ?_|refine bto ?_|refine bfo ?_|refine And.intro ?_ ?_|refine oplo (b:=x.mb) (n:=M) (m:=ptrs D) (k:=3) (e:=100) 0 (.pointer none) (.v (.pointer (some ⟨d.b,0,none⟩))) true (by rfl) (by rfl) (by rfl) (by rfl) (fun w h=>kg_mp h) (by kernel_rfl) (by kernel_rfl) (fun w=>rfl) (wf_small hi) (by rw [hp]; rfl) (by rw [hp]; rfl) ?_|refine opnv (by rfl) (by rfl) ?_|refine punv (by rfl) (by rfl) ?_|refine opfv ⟨tab_ok⟩ (by rfl) (by rfl) (by rfl) (by rfl) ?_|refine pufv ⟨tab_ok⟩ (by rfl) (by rfl) (by rfl) (by rfl) ?_|refine opxc (g:=d.b) (off:=0+5) (.b true) (fun w hH=>by have:=(Hold.ob hH (A:=kgO 0 x.q x.p x.mb M K Sk D true) 0 rfl).f.hrd hd; rw [hhd] at this; exact this) ⟨tab_ok⟩ (by rfl) (by rfl) (by show Addr.add ⟨d.b,0,none⟩ 5=_; rw [Go.WideShapes.add_plain]) ?_|refine opxc (g:=d.b) (off:=0+1+1) (.i .i64 d.v.h.a) (fun w hH=>(Hold.ob hH (A:=kgO 0 x.q x.p x.mb M K Sk D true) 0 rfl).f.ha hd) ⟨tab_ok⟩ (by rfl) (by rfl) (by show Addr.add (Addr.add ⟨d.b,0,none⟩ 1) 1=_; rw [Go.WideShapes.add_plain,Go.WideShapes.add_plain]) ?_|refine opxc (g:=d.b) (off:=0+1+2) (.i .i64 d.v.h.b) (fun w hH=>(Hold.ob hH (A:=kgO 0 x.q x.p x.mb M K Sk D true) 0 rfl).f.hb hd) ⟨tab_ok⟩ (by rfl) (by rfl) (by show Addr.add (Addr.add ⟨d.b,0,none⟩ 1) 2=_; rw [Go.WideShapes.add_plain,Go.WideShapes.add_plain]) ?_|refine callO (f:=95) (A:=kgO 0 x.q x.p x.mb M K Sk D true) 0 (fun _:List Nat=>.t []) (fun S1=>kgO 0 x.q x.p x.mb M (goneK K i) S1 (setD D i none) true) (fun w hH hA=>endT (hH.row 0 _ rfl rfl) hA (hH.far _ (List.mem_of_getElem? (i:=0) rfl) 0 _ rfl rfl) hi ht.q ht.l) (fun S1=>?_)|refine callS (f:=197) (.i .i64 (Se.nx _)) (Se.nextT _) ?_|refine callH (f:=94) (.i .i64 (goneK K i).G.now) (fun w hH=>nowG (hH.row 0 _ rfl rfl) (Hold.ob hH (A:=kgO 0 x.q x.p x.mb M (goneK K i) S1 (setD D i none) true) 0 rfl) (hH.far _ (List.mem_of_getElem? (i:=0) rfl) 0 _ rfl rfl)) ?_|refine callN (f:=198) (ι:=Nat) (fun q=>.v (.pointer (some ⟨q,0,none⟩))) (fun q=>lkA 0 q ⟨c,i,Se.nx ep,0,0,0,0,false,cl (goneK K i).G.now⟩ [] [q] true) (fun w1 hH=>(Ln.newL c i (Se.nx ep) (goneK K i).G.now (nx_bd _) w1).mono (by rintro e w' ⟨q,rfl,h1,h2⟩; exact ⟨q,rfl,h1.base (Nat.zero_le _),h2,h1.low⟩)) (fun q=>?_)|(refine opupN (A:=kgO 0 x.q x.p x.mb M (goneK K i) S1 (setD D i none) true) (C:=lkA 0 q ⟨c,i,Se.nx ep,0,0,0,0,false,cl (goneK K i).G.now⟩ [] [q] true) (r:=⟨b,103,true,0,[],[.v (.pointer (some ⟨q,0,none⟩)),.i .i64 h.ki,.i .i64 h.a,.i .i64 h.b,.i .i64 h.c,.b false],[],true⟩) (u:=.pointer (some ⟨b,0,none⟩)) (b:=x.mb) (n:=M) (mp:=ptrs (setD D i none)) (kt:=3) (e:=100) 0 1 2 (.p 2 0) (kgO 0 x.q x.p x.mb (M+1) (goneK K i) S1 (setD (setD D i none) i (some ⟨b,q,[q],newV c i (Se.nx ep) (goneK K i).G.now h⟩)) true) (by rfl) (by rfl) (by rfl) (by rfl) (by rfl) (by rfl) (by rfl) (by decide) rfl rfl rfl (fun w h=>kg_mp h) (kg_mb ..) (by rfl) (fun w w' hA hC hB d1 d2 d3 hm hu=>KG.add (d:=⟨b,q,[q],newV c i (Se.nx ep) (goneK K i).G.now h⟩) hA hi ⟨Nat.zero_le _,hB,hC,d3⟩ (bl_far d1 d2) hm hu) (fun g hg=>kg_add3 hg) (by kernel_rfl) (by kernel_rfl) (wf_small hi) hM ?_; obtain ⟨bs,rfl⟩:∃ bs,bs=b:=⟨b,rfl⟩)|refine opb1 (e:=82) ⟨tab_ok⟩ [.i .i64 i,.i .i64 2,.i .i64 (Se.nx ep),.i .i64 0,.i .i64 0] (by rfl) (by rfl) ?_|refine callO (f:=92) (A:=kgO 0 x.q x.p x.mb (M+1) (goneK K i) S1 (setD (setD D i none) i (some ⟨bs,q,[q],newV c i (Se.nx ep) (goneK K i).G.now h⟩)) true) 0 (fun z:{z:List Nat×Fam // vals z.2=(tellF (goneK K i,vals (setD (setD D i none) i (some ⟨bs,q,[q],newV c i (Se.nx ep) (goneK K i).G.now h⟩))) [(⟨i,⟨2,Se.nx ep,0,0⟩⟩:EvV)]).2}=>.t []) (fun z=>kgO 0 x.q x.p x.mb (M+1) (tellF (goneK K i,vals (setD (setD D i none) i (some ⟨bs,q,[q],newV c i (Se.nx ep) (goneK K i).G.now h⟩))) [(⟨i,⟨2,Se.nx ep,0,0⟩⟩:EvV)]).1 z.1.1 z.1.2 true) (fun w hH hA=>(tellT (n:=1) (A:=some ⟨b,0,none⟩) (es:=[(⟨i,⟨2,Se.nx ep,0,0⟩⟩:EvV)]) (hH.row 0 _ rfl rfl) hA (hH.far _ (List.mem_of_getElem? (i:=0) rfl) 0 _ rfl rfl) (Co.Ek.of_blk (lo:=0) (hH.row 3 _ rfl rfl) (Nat.zero_le _) (by decide)) rfl (by intro g hg; rw [List.mem_singleton.1 hg]; exact hH.far _ (List.mem_of_getElem? (i:=0) rfl) 3 _ rfl rfl) (by intro hm; exact hH.ne 0 3 _ _ rfl rfl rfl rfl (by decide) (List.mem_singleton.1 hm)) (by intro e he; rw [List.mem_singleton.1 he]; exact hi) (by rw [vals_set]; exact hti) (by decide)).mono (by rintro e w' ⟨z,rfl,h1,h2,h3,h4⟩; exact ⟨⟨z,h2⟩,rfl,h1,h3,h4⟩)) (fun z=>?_)|refine fin fun w' hH=>⟨z.1,rfl,by have:=hH.row 0 _ rfl rfl; rw [rowA_nil rfl rfl] at this; exact this,by rw [← hbo bs q]; exact Hold.ob hH (A:=kgO 0 x.q x.p x.mb (M+1) (tellF (goneK K i,vals (setD (setD D i none) i (some ⟨bs,q,[q],newV c i (Se.nx ep) (goneK K i).G.now h⟩))) [(⟨i,⟨2,Se.nx ep,0,0⟩⟩:EvV)]).1 z.1.1 z.1.2 true) 0 rfl,by rw [← hbo bs q]; exact z.2,hH.upd,fun g hg=>hH.own _ (List.mem_of_getElem? (i:=0) rfl) rfl g hg,hH.far _ (List.mem_of_getElem? (i:=0) rfl) 0 _ rfl rfl⟩|refine fin_s ?_))
 | false =>
  by_cases h1:d.v.h.a=h.a
  case neg =>
   by_cases h0:Se.nx ep=0
   ·have hep:nxE ep=Se.nx (Se.nx ep):=if_pos h0
    rw [hep] at hti hbo ⊢
    refine entH tab_ok (hold_gw hb hk hg) [.p 0 0,.i .i64 i,.a [.i .i64 h.ki,.i .i64 h.a,.i .i64 h.b,.i .i64 h.c]] Tryz.func140 Tryz.ntmps140 rfl rfl ?_
    repeat' (first | refine gq_ ?_|((conv=>whnf); first | intro b | refine drA (id:=3) ⟨tab_ok⟩ [3,10,20] ?_|refine drA ⟨tab_ok⟩ [] ?_|refine bto ?_|refine bfo ?_|refine And.intro ?_ ?_|refine oplo (b:=x.mb) (n:=M) (m:=ptrs D) (k:=3) (e:=100) 0 (.pointer none) (.v (.pointer (some ⟨d.b,0,none⟩))) true (by rfl) (by rfl) (by rfl) (by rfl) (fun w h=>kg_mp h) (by kernel_rfl) (by kernel_rfl) (fun w=>rfl) (wf_small hi) (by rw [hp]; rfl) (by rw [hp]; rfl) ?_|refine opnv (by rfl) (by rfl) ?_|refine punv (by rfl) (by rfl) ?_|refine opfv ⟨tab_ok⟩ (by rfl) (by rfl) (by rfl) (by rfl) ?_|refine pufv ⟨tab_ok⟩ (by rfl) (by rfl) (by rfl) (by rfl) ?_|refine opxc (g:=d.b) (off:=0+5) (.b false) (fun w hH=>by have:=(Hold.ob hH (A:=kgO 0 x.q x.p x.mb M K Sk D true) 0 rfl).f.hrd hd; rw [hhd] at this; exact this) ⟨tab_ok⟩ (by rfl) (by rfl) (by show Addr.add ⟨d.b,0,none⟩ 5=_; rw [Go.WideShapes.add_plain]) ?_|refine opxc (g:=d.b) (off:=0+1+1) (.i .i64 d.v.h.a) (fun w hH=>(Hold.ob hH (A:=kgO 0 x.q x.p x.mb M K Sk D true) 0 rfl).f.ha hd) ⟨tab_ok⟩ (by rfl) (by rfl) (by show Addr.add (Addr.add ⟨d.b,0,none⟩ 1) 1=_; rw [Go.WideShapes.add_plain,Go.WideShapes.add_plain]) ?_|refine opxc (g:=d.b) (off:=0+1+2) (.i .i64 d.v.h.b) (fun w hH=>(Hold.ob hH (A:=kgO 0 x.q x.p x.mb M K Sk D true) 0 rfl).f.hb hd) ⟨tab_ok⟩ (by rfl) (by rfl) (by show Addr.add (Addr.add ⟨d.b,0,none⟩ 1) 2=_; rw [Go.WideShapes.add_plain,Go.WideShapes.add_plain]) ?_|refine callO (f:=95) (A:=kgO 0 x.q x.p x.mb M K Sk D true) 0 (fun _:List Nat=>.t []) (fun S1=>kgO 0 x.q x.p x.mb M (goneK K i) S1 (setD D i none) true) (fun w hH hA=>endT (hH.row 0 _ rfl rfl) hA (hH.far _ (List.mem_of_getElem? (i:=0) rfl) 0 _ rfl rfl) hi ht.q ht.l) (fun S1=>?_)|refine callS (f:=197) (.i .i64 (Se.nx _)) (Se.nextT _) ?_|refine callH (f:=94) (.i .i64 (goneK K i).G.now) (fun w hH=>nowG (hH.row 0 _ rfl rfl) (Hold.ob hH (A:=kgO 0 x.q x.p x.mb M (goneK K i) S1 (setD D i none) true) 0 rfl) (hH.far _ (List.mem_of_getElem? (i:=0) rfl) 0 _ rfl rfl)) ?_|refine callN (f:=198) (ι:=Nat) (fun q=>.v (.pointer (some ⟨q,0,none⟩))) (fun q=>lkA 0 q ⟨c,i,Se.nx (Se.nx ep),0,0,0,0,false,cl (goneK K i).G.now⟩ [] [q] true) (fun w1 hH=>(Ln.newL c i (Se.nx (Se.nx ep)) (goneK K i).G.now (nx_bd _) w1).mono (by rintro e w' ⟨q,rfl,h1,h2⟩; exact ⟨q,rfl,h1.base (Nat.zero_le _),h2,h1.low⟩)) (fun q=>?_)|(refine opupN (A:=kgO 0 x.q x.p x.mb M (goneK K i) S1 (setD D i none) true) (C:=lkA 0 q ⟨c,i,Se.nx (Se.nx ep),0,0,0,0,false,cl (goneK K i).G.now⟩ [] [q] true) (r:=⟨b,103,true,0,[],[.v (.pointer (some ⟨q,0,none⟩)),.i .i64 h.ki,.i .i64 h.a,.i .i64 h.b,.i .i64 h.c,.b false],[],true⟩) (u:=.pointer (some ⟨b,0,none⟩)) (b:=x.mb) (n:=M) (mp:=ptrs (setD D i none)) (kt:=3) (e:=100) 0 1 2 (.p 2 0) (kgO 0 x.q x.p x.mb (M+1) (goneK K i) S1 (setD (setD D i none) i (some ⟨b,q,[q],newV c i (Se.nx (Se.nx ep)) (goneK K i).G.now h⟩)) true) (by rfl) (by rfl) (by rfl) (by rfl) (by rfl) (by rfl) (by rfl) (by decide) rfl rfl rfl (fun w h=>kg_mp h) (kg_mb ..) (by rfl) (fun w w' hA hC hB d1 d2 d3 hm hu=>KG.add (d:=⟨b,q,[q],newV c i (Se.nx (Se.nx ep)) (goneK K i).G.now h⟩) hA hi ⟨Nat.zero_le _,hB,hC,d3⟩ (bl_far d1 d2) hm hu) (fun g hg=>kg_add3 hg) (by kernel_rfl) (by kernel_rfl) (wf_small hi) hM ?_; obtain ⟨bs,rfl⟩:∃ bs,bs=b:=⟨b,rfl⟩)|refine opb1 (e:=82) ⟨tab_ok⟩ [.i .i64 i,.i .i64 2,.i .i64 (Se.nx (Se.nx ep)),.i .i64 0,.i .i64 0] (by rfl) (by rfl) ?_|refine callO (f:=92) (A:=kgO 0 x.q x.p x.mb (M+1) (goneK K i) S1 (setD (setD D i none) i (some ⟨bs,q,[q],newV c i (Se.nx (Se.nx ep)) (goneK K i).G.now h⟩)) true) 0 (fun z:{z:List Nat×Fam // vals z.2=(tellF (goneK K i,vals (setD (setD D i none) i (some ⟨bs,q,[q],newV c i (Se.nx (Se.nx ep)) (goneK K i).G.now h⟩))) [(⟨i,⟨2,Se.nx (Se.nx ep),0,0⟩⟩:EvV)]).2}=>.t []) (fun z=>kgO 0 x.q x.p x.mb (M+1) (tellF (goneK K i,vals (setD (setD D i none) i (some ⟨bs,q,[q],newV c i (Se.nx (Se.nx ep)) (goneK K i).G.now h⟩))) [(⟨i,⟨2,Se.nx (Se.nx ep),0,0⟩⟩:EvV)]).1 z.1.1 z.1.2 true) (fun w hH hA=>(tellT (n:=1) (A:=some ⟨b,0,none⟩) (es:=[(⟨i,⟨2,Se.nx (Se.nx ep),0,0⟩⟩:EvV)]) (hH.row 0 _ rfl rfl) hA (hH.far _ (List.mem_of_getElem? (i:=0) rfl) 0 _ rfl rfl) (Co.Ek.of_blk (lo:=0) (hH.row 3 _ rfl rfl) (Nat.zero_le _) (by decide)) rfl (by intro g hg; rw [List.mem_singleton.1 hg]; exact hH.far _ (List.mem_of_getElem? (i:=0) rfl) 3 _ rfl rfl) (by intro hm; exact hH.ne 0 3 _ _ rfl rfl rfl rfl (by decide) (List.mem_singleton.1 hm)) (by intro e he; rw [List.mem_singleton.1 he]; exact hi) (by rw [vals_set]; exact hti) (by decide)).mono (by rintro e w' ⟨z,rfl,h1,h2,h3,h4⟩; exact ⟨⟨z,h2⟩,rfl,h1,h3,h4⟩)) (fun z=>?_)|refine fin fun w' hH=>⟨z.1,rfl,by have:=hH.row 0 _ rfl rfl; rw [rowA_nil rfl rfl] at this; exact this,by rw [← hbo bs q]; exact Hold.ob hH (A:=kgO 0 x.q x.p x.mb (M+1) (tellF (goneK K i,vals (setD (setD D i none) i (some ⟨bs,q,[q],newV c i (Se.nx (Se.nx ep)) (goneK K i).G.now h⟩))) [(⟨i,⟨2,Se.nx (Se.nx ep),0,0⟩⟩:EvV)]).1 z.1.1 z.1.2 true) 0 rfl,by rw [← hbo bs q]; exact z.2,hH.upd,fun g hg=>hH.own _ (List.mem_of_getElem? (i:=0) rfl) rfl g hg,hH.far _ (List.mem_of_getElem? (i:=0) rfl) 0 _ rfl rfl⟩|refine fin_s ?_))
   ·have hep:nxE ep=Se.nx ep:=if_neg h0
    rw [hep] at hti hbo ⊢
    refine entH tab_ok (hold_gw hb hk hg) [.p 0 0,.i .i64 i,.a [.i .i64 h.ki,.i .i64 h.a,.i .i64 h.b,.i .i64 h.c]] Tryz.func140 Tryz.ntmps140 rfl rfl ?_
    repeat' (first | refine gq_ ?_|((conv=>whnf); first | intro b | refine drA (id:=3) ⟨tab_ok⟩ [3,10,20] ?_|refine drA ⟨tab_ok⟩ [] ?_|refine bto ?_|refine bfo ?_|refine And.intro ?_ ?_|refine oplo (b:=x.mb) (n:=M) (m:=ptrs D) (k:=3) (e:=100) 0 (.pointer none) (.v (.pointer (some ⟨d.b,0,none⟩))) true (by rfl) (by rfl) (by rfl) (by rfl) (fun w h=>kg_mp h) (by kernel_rfl) (by kernel_rfl) (fun w=>rfl) (wf_small hi) (by rw [hp]; rfl) (by rw [hp]; rfl) ?_|refine opnv (by rfl) (by rfl) ?_|refine punv (by rfl) (by rfl) ?_|refine opfv ⟨tab_ok⟩ (by rfl) (by rfl) (by rfl) (by rfl) ?_|refine pufv ⟨tab_ok⟩ (by rfl) (by rfl) (by rfl) (by rfl) ?_|refine opxc (g:=d.b) (off:=0+5) (.b false) (fun w hH=>by have:=(Hold.ob hH (A:=kgO 0 x.q x.p x.mb M K Sk D true) 0 rfl).f.hrd hd; rw [hhd] at this; exact this) ⟨tab_ok⟩ (by rfl) (by rfl) (by show Addr.add ⟨d.b,0,none⟩ 5=_; rw [Go.WideShapes.add_plain]) ?_|refine opxc (g:=d.b) (off:=0+1+1) (.i .i64 d.v.h.a) (fun w hH=>(Hold.ob hH (A:=kgO 0 x.q x.p x.mb M K Sk D true) 0 rfl).f.ha hd) ⟨tab_ok⟩ (by rfl) (by rfl) (by show Addr.add (Addr.add ⟨d.b,0,none⟩ 1) 1=_; rw [Go.WideShapes.add_plain,Go.WideShapes.add_plain]) ?_|refine opxc (g:=d.b) (off:=0+1+2) (.i .i64 d.v.h.b) (fun w hH=>(Hold.ob hH (A:=kgO 0 x.q x.p x.mb M K Sk D true) 0 rfl).f.hb hd) ⟨tab_ok⟩ (by rfl) (by rfl) (by show Addr.add (Addr.add ⟨d.b,0,none⟩ 1) 2=_; rw [Go.WideShapes.add_plain,Go.WideShapes.add_plain]) ?_|refine callO (f:=95) (A:=kgO 0 x.q x.p x.mb M K Sk D true) 0 (fun _:List Nat=>.t []) (fun S1=>kgO 0 x.q x.p x.mb M (goneK K i) S1 (setD D i none) true) (fun w hH hA=>endT (hH.row 0 _ rfl rfl) hA (hH.far _ (List.mem_of_getElem? (i:=0) rfl) 0 _ rfl rfl) hi ht.q ht.l) (fun S1=>?_)|refine callS (f:=197) (.i .i64 (Se.nx _)) (Se.nextT _) ?_|refine callH (f:=94) (.i .i64 (goneK K i).G.now) (fun w hH=>nowG (hH.row 0 _ rfl rfl) (Hold.ob hH (A:=kgO 0 x.q x.p x.mb M (goneK K i) S1 (setD D i none) true) 0 rfl) (hH.far _ (List.mem_of_getElem? (i:=0) rfl) 0 _ rfl rfl)) ?_|refine callN (f:=198) (ι:=Nat) (fun q=>.v (.pointer (some ⟨q,0,none⟩))) (fun q=>lkA 0 q ⟨c,i,Se.nx ep,0,0,0,0,false,cl (goneK K i).G.now⟩ [] [q] true) (fun w1 hH=>(Ln.newL c i (Se.nx ep) (goneK K i).G.now (nx_bd _) w1).mono (by rintro e w' ⟨q,rfl,h1,h2⟩; exact ⟨q,rfl,h1.base (Nat.zero_le _),h2,h1.low⟩)) (fun q=>?_)|(refine opupN (A:=kgO 0 x.q x.p x.mb M (goneK K i) S1 (setD D i none) true) (C:=lkA 0 q ⟨c,i,Se.nx ep,0,0,0,0,false,cl (goneK K i).G.now⟩ [] [q] true) (r:=⟨b,103,true,0,[],[.v (.pointer (some ⟨q,0,none⟩)),.i .i64 h.ki,.i .i64 h.a,.i .i64 h.b,.i .i64 h.c,.b false],[],true⟩) (u:=.pointer (some ⟨b,0,none⟩)) (b:=x.mb) (n:=M) (mp:=ptrs (setD D i none)) (kt:=3) (e:=100) 0 1 2 (.p 2 0) (kgO 0 x.q x.p x.mb (M+1) (goneK K i) S1 (setD (setD D i none) i (some ⟨b,q,[q],newV c i (Se.nx ep) (goneK K i).G.now h⟩)) true) (by rfl) (by rfl) (by rfl) (by rfl) (by rfl) (by rfl) (by rfl) (by decide) rfl rfl rfl (fun w h=>kg_mp h) (kg_mb ..) (by rfl) (fun w w' hA hC hB d1 d2 d3 hm hu=>KG.add (d:=⟨b,q,[q],newV c i (Se.nx ep) (goneK K i).G.now h⟩) hA hi ⟨Nat.zero_le _,hB,hC,d3⟩ (bl_far d1 d2) hm hu) (fun g hg=>kg_add3 hg) (by kernel_rfl) (by kernel_rfl) (wf_small hi) hM ?_; obtain ⟨bs,rfl⟩:∃ bs,bs=b:=⟨b,rfl⟩)|refine opb1 (e:=82) ⟨tab_ok⟩ [.i .i64 i,.i .i64 2,.i .i64 (Se.nx ep),.i .i64 0,.i .i64 0] (by rfl) (by rfl) ?_|refine callO (f:=92) (A:=kgO 0 x.q x.p x.mb (M+1) (goneK K i) S1 (setD (setD D i none) i (some ⟨bs,q,[q],newV c i (Se.nx ep) (goneK K i).G.now h⟩)) true) 0 (fun z:{z:List Nat×Fam // vals z.2=(tellF (goneK K i,vals (setD (setD D i none) i (some ⟨bs,q,[q],newV c i (Se.nx ep) (goneK K i).G.now h⟩))) [(⟨i,⟨2,Se.nx ep,0,0⟩⟩:EvV)]).2}=>.t []) (fun z=>kgO 0 x.q x.p x.mb (M+1) (tellF (goneK K i,vals (setD (setD D i none) i (some ⟨bs,q,[q],newV c i (Se.nx ep) (goneK K i).G.now h⟩))) [(⟨i,⟨2,Se.nx ep,0,0⟩⟩:EvV)]).1 z.1.1 z.1.2 true) (fun w hH hA=>(tellT (n:=1) (A:=some ⟨b,0,none⟩) (es:=[(⟨i,⟨2,Se.nx ep,0,0⟩⟩:EvV)]) (hH.row 0 _ rfl rfl) hA (hH.far _ (List.mem_of_getElem? (i:=0) rfl) 0 _ rfl rfl) (Co.Ek.of_blk (lo:=0) (hH.row 3 _ rfl rfl) (Nat.zero_le _) (by decide)) rfl (by intro g hg; rw [List.mem_singleton.1 hg]; exact hH.far _ (List.mem_of_getElem? (i:=0) rfl) 3 _ rfl rfl) (by intro hm; exact hH.ne 0 3 _ _ rfl rfl rfl rfl (by decide) (List.mem_singleton.1 hm)) (by intro e he; rw [List.mem_singleton.1 he]; exact hi) (by rw [vals_set]; exact hti) (by decide)).mono (by rintro e w' ⟨z,rfl,h1,h2,h3,h4⟩; exact ⟨⟨z,h2⟩,rfl,h1,h3,h4⟩)) (fun z=>?_)|refine fin fun w' hH=>⟨z.1,rfl,by have:=hH.row 0 _ rfl rfl; rw [rowA_nil rfl rfl] at this; exact this,by rw [← hbo bs q]; exact Hold.ob hH (A:=kgO 0 x.q x.p x.mb (M+1) (tellF (goneK K i,vals (setD (setD D i none) i (some ⟨bs,q,[q],newV c i (Se.nx ep) (goneK K i).G.now h⟩))) [(⟨i,⟨2,Se.nx ep,0,0⟩⟩:EvV)]).1 z.1.1 z.1.2 true) 0 rfl,by rw [← hbo bs q]; exact z.2,hH.upd,fun g hg=>hH.own _ (List.mem_of_getElem? (i:=0) rfl) rfl g hg,hH.far _ (List.mem_of_getElem? (i:=0) rfl) 0 _ rfl rfl⟩|refine fin_s ?_))
  by_cases h2:d.v.h.b=h.b
  case neg =>
   by_cases h0:Se.nx ep=0
   ·have hep:nxE ep=Se.nx (Se.nx ep):=if_pos h0
    rw [hep] at hti hbo ⊢
    refine entH tab_ok (hold_gw hb hk hg) [.p 0 0,.i .i64 i,.a [.i .i64 h.ki,.i .i64 h.a,.i .i64 h.b,.i .i64 h.c]] Tryz.func140 Tryz.ntmps140 rfl rfl ?_
    repeat' (first | refine gq_ ?_|((conv=>whnf); first | intro b | refine drA (id:=3) ⟨tab_ok⟩ [3,10,20] ?_|refine drA ⟨tab_ok⟩ [] ?_|refine bto ?_|refine bfo ?_|refine And.intro ?_ ?_|refine oplo (b:=x.mb) (n:=M) (m:=ptrs D) (k:=3) (e:=100) 0 (.pointer none) (.v (.pointer (some ⟨d.b,0,none⟩))) true (by rfl) (by rfl) (by rfl) (by rfl) (fun w h=>kg_mp h) (by kernel_rfl) (by kernel_rfl) (fun w=>rfl) (wf_small hi) (by rw [hp]; rfl) (by rw [hp]; rfl) ?_|refine opnv (by rfl) (by rfl) ?_|refine punv (by rfl) (by rfl) ?_|refine opfv ⟨tab_ok⟩ (by rfl) (by rfl) (by rfl) (by rfl) ?_|refine pufv ⟨tab_ok⟩ (by rfl) (by rfl) (by rfl) (by rfl) ?_|refine opxc (g:=d.b) (off:=0+5) (.b false) (fun w hH=>by have:=(Hold.ob hH (A:=kgO 0 x.q x.p x.mb M K Sk D true) 0 rfl).f.hrd hd; rw [hhd] at this; exact this) ⟨tab_ok⟩ (by rfl) (by rfl) (by show Addr.add ⟨d.b,0,none⟩ 5=_; rw [Go.WideShapes.add_plain]) ?_|refine opxc (g:=d.b) (off:=0+1+1) (.i .i64 d.v.h.a) (fun w hH=>(Hold.ob hH (A:=kgO 0 x.q x.p x.mb M K Sk D true) 0 rfl).f.ha hd) ⟨tab_ok⟩ (by rfl) (by rfl) (by show Addr.add (Addr.add ⟨d.b,0,none⟩ 1) 1=_; rw [Go.WideShapes.add_plain,Go.WideShapes.add_plain]) ?_|refine opxc (g:=d.b) (off:=0+1+2) (.i .i64 d.v.h.b) (fun w hH=>(Hold.ob hH (A:=kgO 0 x.q x.p x.mb M K Sk D true) 0 rfl).f.hb hd) ⟨tab_ok⟩ (by rfl) (by rfl) (by show Addr.add (Addr.add ⟨d.b,0,none⟩ 1) 2=_; rw [Go.WideShapes.add_plain,Go.WideShapes.add_plain]) ?_|refine callO (f:=95) (A:=kgO 0 x.q x.p x.mb M K Sk D true) 0 (fun _:List Nat=>.t []) (fun S1=>kgO 0 x.q x.p x.mb M (goneK K i) S1 (setD D i none) true) (fun w hH hA=>endT (hH.row 0 _ rfl rfl) hA (hH.far _ (List.mem_of_getElem? (i:=0) rfl) 0 _ rfl rfl) hi ht.q ht.l) (fun S1=>?_)|refine callS (f:=197) (.i .i64 (Se.nx _)) (Se.nextT _) ?_|refine callH (f:=94) (.i .i64 (goneK K i).G.now) (fun w hH=>nowG (hH.row 0 _ rfl rfl) (Hold.ob hH (A:=kgO 0 x.q x.p x.mb M (goneK K i) S1 (setD D i none) true) 0 rfl) (hH.far _ (List.mem_of_getElem? (i:=0) rfl) 0 _ rfl rfl)) ?_|refine callN (f:=198) (ι:=Nat) (fun q=>.v (.pointer (some ⟨q,0,none⟩))) (fun q=>lkA 0 q ⟨c,i,Se.nx (Se.nx ep),0,0,0,0,false,cl (goneK K i).G.now⟩ [] [q] true) (fun w1 hH=>(Ln.newL c i (Se.nx (Se.nx ep)) (goneK K i).G.now (nx_bd _) w1).mono (by rintro e w' ⟨q,rfl,h1,h2⟩; exact ⟨q,rfl,h1.base (Nat.zero_le _),h2,h1.low⟩)) (fun q=>?_)|(refine opupN (A:=kgO 0 x.q x.p x.mb M (goneK K i) S1 (setD D i none) true) (C:=lkA 0 q ⟨c,i,Se.nx (Se.nx ep),0,0,0,0,false,cl (goneK K i).G.now⟩ [] [q] true) (r:=⟨b,103,true,0,[],[.v (.pointer (some ⟨q,0,none⟩)),.i .i64 h.ki,.i .i64 h.a,.i .i64 h.b,.i .i64 h.c,.b false],[],true⟩) (u:=.pointer (some ⟨b,0,none⟩)) (b:=x.mb) (n:=M) (mp:=ptrs (setD D i none)) (kt:=3) (e:=100) 0 1 2 (.p 2 0) (kgO 0 x.q x.p x.mb (M+1) (goneK K i) S1 (setD (setD D i none) i (some ⟨b,q,[q],newV c i (Se.nx (Se.nx ep)) (goneK K i).G.now h⟩)) true) (by rfl) (by rfl) (by rfl) (by rfl) (by rfl) (by rfl) (by rfl) (by decide) rfl rfl rfl (fun w h=>kg_mp h) (kg_mb ..) (by rfl) (fun w w' hA hC hB d1 d2 d3 hm hu=>KG.add (d:=⟨b,q,[q],newV c i (Se.nx (Se.nx ep)) (goneK K i).G.now h⟩) hA hi ⟨Nat.zero_le _,hB,hC,d3⟩ (bl_far d1 d2) hm hu) (fun g hg=>kg_add3 hg) (by kernel_rfl) (by kernel_rfl) (wf_small hi) hM ?_; obtain ⟨bs,rfl⟩:∃ bs,bs=b:=⟨b,rfl⟩)|refine opb1 (e:=82) ⟨tab_ok⟩ [.i .i64 i,.i .i64 2,.i .i64 (Se.nx (Se.nx ep)),.i .i64 0,.i .i64 0] (by rfl) (by rfl) ?_|refine callO (f:=92) (A:=kgO 0 x.q x.p x.mb (M+1) (goneK K i) S1 (setD (setD D i none) i (some ⟨bs,q,[q],newV c i (Se.nx (Se.nx ep)) (goneK K i).G.now h⟩)) true) 0 (fun z:{z:List Nat×Fam // vals z.2=(tellF (goneK K i,vals (setD (setD D i none) i (some ⟨bs,q,[q],newV c i (Se.nx (Se.nx ep)) (goneK K i).G.now h⟩))) [(⟨i,⟨2,Se.nx (Se.nx ep),0,0⟩⟩:EvV)]).2}=>.t []) (fun z=>kgO 0 x.q x.p x.mb (M+1) (tellF (goneK K i,vals (setD (setD D i none) i (some ⟨bs,q,[q],newV c i (Se.nx (Se.nx ep)) (goneK K i).G.now h⟩))) [(⟨i,⟨2,Se.nx (Se.nx ep),0,0⟩⟩:EvV)]).1 z.1.1 z.1.2 true) (fun w hH hA=>(tellT (n:=1) (A:=some ⟨b,0,none⟩) (es:=[(⟨i,⟨2,Se.nx (Se.nx ep),0,0⟩⟩:EvV)]) (hH.row 0 _ rfl rfl) hA (hH.far _ (List.mem_of_getElem? (i:=0) rfl) 0 _ rfl rfl) (Co.Ek.of_blk (lo:=0) (hH.row 3 _ rfl rfl) (Nat.zero_le _) (by decide)) rfl (by intro g hg; rw [List.mem_singleton.1 hg]; exact hH.far _ (List.mem_of_getElem? (i:=0) rfl) 3 _ rfl rfl) (by intro hm; exact hH.ne 0 3 _ _ rfl rfl rfl rfl (by decide) (List.mem_singleton.1 hm)) (by intro e he; rw [List.mem_singleton.1 he]; exact hi) (by rw [vals_set]; exact hti) (by decide)).mono (by rintro e w' ⟨z,rfl,h1,h2,h3,h4⟩; exact ⟨⟨z,h2⟩,rfl,h1,h3,h4⟩)) (fun z=>?_)|refine fin fun w' hH=>⟨z.1,rfl,by have:=hH.row 0 _ rfl rfl; rw [rowA_nil rfl rfl] at this; exact this,by rw [← hbo bs q]; exact Hold.ob hH (A:=kgO 0 x.q x.p x.mb (M+1) (tellF (goneK K i,vals (setD (setD D i none) i (some ⟨bs,q,[q],newV c i (Se.nx (Se.nx ep)) (goneK K i).G.now h⟩))) [(⟨i,⟨2,Se.nx (Se.nx ep),0,0⟩⟩:EvV)]).1 z.1.1 z.1.2 true) 0 rfl,by rw [← hbo bs q]; exact z.2,hH.upd,fun g hg=>hH.own _ (List.mem_of_getElem? (i:=0) rfl) rfl g hg,hH.far _ (List.mem_of_getElem? (i:=0) rfl) 0 _ rfl rfl⟩|refine fin_s ?_))
   ·have hep:nxE ep=Se.nx ep:=if_neg h0
    rw [hep] at hti hbo ⊢
    refine entH tab_ok (hold_gw hb hk hg) [.p 0 0,.i .i64 i,.a [.i .i64 h.ki,.i .i64 h.a,.i .i64 h.b,.i .i64 h.c]] Tryz.func140 Tryz.ntmps140 rfl rfl ?_
    repeat' (first | refine gq_ ?_|((conv=>whnf); first | intro b | refine drA (id:=3) ⟨tab_ok⟩ [3,10,20] ?_|refine drA ⟨tab_ok⟩ [] ?_|refine bto ?_|refine bfo ?_|refine And.intro ?_ ?_|refine oplo (b:=x.mb) (n:=M) (m:=ptrs D) (k:=3) (e:=100) 0 (.pointer none) (.v (.pointer (some ⟨d.b,0,none⟩))) true (by rfl) (by rfl) (by rfl) (by rfl) (fun w h=>kg_mp h) (by kernel_rfl) (by kernel_rfl) (fun w=>rfl) (wf_small hi) (by rw [hp]; rfl) (by rw [hp]; rfl) ?_|refine opnv (by rfl) (by rfl) ?_|refine punv (by rfl) (by rfl) ?_|refine opfv ⟨tab_ok⟩ (by rfl) (by rfl) (by rfl) (by rfl) ?_|refine pufv ⟨tab_ok⟩ (by rfl) (by rfl) (by rfl) (by rfl) ?_|refine opxc (g:=d.b) (off:=0+5) (.b false) (fun w hH=>by have:=(Hold.ob hH (A:=kgO 0 x.q x.p x.mb M K Sk D true) 0 rfl).f.hrd hd; rw [hhd] at this; exact this) ⟨tab_ok⟩ (by rfl) (by rfl) (by show Addr.add ⟨d.b,0,none⟩ 5=_; rw [Go.WideShapes.add_plain]) ?_|refine opxc (g:=d.b) (off:=0+1+1) (.i .i64 d.v.h.a) (fun w hH=>(Hold.ob hH (A:=kgO 0 x.q x.p x.mb M K Sk D true) 0 rfl).f.ha hd) ⟨tab_ok⟩ (by rfl) (by rfl) (by show Addr.add (Addr.add ⟨d.b,0,none⟩ 1) 1=_; rw [Go.WideShapes.add_plain,Go.WideShapes.add_plain]) ?_|refine opxc (g:=d.b) (off:=0+1+2) (.i .i64 d.v.h.b) (fun w hH=>(Hold.ob hH (A:=kgO 0 x.q x.p x.mb M K Sk D true) 0 rfl).f.hb hd) ⟨tab_ok⟩ (by rfl) (by rfl) (by show Addr.add (Addr.add ⟨d.b,0,none⟩ 1) 2=_; rw [Go.WideShapes.add_plain,Go.WideShapes.add_plain]) ?_|refine callO (f:=95) (A:=kgO 0 x.q x.p x.mb M K Sk D true) 0 (fun _:List Nat=>.t []) (fun S1=>kgO 0 x.q x.p x.mb M (goneK K i) S1 (setD D i none) true) (fun w hH hA=>endT (hH.row 0 _ rfl rfl) hA (hH.far _ (List.mem_of_getElem? (i:=0) rfl) 0 _ rfl rfl) hi ht.q ht.l) (fun S1=>?_)|refine callS (f:=197) (.i .i64 (Se.nx _)) (Se.nextT _) ?_|refine callH (f:=94) (.i .i64 (goneK K i).G.now) (fun w hH=>nowG (hH.row 0 _ rfl rfl) (Hold.ob hH (A:=kgO 0 x.q x.p x.mb M (goneK K i) S1 (setD D i none) true) 0 rfl) (hH.far _ (List.mem_of_getElem? (i:=0) rfl) 0 _ rfl rfl)) ?_|refine callN (f:=198) (ι:=Nat) (fun q=>.v (.pointer (some ⟨q,0,none⟩))) (fun q=>lkA 0 q ⟨c,i,Se.nx ep,0,0,0,0,false,cl (goneK K i).G.now⟩ [] [q] true) (fun w1 hH=>(Ln.newL c i (Se.nx ep) (goneK K i).G.now (nx_bd _) w1).mono (by rintro e w' ⟨q,rfl,h1,h2⟩; exact ⟨q,rfl,h1.base (Nat.zero_le _),h2,h1.low⟩)) (fun q=>?_)|(refine opupN (A:=kgO 0 x.q x.p x.mb M (goneK K i) S1 (setD D i none) true) (C:=lkA 0 q ⟨c,i,Se.nx ep,0,0,0,0,false,cl (goneK K i).G.now⟩ [] [q] true) (r:=⟨b,103,true,0,[],[.v (.pointer (some ⟨q,0,none⟩)),.i .i64 h.ki,.i .i64 h.a,.i .i64 h.b,.i .i64 h.c,.b false],[],true⟩) (u:=.pointer (some ⟨b,0,none⟩)) (b:=x.mb) (n:=M) (mp:=ptrs (setD D i none)) (kt:=3) (e:=100) 0 1 2 (.p 2 0) (kgO 0 x.q x.p x.mb (M+1) (goneK K i) S1 (setD (setD D i none) i (some ⟨b,q,[q],newV c i (Se.nx ep) (goneK K i).G.now h⟩)) true) (by rfl) (by rfl) (by rfl) (by rfl) (by rfl) (by rfl) (by rfl) (by decide) rfl rfl rfl (fun w h=>kg_mp h) (kg_mb ..) (by rfl) (fun w w' hA hC hB d1 d2 d3 hm hu=>KG.add (d:=⟨b,q,[q],newV c i (Se.nx ep) (goneK K i).G.now h⟩) hA hi ⟨Nat.zero_le _,hB,hC,d3⟩ (bl_far d1 d2) hm hu) (fun g hg=>kg_add3 hg) (by kernel_rfl) (by kernel_rfl) (wf_small hi) hM ?_; obtain ⟨bs,rfl⟩:∃ bs,bs=b:=⟨b,rfl⟩)|refine opb1 (e:=82) ⟨tab_ok⟩ [.i .i64 i,.i .i64 2,.i .i64 (Se.nx ep),.i .i64 0,.i .i64 0] (by rfl) (by rfl) ?_|refine callO (f:=92) (A:=kgO 0 x.q x.p x.mb (M+1) (goneK K i) S1 (setD (setD D i none) i (some ⟨bs,q,[q],newV c i (Se.nx ep) (goneK K i).G.now h⟩)) true) 0 (fun z:{z:List Nat×Fam // vals z.2=(tellF (goneK K i,vals (setD (setD D i none) i (some ⟨bs,q,[q],newV c i (Se.nx ep) (goneK K i).G.now h⟩))) [(⟨i,⟨2,Se.nx ep,0,0⟩⟩:EvV)]).2}=>.t []) (fun z=>kgO 0 x.q x.p x.mb (M+1) (tellF (goneK K i,vals (setD (setD D i none) i (some ⟨bs,q,[q],newV c i (Se.nx ep) (goneK K i).G.now h⟩))) [(⟨i,⟨2,Se.nx ep,0,0⟩⟩:EvV)]).1 z.1.1 z.1.2 true) (fun w hH hA=>(tellT (n:=1) (A:=some ⟨b,0,none⟩) (es:=[(⟨i,⟨2,Se.nx ep,0,0⟩⟩:EvV)]) (hH.row 0 _ rfl rfl) hA (hH.far _ (List.mem_of_getElem? (i:=0) rfl) 0 _ rfl rfl) (Co.Ek.of_blk (lo:=0) (hH.row 3 _ rfl rfl) (Nat.zero_le _) (by decide)) rfl (by intro g hg; rw [List.mem_singleton.1 hg]; exact hH.far _ (List.mem_of_getElem? (i:=0) rfl) 3 _ rfl rfl) (by intro hm; exact hH.ne 0 3 _ _ rfl rfl rfl rfl (by decide) (List.mem_singleton.1 hm)) (by intro e he; rw [List.mem_singleton.1 he]; exact hi) (by rw [vals_set]; exact hti) (by decide)).mono (by rintro e w' ⟨z,rfl,h1,h2,h3,h4⟩; exact ⟨⟨z,h2⟩,rfl,h1,h3,h4⟩)) (fun z=>?_)|refine fin fun w' hH=>⟨z.1,rfl,by have:=hH.row 0 _ rfl rfl; rw [rowA_nil rfl rfl] at this; exact this,by rw [← hbo bs q]; exact Hold.ob hH (A:=kgO 0 x.q x.p x.mb (M+1) (tellF (goneK K i,vals (setD (setD D i none) i (some ⟨bs,q,[q],newV c i (Se.nx ep) (goneK K i).G.now h⟩))) [(⟨i,⟨2,Se.nx ep,0,0⟩⟩:EvV)]).1 z.1.1 z.1.2 true) 0 rfl,by rw [← hbo bs q]; exact z.2,hH.upd,fun g hg=>hH.own _ (List.mem_of_getElem? (i:=0) rfl) rfl g hg,hH.far _ (List.mem_of_getElem? (i:=0) rfl) 0 _ rfl rfl⟩|refine fin_s ?_))
  simp [keepB,hhd,h1,h2] at hkp
theorem welKeep {d:SeD} (h:MsgV) (hd:D i=some d) (hkp:keepB d.v h=true) (hb:Blk w gq 96 (gwA c x ep)) (hk:KG 0 x.q x.p x.mb M K Sk D w) (hg:gq∉kgF x.mb Sk D) (hi:0≤i∧i < 64) :
  Calls Tryz.prog 140 #[.pointer (some ⟨gq,0,none⟩),.int .i64 i,.agg #[.int .i64 h.ki,.int .i64 h.a,.int .i64 h.b,.int .i64 h.c]] w (WelQ gq (M+1) c x (kgF x.mb Sk D) w ((K,vals D),ep)):=by
 have hp:ptrs D i=some (.pointer (some ⟨d.b,0,none⟩)):=by unfold ptrs; rw [hd]; rfl
 simp only [keepB,Bool.and_eq_true,Bool.not_eq_true',beq_iff_eq] at hkp
 obtain ⟨hhd,h1,h2⟩:=hkp
 refine entH tab_ok (hold_gw hb hk hg) [.p 0 0,.i .i64 i,.a [.i .i64 h.ki,.i .i64 h.a,.i .i64 h.b,.i .i64 h.c]] Tryz.func140 Tryz.ntmps140 rfl rfl ?_
 repeat' (first | refine gq_ ?_|((conv=>whnf); first | intro b | refine drA (id:=3) ⟨tab_ok⟩ [3,10,20] ?_|refine drA ⟨tab_ok⟩ [] ?_|refine bto ?_|refine bfo ?_|refine And.intro ?_ ?_|refine oplo (b:=x.mb) (n:=M) (m:=ptrs D) (k:=3) (e:=100) 0 (.pointer none) (.v (.pointer (some ⟨d.b,0,none⟩))) true (by rfl) (by rfl) (by rfl) (by rfl) (fun w h=>kg_mp h) (by kernel_rfl) (by kernel_rfl) (fun w=>rfl) (wf_small hi) (by rw [hp]; rfl) (by rw [hp]; rfl) ?_|refine opnv (by rfl) (by rfl) ?_|refine punv (by rfl) (by rfl) ?_|refine opfv ⟨tab_ok⟩ (by rfl) (by rfl) (by rfl) (by rfl) ?_|refine pufv ⟨tab_ok⟩ (by rfl) (by rfl) (by rfl) (by rfl) ?_|refine opxc (g:=d.b) (off:=0+5) (.b false) (fun w hH=>by have:=(Hold.ob hH (A:=kgO 0 x.q x.p x.mb M K Sk D true) 0 rfl).f.hrd hd; rw [hhd] at this; exact this) ⟨tab_ok⟩ (by rfl) (by rfl) (by show Addr.add ⟨d.b,0,none⟩ 5=_; rw [Go.WideShapes.add_plain]) ?_|refine opxc (g:=d.b) (off:=0+1+1) (.i .i64 d.v.h.a) (fun w hH=>(Hold.ob hH (A:=kgO 0 x.q x.p x.mb M K Sk D true) 0 rfl).f.ha hd) ⟨tab_ok⟩ (by rfl) (by rfl) (by show Addr.add (Addr.add ⟨d.b,0,none⟩ 1) 1=_; rw [Go.WideShapes.add_plain,Go.WideShapes.add_plain]) ?_|refine opxc (g:=d.b) (off:=0+1+2) (.i .i64 d.v.h.b) (fun w hH=>(Hold.ob hH (A:=kgO 0 x.q x.p x.mb M K Sk D true) 0 rfl).f.hb hd) ⟨tab_ok⟩ (by rfl) (by rfl) (by show Addr.add (Addr.add ⟨d.b,0,none⟩ 1) 2=_; rw [Go.WideShapes.add_plain,Go.WideShapes.add_plain]) ?_|refine fin fun w' hH=>⟨(Sk,D),rfl,by have:=hH.row 0 _ rfl rfl; rw [rowA_nil rfl rfl] at this; exact this,(Hold.ob hH (A:=kgO 0 x.q x.p x.mb M K Sk D true) 0 rfl).more (Nat.le_succ _),rfl,hH.upd,fun g hg=>.inl (List.mem_cons_of_mem _ hg),hg⟩|refine fin_s ?_))
theorem welT {T:Int} (h:MsgV) (hb:Blk w gq 96 (gwA c x ep)) (hk:KG 0 x.q x.p x.mb M K Sk D w) (hg:gq∉kgF x.mb Sk D) (hi:0≤i∧i < 64) (ht:TI T (K,vals D)) (hT:0≤T) (hM:M < 1000000) :
  Calls Tryz.prog 140 #[.pointer (some ⟨gq,0,none⟩),.int .i64 i,.agg #[.int .i64 h.ki,.int .i64 h.a,.int .i64 h.b,.int .i64 h.c]] w (WelQ gq (M+1) c x (kgF x.mb Sk D) w (welK c (K,vals D) ep i h)):=by
 unfold welK
 cases hd:D i with
 | none =>
  have hv:(K,vals D).2 i=none:=by show vals D i=none; unfold vals; rw [hd]; rfl
  rw [hv]
  exact welNew h hd hb hk hg hi ht hT hM
 | some d =>
  have hv:(K,vals D).2 i=some d.v:=by show vals D i=some d.v; unfold vals; rw [hd]; rfl
  rw [hv]
  cases hkp:keepB d.v h with
  | true =>
   simp only [hkp,if_true]
   exact welKeep h hd hkp hb hk hg hi
  | false =>
   simp only [hkp]
   exact welEnd h hd hkp hb hk hg hi ht hT hM
end
end Gw
namespace Gw
open Go.RowKit Ba Mem En Go.Proofs.YtepfmfalebmcnaaGreatDoor.Ty Mp Tm
open Ri (MsgV)
open Mg (PktV pktC)
open Ln (LkV LO PkV recvK recvL recvM takeB)
open Co (KV Pt KW Nr evE EvV evs inC Hold.ob)
set_option maxRecDepth 100000
theorem wf_byte {I:Int} (h:0≤I∧I≤255):(Lit.int .i64 I).wf=true:=by
 have h1:IntKind.i64.min = -9223372036854775808:=by decide
 have h2:IntKind.i64.max=9223372036854775807:=by decide
 simp [Lit.wf]; omega
def toK (p:PktV):PkV:=⟨p.se,p.ep,p.sq,p.ak,p.has,⟨p.ki,p.a,p.b,p.c⟩⟩
def msgP (p:PktV):MsgV:=⟨p.ki,p.a,p.b,p.c⟩
def recvS (v:SeV) (p:PktV) (now:Int) (hd:Bool):SeV:=⟨recvK v.k v.ls.length (toK p) now,recvL v.k v.ls (toK p),v.h,hd⟩
def comeK (c:CfgV) (x:Kv) (ep:Int) (p:PktV):Kv×Int :=
 if helB c p=true then welK c x ep p.se (msgP p) else match x.2 p.se with
 | none=>(x,ep)
 | some v=>if takeB v.k (toK p)=true then (tellF (saidK x.1 p.se v.h.b (msgP p),setV x.2 p.se (some (recvS v p x.1.G.now true))) (saidE x.1 p.se v.h.b (msgP p)),ep) else ((x.1,setV x.2 p.se (some (recvS v p x.1.G.now v.hd))),ep)
theorem recv_len (v:SeV) (p:PktV) (now:Int) (b:Bool):(recvS v p now b).ls.length≤v.ls.length:=by
 unfold recvS recvL Ln.hearL
 (repeat' split) <;> simp
theorem recv_st (v:SeV) (p:PktV) (now:Int) (b:Bool):(recvS v p now b).k.st=v.k.st∨(recvS v p now b).k.st=0:=by
 unfold recvS recvK Ln.hearK
 (repeat' split) <;> simp
theorem said_s {K:KV} {n f:Int} {m:MsgV}:∀ e∈saidE K n f m,e.s=n:=by
 intro e he
 unfold saidE at he
 split at he
 ·simp [evs] at he; rw [he]
 ·split at he
  ·simp only [evs,List.mem_map] at he
   obtain ⟨_,_,rfl⟩:=he; rfl
  ·cases he
theorem said_len {K:KV} {n f:Int} {m:MsgV}:(saidE K n f m).length≤1:=by
 unfold saidE
 split
 ·simp [evs]
 ·split
  ·rw [evs_len]; exact Lc.hearM_len K n m
  ·simp
section
variable {lo q mb M:Nat} {p:Pt} {K:KV} {Sk:List Nat} {D:Fam} {w w':World} {i:Int} {d:SeD}
theorem KG.heard {d':SeD} (h:KG lo q p mb M K Sk D w) (hd:D i=some d) (hb:d'.b=d.b) (hS:d'.S=d.S) (hk:d'.q=d.q∧d'.v.k=d.v.k∧d'.v.ls=d.v.ls) (hB:Blk w' d.b 103 (seC d')) (u:Upd [d.b] w w'):KG lo q p mb M K Sk (setD D i (some d')) w':=by
 obtain ⟨hi,hs⟩:=h.f.at_ i d hd
 have hbl:blS d'=blS d:=by unfold blS; rw [hb,hS]
 have u2:Upd (blS d) w w':=u.mono (fun g hg _=>by rw [List.mem_singleton] at hg; subst hg; exact List.mem_cons_self ..)
 have hs':SeO lo d' w':=by
  refine ⟨by rw [hb]; exact hs.1,by rw [hb]; exact hB, ?_,by rw [hb,hS]; exact hs.2.2.2⟩
  rw [hk.1,hk.2.1,hk.2.2,hS]
  exact hs.2.2.1.upd u (fun g hg hgb=>by rw [List.mem_singleton] at hgb; subst hgb; exact hs.2.2.2 hg)
 have hn:∀ g∈blS d',g∈blS d∨w.heap.size≤g:=fun g hg=>.inl (hbl ▸ hg)
 refine ⟨h.k.upd u (fun g hg hgb=>?_),h.f.set hd hb u2 hs' hn,fun g hg hgm=>?_⟩
 ·rw [List.mem_singleton] at hgb; subst hgb
  exact h.far _ hg (List.mem_cons_of_mem _ (fam_at hd hi (List.mem_cons_self ..)))
 ·rcases fam_set hd hi hn g hgm with hgm | hgm
  ·exact h.far g hg hgm
  ·have:=h.k.lt g hg; omega
theorem kg_set2 {d':SeD} (hd:D i=some d) (hi:0≤i∧i < 64) (hbl:blS d'=blS d):∀ g∈kgF mb Sk (setD D i (some d')),g∈kgF mb Sk D:=fun g hg=>by
 rcases List.mem_append.1 hg with hg | hg
 ·exact List.mem_append.2 (.inl hg)
 ·rcases List.mem_cons.1 hg with rfl | hg
  ·exact List.mem_append.2 (.inr (List.mem_cons_self ..))
  ·obtain ⟨k,hk,e,he,hg⟩:=fam_mem.1 hg
   by_cases hj:(k:Int)=i
   ·rw [hj,setD_at] at he; cases he
    exact List.mem_append.2 (.inr (List.mem_cons_of_mem _ (fam_at hd hi (hbl ▸ hg))))
   ·rw [setD_ne hj] at he
    exact List.mem_append.2 (.inr (List.mem_cons_of_mem _ (fam_mem.2 ⟨k,hk,e,he,hg⟩)))
end
theorem five_lt (d:SeD):0+5 < (seC d).size:=by show 5 < 6; decide
attribute [local irreducible] Go.Calls
section
variable {gq M:Nat} {c:CfgV} {x:Gp} {ep:Int} {K:KV} {Sk:List Nat} {D:Fam} {w:World}
theorem welRO {T:Int} {i:Int} (h:MsgV) {w:World} (hb:Blk w gq 96 (gwA c x ep)) (hk:KG 0 x.q x.p x.mb M K Sk D w) (hg:gq∉kgF x.mb Sk D) (hi:0≤i∧i < 64) (ht:TI T (K,vals D)) (hT:0≤T) (hM:M < 1000000) :
  Calls Tryz.prog 140 #[.pointer (some ⟨gq,0,none⟩),.int .i64 i,.agg #[.int .i64 h.ki,.int .i64 h.a,.int .i64 h.b,.int .i64 h.c]] w fun e w'=>∃ y:{y:List Nat×Fam // vals y.2=(welK c (K,vals D) ep i h).1.2},e=.returned (.tuple #[])∧Blk w' gq 96 (gwA c x (welK c (K,vals D) ep i h).2)∧KG 0 x.q x.p x.mb (M+1) (welK c (K,vals D) ep i h).1.1 y.1.1 y.1.2 w'∧Upd (gq::kgF x.mb Sk D) w w'∧∀ g∈kgF x.mb y.1.1 y.1.2,g∈kgF x.mb Sk D∨w.heap.size≤g :=
 (welT h hb hk hg hi ht hT hM).mono (by
  rintro e w' ⟨y,rfl,h1,h2,h3,h4,h5,h6⟩
  refine ⟨⟨y,h3⟩,rfl,h1,h2,h4,fun g hg1=>?_⟩
  rcases h5 g hg1 with hg2 | hg2
  ·rcases List.mem_cons.1 hg2 with e | hg2
   ·rw [e] at hg1; exact absurd hg1 h6
   ·exact .inl hg2
  ·exact .inr hg2)
set_option maxHeartbeats 4000000 in
theorem comeT {T:Int} (p:PktV) (hse:0≤p.se∧p.se≤255) (hb:Blk w gq 96 (gwA c x ep)) (hk:KG 0 x.q x.p x.mb M K Sk D w) (hg:gq∉kgF x.mb Sk D) (ht:TI T (K,vals D)) (hT:0≤T) (hM:M < 1000000) (h0:K.G.cars.length≤10000) (hin:∀ n,Le.hasL K.L n=true→inC K (Le.ofL K.L n)) (hsd:∀ n f m,(saidK K n f m).Q.length≤1000∧(saidK K n f m).L.length≤10000) :
  Calls Tryz.prog 101 #[.pointer (some ⟨gq,0,none⟩),.agg (pktC p)] w (WelQ gq (M+1) c x (kgF x.mb Sk D) w (comeK c (K,vals D) ep p)):=by
 unfold comeK
 cases hh:helB c p with
 | true =>
  have hi:0≤p.se∧p.se < 64:=by
   simp only [helB,Bool.and_eq_true,decide_eq_true_eq] at hh
   have:=(ses_bd c).2; omega
  simp only [if_true]
  refine entH tab_ok (hold_gw hb hk hg) [.p 0 0,.a [.i .i64 p.se,.i .i64 p.ep,.i .i64 p.sq,.i .i64 p.ak,.b p.has,.i .i64 p.ki,.i .i64 p.a,.i .i64 p.b,.i .i64 p.c]] Tryz.func101 Tryz.ntmps101 rfl rfl ?_
  repeat' (first | refine gs_ ?_|((conv=>whnf); first | intro b | refine callH (f:=139) (.b true) (fun w hH=>by have:=helT (hH.row 0 _ rfl rfl) p; rw [hh] at this; exact this) ?_|refine callRO (f:=140) 0 0 (A:=kgO 0 x.q x.p x.mb M K Sk D true) (fun y:{y:List Nat×Fam // vals y.2=(welK c (K,vals D) ep p.se (msgP p)).1.2}=>.t []) (fun y=>gwS c x (welK c (K,vals D) ep p.se (msgP p)).2) (fun y=>kgO 0 x.q x.p x.mb (M+1) (welK c (K,vals D) ep p.se (msgP p)).1.1 y.1.1 y.1.2 true) (fun w hH hB hA hq=>welRO (msgP p) hB hA hq hi ht hT hM) (fun y=>?_)|refine fin fun w' hH=>⟨y.1,rfl,by have:=hH.row 0 _ rfl rfl; rw [rowA_nil rfl rfl] at this; exact this,Hold.ob hH (A:=kgO 0 x.q x.p x.mb (M+1) (welK c (K,vals D) ep p.se (msgP p)).1.1 y.1.1 y.1.2 true) 0 rfl,y.2,hH.upd,fun g hg=>hH.own _ (List.mem_of_getElem? (i:=0) rfl) rfl g hg,hH.far _ (List.mem_of_getElem? (i:=0) rfl) 0 _ rfl rfl⟩|refine fin_s ?_))
 | false =>
  simp only [Bool.false_eq_true,if_false]
  cases hd:D p.se with
  | none =>
   have hp:ptrs D p.se=none:=by unfold ptrs; rw [hd]; rfl
   have hv:vals D p.se=none:=by unfold vals; rw [hd]; rfl
   simp only [hv]
   refine entH tab_ok (hold_gw hb hk hg) [.p 0 0,.a [.i .i64 p.se,.i .i64 p.ep,.i .i64 p.sq,.i .i64 p.ak,.b p.has,.i .i64 p.ki,.i .i64 p.a,.i .i64 p.b,.i .i64 p.c]] Tryz.func101 Tryz.ntmps101 rfl rfl ?_
   repeat' (first | refine gq_ ?_|((conv=>whnf); first | intro b | refine drA (id:=5) ⟨tab_ok⟩ [3] ?_|refine drA (id:=8) ⟨tab_ok⟩ [8] ?_|refine drA ⟨tab_ok⟩ [] ?_|refine And.intro ?_ ?_|refine callH (f:=139) (.b false) (fun w hH=>by have:=helT (hH.row 0 _ rfl rfl) p; rw [hh] at this; exact this) ?_|refine oplo (b:=x.mb) (n:=M) (m:=ptrs D) (k:=3) (e:=100) 0 (.pointer none) (.v (.pointer none)) false (by rfl) (by rfl) (by rfl) (by rfl) (fun w h=>kg_mp h) (by kernel_rfl) (by kernel_rfl) (fun w=>rfl) (wf_byte hse) (by rw [hp]; rfl) (by rw [hp]; rfl) ?_|refine fin fun w' hH=>⟨(Sk,D),rfl,by have:=hH.row 0 _ rfl rfl; rw [rowA_nil rfl rfl] at this; exact this,(Hold.ob hH (A:=kgO 0 x.q x.p x.mb M K Sk D true) 0 rfl).more (Nat.le_succ _),rfl,hH.upd,fun g hg=>hH.own _ (List.mem_of_getElem? (i:=0) rfl) rfl g hg,hH.far _ (List.mem_of_getElem? (i:=0) rfl) 0 _ rfl rfl⟩|refine fin_s ?_))
  | some d =>
   have hp:ptrs D p.se=some (.pointer (some ⟨d.b,0,none⟩)):=by unfold ptrs; rw [hd]; rfl
   have hv:vals D p.se=some d.v:=by unfold vals; rw [hd]; rfl
   have hi:=(hk.f.at_ _ d hd).1
   have hls:=ht.s _ _ hv
   have hrec:=fun w S (hL:LO 0 d.q d.v.k d.v.ls S w)=>Ln.recvT hL (toK p) K.G.now (by omega)
   simp only [hv]
   cases htk:takeB d.v.k (toK p) with
   | false =>
    have hm:recvM d.v.k (toK p)=Ln.zeroM:=by unfold recvM; rw [htk]; rfl
    rw [htk,hm] at hrec
    have hvs:∀ S',vals (setD D p.se (some ⟨d.b,d.q,S',recvS d.v p K.G.now d.v.hd⟩))=setV (vals D) p.se (some (recvS d.v p K.G.now d.v.hd)):=fun S'=>by rw [vals_set]; rfl
    simp only [Bool.false_eq_true,if_false]
    refine entH tab_ok (hold_gw hb hk hg) [.p 0 0,.a [.i .i64 p.se,.i .i64 p.ep,.i .i64 p.sq,.i .i64 p.ak,.b p.has,.i .i64 p.ki,.i .i64 p.a,.i .i64 p.b,.i .i64 p.c]] Tryz.func101 Tryz.ntmps101 rfl rfl ?_
    repeat' (first | refine gq_ ?_|((conv=>whnf); first | intro b | refine drA (id:=5) ⟨tab_ok⟩ [3] ?_|refine drA (id:=8) ⟨tab_ok⟩ [8] ?_|refine drA ⟨tab_ok⟩ [] ?_|refine And.intro ?_ ?_|refine callH (f:=139) (.b false) (fun w hH=>by have:=helT (hH.row 0 _ rfl rfl) p; rw [hh] at this; exact this) ?_|refine oplo (b:=x.mb) (n:=M) (m:=ptrs D) (k:=3) (e:=100) 0 (.pointer none) (.v (.pointer (some ⟨d.b,0,none⟩))) true (by rfl) (by rfl) (by rfl) (by rfl) (fun w h=>kg_mp h) (by kernel_rfl) (by kernel_rfl) (fun w=>rfl) (wf_byte hse) (by rw [hp]; rfl) (by rw [hp]; rfl) ?_|refine opnv (by rfl) (by rfl) ?_|refine punv (by rfl) (by rfl) ?_|refine opfv ⟨tab_ok⟩ (by rfl) (by rfl) (by rfl) (by rfl) ?_|refine pufv ⟨tab_ok⟩ (by rfl) (by rfl) (by rfl) (by rfl) ?_|refine opxc (g:=d.b) (off:=0+0) (.v (.pointer (some ⟨d.q,0,none⟩))) (fun w hH=>(Hold.ob hH (A:=kgO 0 x.q x.p x.mb M K Sk D true) 0 rfl).f.cell hd) ⟨tab_ok⟩ (by rfl) (by rfl) (by show Addr.add ⟨d.b,0,none⟩ 0=_; rw [Go.WideShapes.add_plain]) ?_|refine callH (f:=94) (.i .i64 K.G.now) (fun w hH=>nowG (hH.row 0 _ rfl rfl) (Hold.ob hH (A:=kgO 0 x.q x.p x.mb M K Sk D true) 0 rfl) (hH.far _ (List.mem_of_getElem? (i:=0) rfl) 0 _ rfl rfl)) ?_|refine callO (f:=141) (A:=kgO 0 x.q x.p x.mb M K Sk D true) 0 (fun _:List Nat=>.t [.a [.i .i64 Ln.zeroM.ki,.i .i64 Ln.zeroM.a,.i .i64 Ln.zeroM.b,.i .i64 Ln.zeroM.c],.b false]) (fun S'=>kgO 0 x.q x.p x.mb M K Sk (setD D p.se (some ⟨d.b,d.q,S',recvS d.v p K.G.now d.v.hd⟩)) true) (fun w hH hA=>KG.link hA hd (fun hL=>hrec w _ hL)) (fun S'=>?_)|refine fin fun w' hH=>⟨(Sk,setD D p.se (some ⟨d.b,d.q,S',recvS d.v p K.G.now d.v.hd⟩)),rfl,by have:=hH.row 0 _ rfl rfl; rw [rowA_nil rfl rfl] at this; exact this,(Hold.ob hH (A:=kgO 0 x.q x.p x.mb M K Sk (setD D p.se (some ⟨d.b,d.q,S',recvS d.v p K.G.now d.v.hd⟩)) true) 0 rfl).more (Nat.le_succ _),hvs S',hH.upd,fun g hg=>hH.own _ (List.mem_of_getElem? (i:=0) rfl) rfl g hg,hH.far _ (List.mem_of_getElem? (i:=0) rfl) 0 _ rfl rfl⟩|refine fin_s ?_))
   | true =>
    have hm:recvM d.v.k (toK p)=msgP p:=by unfold recvM; rw [htk]; rfl
    rw [htk,hm] at hrec
    have hvs:∀ S',vals (setD (setD D p.se (some ⟨d.b,d.q,S',recvS d.v p K.G.now d.v.hd⟩)) p.se (some ⟨d.b,d.q,S',recvS d.v p K.G.now true⟩))=setV (vals D) p.se (some (recvS d.v p K.G.now true)):=fun S'=>by rw [vals_set,vals_set,setV_setV]; rfl
    have hst:=recv_st d.v p K.G.now true
    have hln:=recv_len d.v p K.G.now true
    have hvt:=ht.t _ _ hv
    have hti:TI T (saidK K p.se d.v.h.b (msgP p),setV (vals D) p.se (some (recvS d.v p K.G.now true))):=by
     have h1:=ht.set p.se (recvS d.v p K.G.now true) (by omega) (by omega)
     exact ⟨(hsd _ _ _).1,(hsd _ _ _).2,h1.s,h1.t⟩
    simp only [if_true]
    refine entH tab_ok (hold_gw hb hk hg) [.p 0 0,.a [.i .i64 p.se,.i .i64 p.ep,.i .i64 p.sq,.i .i64 p.ak,.b p.has,.i .i64 p.ki,.i .i64 p.a,.i .i64 p.b,.i .i64 p.c]] Tryz.func101 Tryz.ntmps101 rfl rfl ?_
    repeat' (first | refine gq_ ?_|((conv=>whnf); first | intro b | refine drA (id:=5) ⟨tab_ok⟩ [3] ?_|refine drA (id:=8) ⟨tab_ok⟩ [8] ?_|refine drA ⟨tab_ok⟩ [] ?_|refine And.intro ?_ ?_|refine callH (f:=139) (.b false) (fun w hH=>by have:=helT (hH.row 0 _ rfl rfl) p; rw [hh] at this; exact this) ?_|refine oplo (b:=x.mb) (n:=M) (m:=ptrs D) (k:=3) (e:=100) 0 (.pointer none) (.v (.pointer (some ⟨d.b,0,none⟩))) true (by rfl) (by rfl) (by rfl) (by rfl) (fun w h=>kg_mp h) (by kernel_rfl) (by kernel_rfl) (fun w=>rfl) (wf_byte hse) (by rw [hp]; rfl) (by rw [hp]; rfl) ?_|refine opnv (by rfl) (by rfl) ?_|refine punv (by rfl) (by rfl) ?_|refine opfv ⟨tab_ok⟩ (by rfl) (by rfl) (by rfl) (by rfl) ?_|refine pufv ⟨tab_ok⟩ (by rfl) (by rfl) (by rfl) (by rfl) ?_|refine opxc (g:=d.b) (off:=0+0) (.v (.pointer (some ⟨d.q,0,none⟩))) (fun w hH=>(Hold.ob hH (A:=kgO 0 x.q x.p x.mb M K Sk D true) 0 rfl).f.cell hd) ⟨tab_ok⟩ (by rfl) (by rfl) (by show Addr.add ⟨d.b,0,none⟩ 0=_; rw [Go.WideShapes.add_plain]) ?_|refine callH (f:=94) (.i .i64 K.G.now) (fun w hH=>nowG (hH.row 0 _ rfl rfl) (Hold.ob hH (A:=kgO 0 x.q x.p x.mb M K Sk D true) 0 rfl) (hH.far _ (List.mem_of_getElem? (i:=0) rfl) 0 _ rfl rfl)) ?_|refine callO (f:=141) (A:=kgO 0 x.q x.p x.mb M K Sk D true) 0 (fun _:List Nat=>.t [.a [.i .i64 (msgP p).ki,.i .i64 (msgP p).a,.i .i64 (msgP p).b,.i .i64 (msgP p).c],.b true]) (fun S'=>kgO 0 x.q x.p x.mb M K Sk (setD D p.se (some ⟨d.b,d.q,S',recvS d.v p K.G.now d.v.hd⟩)) true) (fun w hH hA=>KG.link hA hd (fun hL=>hrec w _ hL)) (fun S'=>?_)|refine opsv ⟨tab_ok⟩ 0 (A:=kgO 0 x.q x.p x.mb M K Sk (setD D p.se (some ⟨d.b,d.q,S',recvS d.v p K.G.now d.v.hd⟩)) true) (kgO 0 x.q x.p x.mb M K Sk (setD (setD D p.se (some ⟨d.b,d.q,S',recvS d.v p K.G.now d.v.hd⟩)) p.se (some ⟨d.b,d.q,S',recvS d.v p K.G.now true⟩)) true) (T:=103) (g:=d.b) (off:=0+5) (v:=.b true) (cs:=seC ⟨d.b,d.q,S',recvS d.v p K.G.now d.v.hd⟩) (cs':=seC ⟨d.b,d.q,S',recvS d.v p K.G.now true⟩) (by rfl) (by rfl) (by show Addr.add ⟨d.b,0,none⟩ 5=_; rw [Go.WideShapes.add_plain]) (by rfl) (by rfl) rfl (fun w h=>((KG.f h).at_ p.se ⟨d.b,d.q,S',recvS d.v p K.G.now d.v.hd⟩ (setD_at _ _ _)).2.2.1) (five_lt _) rfl (fun w w' h hB hu=>KG.heard (d:=⟨d.b,d.q,S',recvS d.v p K.G.now d.v.hd⟩) (d':=⟨d.b,d.q,S',recvS d.v p K.G.now true⟩) h (setD_at _ _ _) rfl rfl ⟨rfl,rfl,rfl⟩ hB hu) (List.mem_append.2 (.inr (List.mem_cons_of_mem _ (fam_at (d:=⟨d.b,d.q,S',recvS d.v p K.G.now d.v.hd⟩) (setD_at _ _ _) hi (List.mem_cons_self ..))))) (kg_set2 (d:=⟨d.b,d.q,S',recvS d.v p K.G.now d.v.hd⟩) (d':=⟨d.b,d.q,S',recvS d.v p K.G.now true⟩) (setD_at _ _ _) hi rfl) ?_|refine opxc (g:=d.b) (off:=0+1+2) (.i .i64 d.v.h.b) (fun w hH=>FO.hb (i:=p.se) (d:=⟨d.b,d.q,S',recvS d.v p K.G.now true⟩) (Hold.ob hH (A:=kgO 0 x.q x.p x.mb M K Sk (setD (setD D p.se (some ⟨d.b,d.q,S',recvS d.v p K.G.now d.v.hd⟩)) p.se (some ⟨d.b,d.q,S',recvS d.v p K.G.now true⟩)) true) 0 rfl).f (setD_at _ _ _)) ⟨tab_ok⟩ (by rfl) (by rfl) (by show Addr.add (Addr.add ⟨d.b,0,none⟩ 1) 2=_; rw [Go.WideShapes.add_plain,Go.WideShapes.add_plain]) ?_|refine callON (f:=142) (A:=kgO 0 x.q x.p x.mb M K Sk (setD (setD D p.se (some ⟨d.b,d.q,S',recvS d.v p K.G.now d.v.hd⟩)) p.se (some ⟨d.b,d.q,S',recvS d.v p K.G.now true⟩)) true) 0 (fun y:List Nat×Nr=>.v (.slice y.2.2.1 (saidE K p.se d.v.h.b (msgP p)).length y.2.2.2)) (fun y=>kgO 0 x.q x.p x.mb M (saidK K p.se d.v.h.b (msgP p)) y.1 (setD (setD D p.se (some ⟨d.b,d.q,S',recvS d.v p K.G.now d.v.hd⟩)) p.se (some ⟨d.b,d.q,S',recvS d.v p K.G.now true⟩)) true) (fun y=>rwO evE y.2.1 y.2.2.1 (saidE K p.se d.v.h.b (msgP p)).length y.2.2.2 (saidE K p.se d.v.h.b (msgP p)) true) (fun w1 hH hA=>saidT (hH.row 0 _ rfl rfl) hA (hH.far _ (List.mem_of_getElem? (i:=0) rfl) 0 _ rfl rfl) ht.q ht.l h0 p.se d.v.h.b (msgP p) (hin p.se)) (fun y=>?_)|refine callO (f:=92) (A:=kgO 0 x.q x.p x.mb M (saidK K p.se d.v.h.b (msgP p)) y.1 (setD (setD D p.se (some ⟨d.b,d.q,S',recvS d.v p K.G.now d.v.hd⟩)) p.se (some ⟨d.b,d.q,S',recvS d.v p K.G.now true⟩)) true) 0 (fun z:{z:List Nat×Fam // vals z.2=(tellF (saidK K p.se d.v.h.b (msgP p),vals (setD (setD D p.se (some ⟨d.b,d.q,S',recvS d.v p K.G.now d.v.hd⟩)) p.se (some ⟨d.b,d.q,S',recvS d.v p K.G.now true⟩))) (saidE K p.se d.v.h.b (msgP p))).2}=>.t []) (fun z=>kgO 0 x.q x.p x.mb M (tellF (saidK K p.se d.v.h.b (msgP p),vals (setD (setD D p.se (some ⟨d.b,d.q,S',recvS d.v p K.G.now d.v.hd⟩)) p.se (some ⟨d.b,d.q,S',recvS d.v p K.G.now true⟩))) (saidE K p.se d.v.h.b (msgP p))).1 z.1.1 z.1.2 true) (fun w hH hA=>(tellT (hH.row 0 _ rfl rfl) hA (hH.far _ (List.mem_of_getElem? (i:=0) rfl) 0 _ rfl rfl) (Hold.ob hH (A:=rwO evE y.2.1 y.2.2.1 (saidE K p.se d.v.h.b (msgP p)).length y.2.2.2 (saidE K p.se d.v.h.b (msgP p)) true) 1 rfl) rfl (fun g hg hg2=>(pair_at (R:=DisR) (fun _ _ h=>h.symm) hH.dis (i:=0) (j:=1) rfl rfl (by decide) (.inl rfl)) g hg2 hg) (hH.far _ (List.mem_of_getElem? (i:=1) rfl) 0 _ rfl rfl) (fun e he=>by rw [said_s e he]; exact hi) (by rw [hvs S']; exact hti) (Nat.le_trans said_len (by decide))).mono (by rintro e w' ⟨z,rfl,h1,h2,h3,h4⟩; exact ⟨⟨z,h2⟩,rfl,h1,h3,h4⟩)) (fun z=>?_)|refine fin fun w' hH=>⟨z.1,rfl,by have:=hH.row 0 _ rfl rfl; rw [rowA_nil rfl rfl] at this; exact this,by rw [← hvs S']; exact (Hold.ob hH (A:=kgO 0 x.q x.p x.mb M (tellF (saidK K p.se d.v.h.b (msgP p),vals (setD (setD D p.se (some ⟨d.b,d.q,S',recvS d.v p K.G.now d.v.hd⟩)) p.se (some ⟨d.b,d.q,S',recvS d.v p K.G.now true⟩))) (saidE K p.se d.v.h.b (msgP p))).1 z.1.1 z.1.2 true) 0 rfl).more (Nat.le_succ _),by rw [← hvs S']; exact z.2,hH.upd,fun g hg=>hH.own _ (List.mem_of_getElem? (i:=0) rfl) rfl g hg,hH.far _ (List.mem_of_getElem? (i:=0) rfl) 0 _ rfl rfl⟩|refine fin_s ?_))
end
end Gw
end Go.Proofs.YtepfmfalebmcnaaGreatDoor
