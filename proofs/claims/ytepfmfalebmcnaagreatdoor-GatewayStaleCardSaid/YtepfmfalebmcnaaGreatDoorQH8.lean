/-
  Wanted: part 8.
  No condition.
-/
import Derived.Test.YtepfmfalebmcnaaGreatDoorQH7
import Derived.Test.YtepfmfalebmcnaaGreatDoorProg
import Derived.Test.YtepfmfalebmcnaaGreatDoorQH0
import Derived.Test.YtepfmfalebmcnaaGreatDoorQH5
import Derived.Test.YtepfmfalebmcnaaGreatDoorQH6
import Derived.Maps.OwnSet
set_option linter.all false
namespace Go.Proofs.YtepfmfalebmcnaaGreatDoor
namespace Co
open Go.RowKit Ba Mem En Go.Proofs.YtepfmfalebmcnaaGreatDoor.Ty Mo
open Gr (GrV GO CarsAt WaitsAt carL waitL WaitV pairO newG okT okW)
open Qu (QO askE intE askC btw)
open Le (TO)
open Fl (leaE)
open Ri (MsgV msgC)
open Et (carsO)
set_option maxRecDepth 100000
attribute [local irreducible] Go.Calls
structure KV where
 G:GrV
 Q:List AskV
 L:List LeaseV
structure Pt where
 g:Nat
 q:Nat
 t:Nat
def room (K:KV):Int:=btw K.G.c.qu 0 64
def P0 (b:Nat):Value:=.pointer (some ⟨b,0,none⟩)
def coreA (c:CfgV) (p:Pt):Array Value:=#[.int .i64 c.ca,.int .i64 c.fl,.int .i64 c.ft,.int .i64 c.se,.int .i64 c.dr,.int .i64 c.dw,.int .i64 c.ho,.int .i64 c.re,.int .i64 c.yi,.int .i64 c.qu,.int .i64 c.qo,.int .i64 c.lo,.int .i64 c.sl,.int .i64 c.rt,.int .i64 c.cp,.int .i64 c.tr,.int .i64 c.de,.int .i64 c.wi,P0 p.g,P0 p.q,P0 p.t]
def coreS (c:CfgV) (p:Pt):List SV:=[.i .i64 c.ca,.i .i64 c.fl,.i .i64 c.ft,.i .i64 c.se,.i .i64 c.dr,.i .i64 c.dw,.i .i64 c.ho,.i .i64 c.re,.i .i64 c.yi,.i .i64 c.qu,.i .i64 c.qo,.i .i64 c.lo,.i .i64 c.sl,.i .i64 c.rt,.i .i64 c.cp,.i .i64 c.tr,.i .i64 c.de,.i .i64 c.wi,.v (.pointer (some ⟨p.g,0,none⟩)),.v (.pointer (some ⟨p.q,0,none⟩)),.v (.pointer (some ⟨p.t,0,none⟩))]
def BD (lo:Nat) (p:Pt) (K:KV) (S:List Nat) (w:World):Prop :=
 ∃ S1 S2 S3,S=S1++(S2++S3)∧GO lo p.g K.G S1 w∧QO lo p.q (room K) K.Q S2 w∧TO lo p.t K.G.c K.L S3 w∧(∀ x∈S1,x∉S2)∧(∀ x∈S1,x∉S3)∧∀ x∈S2,x∉S3
section
variable {w w':World} {lo lo' q:Nat} {p:Pt} {K:KV} {S T:List Nat}
theorem BD.upd (k:Upd T w w') (h:BD lo p K S w) (hT:∀ g∈S,g∉T):BD lo p K S w':=by
 obtain ⟨S1,S2,S3,rfl,h1,h2,h3,d⟩:=h
 exact ⟨S1,S2,S3,rfl,h1.upd k (fun g hg=>hT g (by simp [hg])),h2.upd k (fun g hg=>hT g (by simp [hg])),h3.upd k (fun g hg=>hT g (by simp [hg])),d⟩
theorem BD.lt (h:BD lo p K S w):∀ g∈S,g < w.heap.size:=by
 obtain ⟨S1,S2,S3,rfl,h1,h2,h3,d⟩:=h
 intro g hg
 rcases List.mem_append.1 hg with hg | hg
 ·exact h1.lt g hg
 rcases List.mem_append.1 hg with hg | hg
 ·exact h2.lt g hg
 ·exact h3.lt g hg
theorem BD.low (h:BD lo p K S w):∀ g∈S,lo≤g:=by
 obtain ⟨S1,S2,S3,rfl,h1,h2,h3,d⟩:=h
 intro g hg
 rcases List.mem_append.1 hg with hg | hg
 ·exact h1.low g hg
 rcases List.mem_append.1 hg with hg | hg
 ·exact h2.low g hg
 ·exact h3.low g hg
theorem BD.base (h:BD lo p K S w) (hb:lo'≤lo):BD lo' p K S w:=by
 obtain ⟨S1,S2,S3,rfl,h1,h2,h3,d⟩:=h
 exact ⟨S1,S2,S3,rfl,h1.base hb,h2.base hb,h3.base hb,d⟩
theorem BD.far {cs:Array Value} (h:BD lo p K S w) (hk:Blk w q 111 cs):q∉S:=by
 obtain ⟨S1,S2,S3,rfl,⟨_,A1,c1,A2,c2,rfl,B1,O1,O2⟩,⟨_,A3,c3,rfl,B3,O3⟩,⟨_,A4,c4,rfl,B4,O4⟩,d⟩:=h
 intro hm
 simp only [List.mem_append,List.mem_cons] at hm
 rcases hm with (h | h | h)|(h | h)|(h | h)
 ·exact Blk.ne_ hk B1 (by decide) h
 ·exact own_ne_ty O1 hk (by decide) h
 ·exact own_ne_ty O2 hk (by decide) h
 ·exact Blk.ne_ hk B3 (by decide) h
 ·exact own_ne_ty O3 hk (by decide) h
 ·exact Blk.ne_ hk B4 (by decide) h
 ·exact own_ne_ty O4 hk (by decide) h
end
def bdO (lo:Nat) (p:Pt) (K:KV) (S:List Nat) (rw:Bool):Asr:=⟨S,rw,BD lo p K S,fun k h hs=>hs.upd k h,fun h=>h.lt⟩
section
variable {P:Program} {F:FuncId} {args:Array Value} {w:World} {lo:Nat} {p:Pt} {K:KV} {S:List Nat} {V:Value}
theorem BD.grp (h:BD lo p K S w) {G':GrV} (hcc:G'.c=K.G.c) (hc:∀ S1,GO lo p.g K.G S1 w→Calls P F args w fun e w'=>e=.returned V∧∃ S',GO lo p.g G' S' w'∧Upd S1 w w'∧∀ g∈S',g∈S1∨w.heap.size≤g) :
  Calls P F args w fun e w'=>∃ S',e=.returned V∧BD lo p { K with G:=G' } S' w'∧Upd S w w'∧∀ g∈S',g∈S∨w.heap.size≤g:=by
 obtain ⟨S1,S2,S3,rfl,h1,h2,h3,d1,d2,d3⟩:=h
 refine (hc S1 h1).mono ?_
 rintro e w' ⟨rfl,S',g1,g2,g3⟩
 have n2:∀ x∈S',x∉S2:=fun x hx hx2=>(g3 x hx).elim (fun h=>d1 x h hx2) (fun h=>by have:=h2.lt x hx2; omega)
 have n3:∀ x∈S',x∉S3:=fun x hx hx2=>(g3 x hx).elim (fun h=>d2 x h hx2) (fun h=>by have:=h3.lt x hx2; omega)
 refine ⟨S'++(S2++S3),rfl,⟨S',S2,S3,rfl,g1, ?_, ?_,n2,n3,d3⟩,g2.mono (fun k hk _=>List.mem_append.2 (.inl hk)),fun g hg=>?_⟩
 ·have:=h2.upd g2 (fun g hg hg1=>d1 g hg1 hg)
  simpa [room,hcc] using this
 ·have:=h3.upd g2 (fun g hg hg1=>d2 g hg1 hg)
  rw [← hcc] at this; exact this
 ·rcases List.mem_append.1 hg with hg | hg
  ·exact (g3 g hg).imp (fun h=>List.mem_append.2 (.inl h)) id
  ·exact .inl (List.mem_append.2 (.inr hg))
theorem BD.que (h:BD lo p K S w) {Q':List AskV} (hc:∀ S1,QO lo p.q (room K) K.Q S1 w→Calls P F args w fun e w'=>e=.returned V∧∃ S',QO lo p.q (room K) Q' S' w'∧Upd S1 w w'∧∀ g∈S',g∈S1∨w.heap.size≤g) :
  Calls P F args w fun e w'=>∃ S',e=.returned V∧BD lo p { K with Q:=Q' } S' w'∧Upd S w w'∧∀ g∈S',g∈S∨w.heap.size≤g:=by
 obtain ⟨S1,S2,S3,rfl,h1,h2,h3,d1,d2,d3⟩:=h
 refine (hc S2 h2).mono ?_
 rintro e w' ⟨rfl,S',g1,g2,g3⟩
 have n1:∀ x∈S1,x∉S':=fun x hx hx2=>(g3 x hx2).elim (fun h=>d1 x hx h) (fun h=>by have:=h1.lt x hx; omega)
 have n3:∀ x∈S',x∉S3:=fun x hx hx2=>(g3 x hx).elim (fun h=>d3 x h hx2) (fun h=>by have:=h3.lt x hx2; omega)
 refine ⟨S1++(S'++S3),rfl,⟨S1,S',S3,rfl,h1.upd g2 (fun g hg hg1=>d1 g hg hg1),g1,h3.upd g2 (fun g hg hg1=>d3 g hg1 hg),n1,d2,n3⟩,g2.mono (fun k hk _=>List.mem_append.2 (.inr (List.mem_append.2 (.inl hk)))),fun g hg=>?_⟩
 simp only [List.mem_append] at hg ⊢
 rcases hg with hg | hg | hg
 ·exact .inl (.inl hg)
 ·exact (g3 g hg).imp (fun h=>.inr (.inl h)) id
 ·exact .inl (.inr (.inr hg))
theorem BD.tab (h:BD lo p K S w) {L':List LeaseV} (hc:∀ S1,TO lo p.t K.G.c K.L S1 w→Calls P F args w fun e w'=>e=.returned V∧∃ S',TO lo p.t K.G.c L' S' w'∧Upd S1 w w'∧∀ g∈S',g∈S1∨w.heap.size≤g) :
  Calls P F args w fun e w'=>∃ S',e=.returned V∧BD lo p { K with L:=L' } S' w'∧Upd S w w'∧∀ g∈S',g∈S∨w.heap.size≤g:=by
 obtain ⟨S1,S2,S3,rfl,h1,h2,h3,d1,d2,d3⟩:=h
 refine (hc S3 h3).mono ?_
 rintro e w' ⟨rfl,S',g1,g2,g3⟩
 have n1:∀ x∈S1,x∉S':=fun x hx hx2=>(g3 x hx2).elim (fun h=>d2 x hx h) (fun h=>by have:=h1.lt x hx; omega)
 have n2:∀ x∈S2,x∉S':=fun x hx hx2=>(g3 x hx2).elim (fun h=>d3 x hx h) (fun h=>by have:=h2.lt x hx; omega)
 refine ⟨S1++(S2++S'),rfl,⟨S1,S2,S',rfl,h1.upd g2 (fun g hg hg1=>d2 g hg hg1),h2.upd g2 (fun g hg hg1=>d3 g hg hg1),g1,d1,n1,n2⟩,g2.mono (fun k hk _=>List.mem_append.2 (.inr (List.mem_append.2 (.inr hk)))),fun g hg=>?_⟩
 simp only [List.mem_append] at hg ⊢
 rcases hg with hg | hg | hg
 ·exact .inl (.inl hg)
 ·exact .inl (.inr (.inl hg))
 ·exact (g3 g hg).imp (fun h=>.inr (.inr h)) id
end
abbrev Nr:=Nat×Option Addr×Nat
abbrev NrA (n0:Nat):={x:Nr // n0≤x.1}
section
variable {P:Program} {F:FuncId} {args:Array Value} {w1:World} {n0 n:Nat}
theorem toN {α:Type} {E:Ek α} {ls:List α} (h:Calls P F args w1 fun e w'=>∃ A' c',e=.returned (.slice A' n c')∧E.At w1.heap.size A' n c' ls w'∧Since w1 w') (h0:n0≤w1.heap.size) :
  Calls P F args w1 fun e w'=>∃ x:NrA n0,e=.returned (.slice x.1.2.1 n x.1.2.2)∧(rwO E x.1.1 x.1.2.1 n x.1.2.2 ls true).st w'∧Since w1 w'∧∀ g∈(rwO E x.1.1 x.1.2.1 n x.1.2.2 ls true).F,w1.heap.size≤g:=by
 refine h.mono ?_
 rintro e w' ⟨A',c',rfl,hO,hs⟩
 exact ⟨⟨(w1.heap.size,A',c'),h0⟩,rfl,hO,hs,own_low hO⟩
theorem toNC {ls:List CarV} (h:Calls P F args w1 fun e w'=>∃ A' c',e=.returned (.slice A' n c')∧CarsAt w1.heap.size A' n c' ls w'∧Since w1 w') (h0:n0≤w1.heap.size) :
  Calls P F args w1 fun e w'=>∃ x:NrA n0,e=.returned (.slice x.1.2.1 n x.1.2.2)∧(carsO x.1.1 x.1.2.1 n x.1.2.2 ls true).st w'∧Since w1 w'∧∀ g∈(carsO x.1.1 x.1.2.1 n x.1.2.2 ls true).F,w1.heap.size≤g:=by
 refine h.mono ?_
 rintro e w' ⟨A',c',rfl,hO,hs⟩
 exact ⟨⟨(w1.heap.size,A',c'),h0⟩,rfl,hO,hs,own_low hO⟩
abbrev NgA (n0:Nat):={x:Nat×Nat×Nat // n0≤x.1}
theorem toNCg {ls:List CarV} (hn:0 < n) (h:Calls P F args w1 fun e w'=>∃ A' c',e=.returned (.slice A' n c')∧CarsAt w1.heap.size A' n c' ls w'∧Since w1 w') (h0:n0≤w1.heap.size) :
  Calls P F args w1 fun e w'=>∃ x:NgA n0,e=.returned (.slice (some ⟨x.1.2.1,0,none⟩) n x.1.2.2)∧(carsO x.1.1 (some ⟨x.1.2.1,0,none⟩) n x.1.2.2 ls true).st w'∧Since w1 w'∧∀ g∈(carsO x.1.1 (some ⟨x.1.2.1,0,none⟩) n x.1.2.2 ls true).F,w1.heap.size≤g:=by
 refine h.mono ?_
 rintro e w' ⟨A',c',rfl,hO,hs⟩
 obtain ⟨g,rfl⟩:=own_addr hO hn
 exact ⟨⟨(w1.heap.size,g,c'),h0⟩,rfl,hO,hs,own_low hO⟩
theorem Hold.ob {X:Cx} {m:List Row} {ob:List Asr} {w:World} (h:Hold X m ob w) {A:Asr} (i:Nat) (hA:ob[i]?=some A):A.st w:=h.obj A (List.mem_of_getElem? hA)
theorem toNW {ls:List WaitV} (h:Calls P F args w1 fun e w'=>∃ A' c',e=.returned (.slice A' n c')∧WaitsAt w1.heap.size A' n c' ls w'∧Since w1 w') (h0:n0≤w1.heap.size) :
  Calls P F args w1 fun e w'=>∃ x:NrA n0,e=.returned (.slice x.1.2.1 n x.1.2.2)∧(Gr.waitsO x.1.1 x.1.2.1 n x.1.2.2 ls true).st w'∧Since w1 w'∧∀ g∈(Gr.waitsO x.1.1 x.1.2.1 n x.1.2.2 ls true).F,w1.heap.size≤g:=by
 refine h.mono ?_
 rintro e w' ⟨A',c',rfl,hO,hs⟩
 exact ⟨⟨(w1.heap.size,A',c'),h0⟩,rfl,hO,hs,own_low hO⟩
end
section
variable {w:World} {lo:Nat} {p:Pt} {K:KV} {S:List Nat}
theorem BD.cars (h:BD lo p K S w) (hl:K.G.cars.length≤10000):Calls Tryz.prog 59 #[.pointer (some ⟨p.g,0,none⟩)] w fun e w'=>∃ A' c',e=.returned (.slice A' K.G.cars.length c')∧CarsAt w.heap.size A' K.G.cars.length c' K.G.cars w'∧Since w w':=by
 obtain ⟨S1,S2,S3,rfl,h1,h2,h3,d⟩:=h
 exact Gr.carsT lo p.g K.G S1 w h1 (by omega)
theorem BD.waits (h:BD lo p K S w) (hl:K.G.waits.length≤10000):Calls Tryz.prog 229 #[.pointer (some ⟨p.g,0,none⟩)] w fun e w'=>∃ A' c',e=.returned (.slice A' K.G.waits.length c')∧WaitsAt w.heap.size A' K.G.waits.length c' K.G.waits w'∧Since w w':=by
 obtain ⟨S1,S2,S3,rfl,h1,h2,h3,d⟩:=h
 exact Gr.waitsT lo p.g K.G S1 w h1 (by omega)
theorem BD.now (h:BD lo p K S w):Calls Tryz.prog 40 #[.pointer (some ⟨p.g,0,none⟩)] w fun e w'=>e=.returned (.int .i64 K.G.now)∧Since w w':=by
 obtain ⟨S1,S2,S3,rfl,h1,h2,h3,d⟩:=h
 exact Gr.nowT lo p.g K.G S1 w h1
theorem BD.leases (h:BD lo p K S w) (hl:K.L.length≤10000):Calls Tryz.prog 54 #[.pointer (some ⟨p.t,0,none⟩)] w fun e w'=>∃ A' c',e=.returned (.slice A' K.L.length c')∧leaE.At w.heap.size A' K.L.length c' K.L w'∧Since w w':=by
 obtain ⟨S1,S2,S3,rfl,h1,h2,⟨_,A,c,rfl,B,O⟩,d⟩:=h
 exact Le.listT w B O hl
theorem BD.of (h:BD lo p K S w) (hl:K.L.length≤10000) (s:Int):Calls Tryz.prog 86 #[.pointer (some ⟨p.t,0,none⟩),.int .i64 s] w fun e w'=>e=.returned (.tuple #[.agg #[.int .i64 (Le.ofL K.L s).se,.int .i64 (Le.ofL K.L s).fl,.int .i64 (Le.ofL K.L s).fm,.int .i64 (Le.ofL K.L s).to,.int .i64 (Le.ofL K.L s).ma,.int .i64 (Le.ofL K.L s).ca,.int .i64 (Le.ofL K.L s).ph,.int .i64 (Le.ofL K.L s).un,.int .i64 (Le.ofL K.L s).re,.int .i64 (Le.ofL K.L s).gr],.bool (Le.hasL K.L s)])∧Since w w':=by
 obtain ⟨S1,S2,S3,rfl,h1,h2,⟨_,A,c,rfl,B,O⟩,d⟩:=h
 exact Le.ofT w B O hl s
theorem BD.ahead (h:BD lo p K S w) (hl:K.Q.length≤10000) (s:Int):Calls Tryz.prog 88 #[.pointer (some ⟨p.q,0,none⟩),.int .i64 s] w fun e w'=>e=.returned (.tuple #[.int .i64 (Qu.oM (Qu.atS K.Q s)),.bool (Qu.atS K.Q s).isSome])∧Since w w':=by
 obtain ⟨S1,S2,S3,rfl,h1,⟨_,A,c,rfl,B,O⟩,h3,d⟩:=h
 exact Qu.aheadT s w B O (by omega)
theorem BD.first {lo2 n2 c2:Nat} {A2:Option Addr} {zs:List Int} (h:BD lo p K S w) (hl:K.Q.length≤10000) (hz:intE.At lo2 A2 n2 c2 zs w) (hn:zs.length=n2) (hl2:n2≤1000000):Calls Tryz.prog 181 #[.pointer (some ⟨p.q,0,none⟩),.slice A2 n2 c2] w fun e w'=>e=.returned (.tuple #[.agg #[.int .i64 (Qu.firstA K.Q zs).se,.int .i64 (Qu.firstA K.Q zs).fl,.int .i64 (Qu.firstA K.Q zs).fm,.int .i64 (Qu.firstA K.Q zs).to,.int .i64 (Qu.firstA K.Q zs).ma],.bool (Qu.atF K.Q zs).isSome])∧Since w w':=by
 obtain ⟨S1,S2,S3,rfl,h1,⟨_,A,c,rfl,B,O⟩,h3,d⟩:=h
 exact Qu.firstT w B O (by omega) hz hn hl2
end
theorem hold_k {q lo n:Nat} {p:Pt} {K:KV} {S:List Nat} {w:World} (hk:Blk w q 111 (coreA K.G.c p)) (hb:BD lo p K S w):Hold ⟨Tryz.prog,tab,S,w,n,[]⟩ [⟨q,111,true,0,[],coreS K.G.c p,[],false⟩] [bdO lo p K S true] w :=
 Hold.addObj (hold_q (S:=S) (coreS K.G.c p) hk) (bdO lo p K S true) hb (fun _ g hg=>.inl hg) (by intro r hr _; rw [List.mem_singleton] at hr; subst hr; exact hb.far hk) (by intro A hA; cases hA)
theorem fin_k {lo n:Nat} {p:Pt} {K:KV} {S S1:List Nat} {w:World} {V:Value} {v:SV} {fr:List (Nat×SV)} {m:List Row} {obr:List Asr} {st:St} (hst:st=⟨fr,m,bdO lo p K S1 true::obr⟩) (hv:∀ m,den m v=V) :
  Fin ⟨Tryz.prog,tab,S,w,n,[]⟩ (fun e w'=>e=.returned V∧∃ S',BD lo p K S' w'∧Upd S w w'∧∀ g∈S',g∈S∨w.heap.size≤g) v st:=by
 subst hst
 exact fin fun w' hH=>⟨by rw [hv],S1,hH.obj _ (List.mem_cons_self ..),hH.upd,hH.own _ (List.mem_cons_self ..) rfl⟩
structure EvV where
 s:Int
 m:MsgV
def msgL (m:MsgV):List Value:=[.int .i64 m.ki,.int .i64 m.a,.int .i64 m.b,.int .i64 m.c]
def evC (e:EvV):List Value:=[.int .i64 e.s,.int .i64 e.m.ki,.int .i64 e.m.a,.int .i64 e.m.b,.int .i64 e.m.c]
def msgE:Ek MsgV:=⟨26,4,msgL,fun _=>rfl,by
 intro a u hu
 simp only [msgL,List.mem_cons,List.not_mem_nil,or_false] at hu
 rcases hu with rfl | rfl | rfl | rfl <;> rfl⟩
def evE:Ek EvV:=⟨82,5,evC,fun _=>rfl,by
 intro a u hu
 simp only [evC,List.mem_cons,List.not_mem_nil,or_false] at hu
 rcases hu with rfl | rfl | rfl | rfl | rfl <;> rfl⟩
theorem Ek.of_blk {α:Type} {E:Ek α} {w:World} {g lo:Nat} {x:α} (h:Blk w g E.t (E.c x).toArray) (hlo:lo≤g) (hk:E.k≤1000):E.At lo (some ⟨g,0,none⟩) 1 1 [x] w:=by
 refine ⟨by simp [rowsOf,E.len],.inr ⟨g,1,(E.c x).toArray,rfl,hlo,h,Nat.le_refl _,by unfold maxLen; omega,by simp [E.len], ?_⟩⟩
 simp only [Nat.one_mul,rowsOf,List.flatMap_cons,List.flatMap_nil,List.append_nil]
 exact List.take_of_length_le (by simp [E.len])
def evs (s:Int) (ms:List MsgV):List EvV:=ms.map (EvV.mk s)
set_option maxHeartbeats 1000000 in
theorem eventsT {lo n c:Nat} {A:Option Addr} {ms:List MsgV} (s:Int) (w:World) (ho:msgE.At lo A n c ms w) (hn:ms.length=n) (hl:n≤100000):Calls Tryz.prog 66 #[.int .i64 s,.slice A n c] w fun e w'=>∃ A' c',e=.returned (.slice A' n c')∧evE.At w.heap.size A' n c' (evs s ms) w'∧Since w w':=by
 obtain ⟨g,hA⟩:=Ek.addr ho
 refine entH tab_ok (Hold.addObj (Hold.addObj (Hold.nil _ tab [] _ w) (rwO msgE lo A n c ms false) ho (by intro k; cases k) (by intro r hr; cases hr) (by intro A hA; cases hA)) (rwO evE w.heap.size none 0 0 [] true) (Ek.nil _ _ _) (by intro _ g hg; cases hg) (by intro r _ _ hg; cases hg) (by intro A hA _ g hg hg2; cases hg2)) [.i .i64 s,.v (.slice A n c)] Tryz.func66 Tryz.ntmps66 rfl rfl ?_
 repeat' (first | refine gs_ ?_|((conv=>whnf); first | intro b | refine b3_ (fun h=>?_) (fun h=>?_)|refine fin_s ?_))
 conv=>whnf
 refine lp ⟨tab_ok⟩ (ι:={x:(Nat×Option Addr×Nat)×List EvV // x.1.1≤n∧evs s (ms.take x.1.1)=x.2}) (fun x=>match x with | ⟨((k,A3,c3),es),_⟩=>⟨[(0,.i .i64 s),(5,.v (.slice A3 k c3)),(8,.v (.slice A n c)),(9,.i .i64 n),(10,.i .i64 (k:Int))],[],[rwO msgE lo A n c ms false,rwO evE w.heap.size A3 k c3 es true]⟩) (fun x=>n - x.1.1.1) ⟨((0,none,0),[]),Nat.zero_le _,by simp [evs]⟩ (wk ?_) ?_
 ·repeat' (first | exact trivial | rfl | ((conv=>whnf); refine And.intro ?_ ?_))
 rintro ⟨⟨⟨k,A3,c3⟩,es⟩,hk,he⟩
 have hk:k≤n:=hk
 have he:evs s (ms.take k)=es:=he
 by_cases hlt:k < n
 ·obtain ⟨x,hx⟩:∃ x,ms[k]?=some x:=⟨_,List.getElem?_eq_getElem (by omega)⟩
  obtain rfl:=hA (by omega)
  have he2:evs s (ms.take (k+1))=es++[EvV.mk s x]:=by
   obtain ⟨hkl,rfl⟩:=List.getElem?_eq_some_iff.1 hx
   show (ms.take (k+1)).map _=_
   rw [List.take_succ_eq_append_getElem hkl,List.map_append,← he]; rfl
  repeat' (first | refine gs_ ?_|((conv=>whnf); first | intro b | refine bto ?_|refine bfo ?_|refine wr_i ?_|refine iv_ ?_|refine opix (g:=g) (off:=0+k*4) [.i .i64 x.ki,.i .i64 x.a,.i .i64 x.b,.i .i64 x.c] (fun w hH=>Ek.rng (hH.obj (rwO msgE lo (some ⟨g,0,none⟩) n c ms false) (List.mem_cons_self ..)) hx) ⟨tab_ok⟩ (by rfl) (by rfl) (by show Addr.add ⟨g,0,none⟩ (k*4)=_; rw [Go.WideShapes.add_plain]) ?_|refine opb1 (e:=82) ⟨tab_ok⟩ [.i .i64 s,.i .i64 x.ki,.i .i64 x.a,.i .i64 x.b,.i .i64 x.c] (by rfl) (by rfl) ?_|refine opap 1 1 (e:=82) (lo:=w.heap.size) (size:=5) (bytes:=40) (z:=.agg #[.int .i64 0,.int .i64 0,.int .i64 0,.int .i64 0,.int .i64 0]) (A:=rwO evE w.heap.size A3 k c3 es true) (vals:=rowsOf evC es) (cells:=evC (EvV.mk s x)) (zs:=rowsOf evC (es++[EvV.mk s x])) (n2:=k+1) (fun A' c'=>rwO evE w.heap.size A' (k+1) c' (es++[EvV.mk s x]) true) (by rfl) (by rfl) (by rfl) (by rfl) rfl rfl (fun w h=>h) (fun A' c' w h=>h) (fun _ _=>rfl) (by rfl) (by rfl) (by rfl) (by rfl) Tryz.underlying79 (by kernel_rfl) rfl (by decide) (by decide) (evE.one _) (by omega) (fun w hH=>hH.upd.size) rfl (by rw [rowsOf_append,rowsOf_one]) (fun A' c'=>?_)|refine back ⟨((k+1,A',c'),es++[EvV.mk s x]),by show k+1≤_; omega,he2⟩ (wk ?_) ?_|refine fin_s ?_))
  all_goals first | (show n - (k+1) < n - k; omega)|skip
  all_goals (repeat' (first | exact trivial | rfl | ((conv=>whnf); refine And.intro ?_ ?_)))
 ·obtain rfl:k=n:=by omega
  repeat' (first | refine gs_ ?_|((conv=>whnf); first | intro b | refine bto ?_|refine bfo ?_|refine wr_i ?_|refine fin fun w' hH=>?_|refine fin_s ?_))
  have hO:=hH.obj (rwO evE w.heap.size A3 k c3 es true) (List.mem_cons_of_mem _ (List.mem_cons_self ..))
  rw [List.take_of_length_le (by omega)] at he
  rw [he]
  exact ⟨A3,c3,rfl,hO,hH.upd.since⟩
def newK (c:CfgV):KV:=⟨newG c,[],[]⟩
end Co
namespace CM
open Go.RowKit Ba Mem Go.Proofs.YtepfmfalebmcnaaGreatDoor.Ty
open Ri (MsgV)
set_option maxRecDepth 100000
attribute [local irreducible] Go.wpList
def msgC (m:MsgV):List Value:=[.int .i64 m.ki,.int .i64 m.a,.int .i64 m.b,.int .i64 m.c]
theorem msgC_len (m:MsgV):(msgC m).length=4:=rfl
theorem msgC_one (m:MsgV):∀ u∈msgC m,u.oneCell'=true:=by
 intro u hu
 simp only [msgC,List.mem_cons,List.not_mem_nil,or_false] at hu
 rcases hu with rfl | rfl | rfl | rfl <;> rfl
theorem msgs_one (ls:List MsgV):∀ u∈rowsOf msgC ls,u.oneCell'=true:=rowsOf_one' msgC_one ls
set_option maxHeartbeats 4000000 in
theorem deleteT (lo g m c i:Nat) (ls:List MsgV) (w:World) (hO:w.ownsRow lo 26 4 (.slice (some ⟨g,0,none⟩) (m+1) c) (m+1) (rowsOf msgC ls)) (hl:ls.length=m+1) (hi:i≤m) (hc:m+1≤c) (hm:m+1≤1000000):Calls Tryz.prog 241 #[.slice (some ⟨g,0,none⟩) (m+1) c,.int .i64 (i:Int),.int .i64 ((i:Int)+1)] w fun e w'=>e=.returned (.slice (some ⟨g,0,none⟩) m c)∧w'.ownsRow lo 26 4 (.slice (some ⟨g,0,none⟩) m c) m (rowsOf msgC (ls.eraseIdx i))∧Upd [g] w w':=by
 have HOW:=Lib.hid hO
 clear hO
 have HL:=Lib.hid hl
 clear hl
 have HI:=Lib.hid hi
 clear hi
 have HC:=Lib.hid hc
 clear hc
 have HM:=Lib.hid hm
 clear hm
 go_enter Tryz.func241,Tryz.ntmps241
 go_upto_region 1 with fail
 have HS1:=Lib.hid (Upd.refl [g] w)
 refine wp_region_lit ?_
 refine tkL (.slice (some ⟨g,0,none⟩) (m+1) c) (h:=?_)
 try simp only[Act.put,sA,sB,sC]
 refine tkL (.int .i64 (i:Int)) (h:=?_)
 try simp only[Act.put,sA,sB,sC]
 refine tkL (.int .i64 ((i:Int)+1)) (h:=?_)
 try simp only[Act.put,sA,sB,sC]
 refine tkL (.slice (some ⟨g,0,none⟩) (m+1) c) (h:=?_)
 try simp only[Act.put,sA,sB,sC]
 refine tkL (.int .i64 ((m+1:Nat):Int)) (h:=?_)
 try simp only[Act.put,sA,sB,sC]
 refine wpList_q (by rfl) (.slice (cutA (m+1) i (some ⟨g,0,none⟩:Option Addr) 4) (i+1 - i) (m+1 - i)) ?he ?_
 case he=>exact exec_slice (s:=4) 134 26 _ _ _ _ rfl rfl Tryz.underlying134 (by kernel_rfl) (sb_lhm _ _ _ _ (l:=i) (h:=i+1) (m:=m+1) rfl (by push_cast; rfl) rfl (by omega) (by have q0:=HI.out; omega) HC.out) (by rfl) rfl rfl
 try simp only[Act.put,sA,sB,sC]
 refine wpList_nil ?_
 go_upto_region 2 with fail
 refine wp_region_lit ?_
 refine tkL (.int .i64 (i:Int)) (h:=?_)
 try simp only[Act.put,sA,sB,sC]
 refine tkL (.int .i64 ((i:Int)+1)) (h:=?_)
 try simp only[Act.put,sA,sB,sC]
 refine wpList_q (by rfl) (.bool false) ?he ?_
 case he=>(go_simp; (first | done | rfl | omega))
 try simp only[Act.put,sA,sB,sC]
 refine wpList_nil ?_
 go_upto_region 4 with fail
 refine wp_region_lit ?_
 refine tkL (.slice (some ⟨g,0,none⟩) (m+1) c) (h:=?_)
 try simp only[Act.put,sA,sB,sC]
 refine tkL (.int .i64 ((m+1:Nat):Int)) (h:=?_)
 try simp only[Act.put,sA,sB,sC]
 refine tkL (.int .i64 ((m+1:Nat):Int)) (h:=?_)
 try simp only[Act.put,sA,sB,sC]
 refine wpList_nil ?_
 go_upto_region 5 with fail
 have HKS:Hid (KeepS (fun W:World=>Upd [g] w W) w):=Lib.hid ⟨fun W W' k h=>h.trans k,HS1.out⟩
 have HRK:=Lib.hid HKS.out.1
 have HEr:=Lib.hid (show ((World.drew w)).ownsRow lo 26 4 (.slice (some ⟨g,0,none⟩) (m+1) c) (m+1) (rowsOf msgC ls) from HOW.out)
 clear HOW
 refine wp_held HKS.out (by kernel_rfl) (fun hHeld=>?_)
 refine tkQ 0 (.slice (some ⟨g,0,none⟩) (m+1) c) hHeld (h:=?_)
 try simp only[Act.put,sA,sB,sC]
 refine tkQ 1 (.int .i64 (i:Int)) hHeld (h:=?_)
 try simp only[Act.put,sA,sB,sC]
 refine tkQ 2 (.slice (some ⟨g,0,none⟩) i c) hHeld (he:=by intro w hSw; exact exec_slice (s:=4) 134 26 _ _ _ _ rfl rfl Tryz.underlying134 (by kernel_rfl) (sb_h _ _ (h:=i) rfl (by have q0:=HI.out; have q1:=HC.out; omega)) (by split <;> simp [Addr.add]) rfl rfl) (h:=?_)
 try simp only[Act.put,sA,sB,sC]
 refine tkQ 3 (.slice (some ⟨g,0,none⟩) (m+1) c) hHeld (h:=?_)
 try simp only[Act.put,sA,sB,sC]
 refine tkQ 4 (.int .i64 ((i:Int)+1)) hHeld (h:=?_)
 try simp only[Act.put,sA,sB,sC]
 refine tkQ 5 (.slice (cutA c (i+1) (some ⟨g,0,none⟩:Option Addr) 4) (m+1 - (i+1)) (c - (i+1))) hHeld (he:=by intro w hSw; exact exec_slice (s:=4) 134 26 _ _ _ _ rfl rfl Tryz.underlying134 (by kernel_rfl) (sb_l _ _ (l:=i+1) (by push_cast; rfl) (by have q0:=HI.out; omega)) (by rfl) rfl rfl) (h:=?_)
 try simp only[Act.put,sA,sB,sC]
 refine wpAnyH_ready (rs:=[6]) (by kernel_rfl) (by simp) ?_
 refine AllReadyH.cons (o:=?o5__6) ?h5__6 (fun K hK=>?_) AllReadyH.nil
 case h5__6=>(first | (simp only [gA,gB,gC]; done)|(simp only [gA,gB,gC]; exact rfl))
 rw [if_pos (by rfl)]
 refine wp_append_room (.tmp 22) (.tmp 25) 134 rfl lo 26 4 Tryz.underlying134 (by kernel_rfl) g i c ((rowsOf msgC ls).take (i*4)) rfl (own_prefix HEr.out (by have q0:=HI.out; omega)) _ (cutA c (i+1) (some ⟨g,0,none⟩:Option Addr) 4) (m+1 - (i+1)) (c - (i+1)) ((rowsOf msgC ls).drop ((i+1)*4)) rfl (reads_cut (own_reads HEr.out) (by have q0:=HI.out; omega) HC.out) (fun u hu=>msgs_one ls u (List.mem_of_mem_drop hu)) (by have q0:=HI.out; have q1:=HC.out; omega) m (rowsOf msgC (ls.eraseIdx i)) (by have q0:=HI.out; omega) (erase_rows msgC_len (by have q0:=HI.out; have q2:=HL.out; omega)) ?_
 intro w2 hown hupd
 skip
 have hHeld3:=HKS.out.at_ w2 (Upd.comp hHeld hupd (fun _ h=>.inl h))
 have HOW_w2:=Lib.hid hown
 refine hK.out _ _ hHeld3 (fun hHeld2=>?_)
 clear hK K hHeld hHeld3 hupd hown  HEr 
 have hHeld:=hHeld2
 clear hHeld2
 try simp only[Act.put,sA,sB,sC]
 refine tkQ 7 (.slice (some ⟨g,0,none⟩) m c) hHeld (h:=?_)
 try simp only[Act.put,sA,sB,sC]
 refine wpAnyH_done (by kernel_rfl) ?_ _
 have HSd5:=Lib.hid hHeld
 clear hHeld HRK HKS HS1 
 have HFrd5:=Lib.hid HOW_w2.out
 clear HOW_w2
 go_upto_region 6 with fail
 refine wp_region_lit ?_
 refine tkL (.slice (some ⟨g,0,none⟩) m c) (h:=?_)
 try simp only[Act.put,sA,sB,sC]
 refine tkL (.slice (some ⟨g,0,none⟩) m c) (h:=?_)
 try simp only[Act.put,sA,sB,sC]
 refine tkL (.int .i64 (m:Int)) (h:=?_)
 try simp only[Act.put,sA,sB,sC]
 refine tkL (.int .i64 ((m+1:Nat):Int)) (h:=?_)
 try simp only[Act.put,sA,sB,sC]
 refine wpList_q (by rfl) (.slice (some ⟨g,m*4,none⟩) 1 (c - m)) ?he ?_
 case he=>exact exec_slice (s:=4) 134 26 _ _ _ _ rfl rfl Tryz.underlying134 (by kernel_rfl) (sb_lh _ _ _ (l:=m) (h:=m+1) rfl rfl (by omega) HC.out) (by have q1:=HC.out; rw [if_neg (by omega)]; simp [Go.WideShapes.add_plain]) (by omega) rfl
 try simp only[Act.put,sA,sB,sC]
 refine wpList_wp (by rfl) (fun K hK=>?_)
 refine wp_clear_behind _ 134 rfl lo 26 (Value.agg #[.int .i64 0,.int .i64 0,.int .i64 0,.int .i64 0]) 4 32 Tryz.underlying134 (by kernel_rfl) rfl (by intro u hu; simp [Value.cells] at hu; (try rcases hu with rfl | rfl | rfl | rfl) <;> rfl) g m c _ HFrd5.out 1 (c - m) (by decide) HC.out rfl ?_
 intro w3 hown hupd
 refine hK.out _ _ ?_
 clear hK K
 try simp only[Act.put,sA,sB,sC]
 have HSz:=Lib.hid (Upd.comp HSd5.out hupd (fun _ h=>.inl h))
 have HOWz:=Lib.hid hown
 clear hown hupd HSd5 HFrd5
 refine wpList_nil ?_
 go_upto_region 7 with fail
 refine wp_region_lit ?_
 refine tkL (.slice (some ⟨g,0,none⟩) m c) (h:=?_)
 try simp only[Act.put,sA,sB,sC]
 refine tkL (.slice (some ⟨g,0,none⟩) m c) (h:=?_)
 try simp only[Act.put,sA,sB,sC]
 refine wpList_nil ?_
 (try go_wp2_with fail)
 go_ret
 exact ⟨rfl,HOWz.out,HSz.out⟩
end CM
namespace Se
def nx (n:Int):Int:=(n+1) % 65536
def ne (a b:Int):Int:=(b - a+32768) % 65536 - 32768
end Se
namespace Tw
open Go.RowKit Ba En Tm
set_option maxRecDepth 100000
attribute [local irreducible] Go.Calls
theorem lenT (w:World):Calls Tryz.prog 165 #[.int .u64 1099511627776] w fun e w'=>e=.returned (.int .i64 41)∧Since w w':=by
 go_enter Tryz.func165,Tryz.ntmps165
 go_wp2
 go_ret
 exact ⟨congrArg Ending.returned (by kernel_rfl),Since.refl _⟩
theorem mulT (a b:Int) (w:World):Calls Tryz.prog 190 #[.int .i64 a,.int .i64 b] w fun e w'=>e=.returned (.int .i64 (mu a b))∧Since w w':=by
 have h1:=cl_lo a
 have h2:=cl_hi a
 have h3:=cl_lo b
 have h4:=cl_hi b
 have hp0:=prod_lo a b
 by_cases hz:0 < cl a
 ·have ht:=div_test (cl a) (cl b) hz
  have hd0:0≤1099511627776 / cl a:=Int.ediv_nonneg (by decide) (by omega)
  by_cases hd:1099511627776 / cl a < cl b
  ·have hp:mu a b=1099511627776:=by
    have:=ht.1 hd
    unfold mu; rw [Int.mul_comm]; exact cl_up _ (by omega)
   refine ent tab_ok [.i .i64 a,.i .i64 b] Tryz.func190 Tryz.ntmps190 rfl rfl ?_
   repeat' (first | refine gs_ ?_|((conv=>whnf); first | intro b | refine bto ?_|refine bfo ?_|refine cd (by first | decide | omega) ?_|refine wr_q ?_|refine callS (f:=189) (.i .i64 (cl _)) (clT _) ?_|refine fin_s ?_))
   all_goals (rw [hp]; rfl)
  ·have hp:cl a*cl b≤1099511627776:=by
    rw [Int.mul_comm]
    have:¬ (1099511627776 < cl b*cl a):=fun h=>hd (ht.2 h)
    omega
   have hm:mu a b=cl a*cl b:=by unfold mu; exact cl_id _ hp0 hp
   refine ent tab_ok [.i .i64 a,.i .i64 b] Tryz.func190 Tryz.ntmps190 rfl rfl ?_
   repeat' (first | refine gs_ ?_|((conv=>whnf); first | intro b | refine bto ?_|refine bfo ?_|refine cd (by first | decide | omega) ?_|refine wr_q ?_|refine wr_i ?_ ⟨by omega,by omega⟩|refine callS (f:=189) (.i .i64 (cl _)) (clT _) ?_|refine fin_s ?_))
   all_goals (rw [hm]; rfl)
 ·have e:cl a=0:=by omega
  have hm:mu a b=cl a*cl b:=by unfold mu; rw [e]; simp [cl]
  have hp:cl a*cl b≤1099511627776:=by rw [e]; simp
  refine ent tab_ok [.i .i64 a,.i .i64 b] Tryz.func190 Tryz.ntmps190 rfl rfl ?_
  repeat' (first | refine gs_ ?_|((conv=>whnf); first | intro b | refine bto ?_|refine bfo ?_|refine cd (by first | decide | omega) ?_|refine wr_q ?_|refine wr_i ?_ ⟨by omega,by omega⟩|refine callS (f:=189) (.i .i64 (cl _)) (clT _) ?_|refine fin_s ?_))
  all_goals (rw [hm]; rfl)
theorem paT (b m t:Int) (w:World):Calls Tryz.prog 129 #[.int .i64 b,.int .i64 m,.int .i64 t] w fun e w'=>e=.returned (.int .i64 (pa b m t))∧Since w w':=by
 have HM:∀ n:Nat,n=tr t 41→min (mu b (2 ^ n)) (cl m)=pa b m t:=fun n hn=>by
  rw [mu_pow,hn,dbl_tr]; rfl
 obtain ⟨n,hn,hn41,hv⟩:∃ n:Nat,n=tr t 41∧n≤41∧(if 41 < (if 0 > t then 0 else t) then 41 else (if 0 > t then 0 else t))=(n:Int):=⟨tr t 41,rfl,by unfold tr; omega,by unfold tr; repeat' split <;> omega⟩
 have H:=HM n hn
 have a1:2 ^ n≤2 ^ 41:=Nat.pow_le_pow_right (by omega) hn41
 have a2:(0:Int)≤2 ^ n:=Int.pow_nonneg (by omega)
 have a3:(2:Int) ^ n=((2 ^ n:Nat):Int):=by simp
 have a4:(1:Int)*2 ^ min n 64=2 ^ n:=by rw [Nat.min_eq_left (by omega),Int.one_mul]
 have hmin:(if cl m < mu b (2 ^ n) then cl m else mu b (2 ^ n))=pa b m t:=by rw [← H]; split <;> omega
 have hw:IntKind.i64.wrap ((2:Int) ^ n)=2 ^ n:=wr64 _ (by omega) (by omega)
 refine ent tab_ok [.i .i64 b,.i .i64 m,.i .i64 t] Tryz.func129 Tryz.ntmps129 rfl rfl ?_
 repeat' (first | refine gs_ ?_|((conv=>whnf); first | intro b | refine bto ?_|refine bfo ?_|refine cd (by first | decide | omega) ?_|refine wr_lit ?_|refine callS (f:=165) (.i .i64 41) (lenT) ?_|refine callS (f:=190) (.i .i64 (mu _ _)) (mulT _ _) ?_|refine callS (f:=189) (.i .i64 (cl _)) (clT _) ?_|refine fin_s ?_))
 all_goals
  refine congrArg (Value.int .i64) ?_
  rw [hv]
  rw [show IntKind.i64.wrap (1*2 ^ min ((n:Int)).toNat IntKind.i64.bits)=2 ^ n from by
   rw [show ((n:Int)).toNat=n from Int.toNat_natCast n,show IntKind.i64.bits=64 from rfl,a4]; exact hw]
  exact hmin
end Tw
namespace Se
open Go.RowKit Ba En
set_option maxRecDepth 100000
theorem nextT (n:Int) (w:World):Calls Tryz.prog 197 #[.int .i64 n] w fun e w'=>e=.returned (.int .i64 (nx n))∧Since w w':=by
 go_enter Tryz.func197,Tryz.ntmps197
 go_wp2
 go_ret
 exact ⟨ret_int (by rw [u16_wrap,u16_wrap,IntWalk.wrap64_in _ (by omega)]; unfold nx; omega),Since.refl _⟩
theorem nearT (a b:Int) (w:World):Calls Tryz.prog 242 #[.int .i64 a,.int .i64 b] w fun e w'=>e=.returned (.int .i64 (ne a b))∧Since w w':=by
 go_enter Tryz.func242,Tryz.ntmps242
 go_wp2
 go_ret
 exact ⟨ret_int (by rw [u16_wrap,u16_wrap,u16_wrap,i16_wrap,IntWalk.wrap64_in _ (by omega)]; unfold ne; omega),Since.refl _⟩
attribute [local irreducible] Go.Calls
theorem newerT (a b:Int) (w:World):Calls Tryz.prog 200 #[.int .i64 a,.int .i64 b] w fun e w'=>e=.returned (.bool (decide (0 < ne a b)))∧Since w w':=by
 refine ent tab_ok [.i .i64 a,.i .i64 b] Tryz.func200 Tryz.ntmps200 rfl rfl ?_
 repeat' (first | refine gs_ ?_|((conv=>whnf); first | intro b | refine callS (f:=242) (.i .i64 (ne a b)) (nearT a b) ?_|refine fin_s ?_))
 all_goals rfl
end Se
namespace Ln
open Go.RowKit Ba Mem En Go.Proofs.YtepfmfalebmcnaaGreatDoor.Ty Tm Tw
open Ri (MsgV)
open Co (Hold.ob)
open CM (msgC msgC_len msgC_one)
set_option maxRecDepth 100000
attribute [local irreducible] Go.Calls
structure PkV where
 se:Int
 ep:Int
 sq:Int
 ak:Int
 ha:Bool
 m:MsgV
structure LkV where
 c:CfgV
 se:Int
 ep:Int
 sq:Int
 st:Int
 du:Int
 ak:Int
 an:Bool
 he:Int
def zeroM:MsgV:=⟨0,0,0,0⟩
def msgE:Ek MsgV:=⟨26,4,msgC,msgC_len,msgC_one⟩
def pkC (p:PkV):Array Value:=#[.int .i64 p.se,.int .i64 p.ep,.int .i64 p.sq,.int .i64 p.ak,.bool p.ha,.int .i64 p.m.ki,.int .i64 p.m.a,.int .i64 p.m.b,.int .i64 p.m.c]
def lkC (k:LkV) (sl:Value):Array Value:=#[.int .i64 k.c.ca,.int .i64 k.c.fl,.int .i64 k.c.ft,.int .i64 k.c.se,.int .i64 k.c.dr,.int .i64 k.c.dw,.int .i64 k.c.ho,.int .i64 k.c.re,.int .i64 k.c.yi,.int .i64 k.c.qu,.int .i64 k.c.qo,.int .i64 k.c.lo,.int .i64 k.c.sl,.int .i64 k.c.rt,.int .i64 k.c.cp,.int .i64 k.c.tr,.int .i64 k.c.de,.int .i64 k.c.wi,.int .i64 k.se,.int .i64 k.ep,sl,.int .i64 k.sq,.int .i64 k.st,.int .i64 k.du,.int .i64 k.ak,.bool k.an,.int .i64 k.he]
abbrev lkS (k:LkV) (sl:SV):List SV:=[.i .i64 k.c.ca,.i .i64 k.c.fl,.i .i64 k.c.ft,.i .i64 k.c.se,.i .i64 k.c.dr,.i .i64 k.c.dw,.i .i64 k.c.ho,.i .i64 k.c.re,.i .i64 k.c.yi,.i .i64 k.c.qu,.i .i64 k.c.qo,.i .i64 k.c.lo,.i .i64 k.c.sl,.i .i64 k.c.rt,.i .i64 k.c.cp,.i .i64 k.c.tr,.i .i64 k.c.de,.i .i64 k.c.wi,.i .i64 k.se,.i .i64 k.ep,sl,.i .i64 k.sq,.i .i64 k.st,.i .i64 k.du,.i .i64 k.ak,.b k.an,.i .i64 k.he]
def LO (lo q:Nat) (k:LkV) (ls:List MsgV) (S:List Nat) (w:World):Prop :=
 lo≤q∧∃ A c,S=q::blkOf A∧Blk w q 136 (lkC k (.slice A ls.length c))∧w.ownsRow lo 26 4 (.slice A ls.length c) ls.length (rowsOf msgC ls)
section
variable {w w':World} {lo lo' q b:Nat} {k:LkV} {ls:List MsgV} {S T:List Nat}
theorem LO.upd (e:Upd T w w') (h:LO lo q k ls S w) (hT:∀ g∈S,g∉T):LO lo q k ls S w':=by
 obtain ⟨h0,A,c,rfl,B,O⟩:=h
 exact ⟨h0,A,c,rfl,e.blk B (hT _ (by simp)),e.own O (fun g hg=>hT g (by simp [hg]))⟩
theorem LO.low (h:LO lo q k ls S w):∀ g∈S,lo≤g:=by
 obtain ⟨h0,A,c,rfl,B,O⟩:=h
 intro g hg
 rcases List.mem_cons.1 hg with rfl | hg
 ·exact h0
 ·exact own_low O g hg
theorem LO.lt (h:LO lo q k ls S w):∀ g∈S,g < w.heap.size:=by
 obtain ⟨h0,A,c,rfl,B,O⟩:=h
 intro g hg
 rcases List.mem_cons.1 hg with rfl | hg
 ·exact B.lt
 ·exact own_lt O g hg
theorem LO.base (h:LO lo q k ls S w) (hb:lo'≤lo):LO lo' q k ls S w:=by
 obtain ⟨h0,A,c,rfl,B,O⟩:=h
 exact ⟨by omega,A,c,rfl,B,own_base O hb⟩
end
theorem hold_lk {lo q n:Nat} {k:LkV} {ls:List MsgV} {S:List Nat} {w:World} (hg:LO lo q k ls S w):∃ A c,lo≤q∧S=q::blkOf A∧Hold ⟨Tryz.prog,tab,S,w,n,[]⟩ [⟨q,136,true,0,[],lkS k (.v (.slice A ls.length c)),[],true⟩] [rwO msgE lo A ls.length c ls true] w:=by
 obtain ⟨h0,A,c,rfl,B,O⟩:=hg
 have hq:q∉blkOf A:=own_ne_ty O B (by decide)
 exact ⟨A,c,h0,rfl,Hold.addObj (Hold.addRow (m:=[]) (Hold.nil _ tab _ n w) ⟨q,136,true,0,[],lkS k (.v (.slice A ls.length c)),[],true⟩ B (fun _=>.inl (by simp)) (by intro q hq; cases hq) (by intro A hA; cases hA)) (rwO msgE lo A ls.length c ls true) O (fun _ g hg=>.inl (List.mem_cons_of_mem _ hg)) (by intro r hr _; simp only [List.nil_append,List.mem_singleton] at hr; subst hr; exact hq) (by intro A hA; cases hA)⟩
theorem hold_lr {q n nn c:Nat} {k:LkV} {A:Option Addr} {w:World} (hq:Blk w q 136 (lkC k (.slice A n c))):Hold ⟨Tryz.prog,tab,[],w,nn,[]⟩ [⟨q,136,true,0,[],lkS k (.v (.slice A n c)),[],false⟩] [] w:=hold_q (S:=[]) (lkS k (.v (.slice A n c))) hq
theorem fin_lk {lo q n n1 c1:Nat} {k:LkV} {A1:Option Addr} {S:List Nat} {w:World} {V:Value} {v:SV} {cs:List SV} {fr:List (Nat×SV)} {ls ls0:List MsgV} {rest:List Row} {obr:List Asr} {st:St}
  (hst:st=⟨fr,⟨q,136,true,0,[],cs,[],true⟩::rest,rwO msgE lo A1 n1 c1 ls0 true::obr⟩) (hv:∀ m,den m v=V) (h0:lo≤q) (h1:n1=ls.length) (hls:ls0=ls) (hcs:∀ m,(denL m cs).toArray=lkC k (.slice A1 n1 c1)) :
  Fin ⟨Tryz.prog,tab,S,w,n,[]⟩ (fun e w'=>e=.returned V∧∃ S',LO lo q k ls S' w'∧Upd S w w'∧∀ g∈S',g∈S∨w.heap.size≤g) v st:=by
 subst hst h1 hls
 refine fin fun w' hH=>?_
 have oc:rwO msgE lo A1 ls0.length c1 ls0 true∈rwO msgE lo A1 ls0.length c1 ls0 true::obr:=List.mem_cons_self ..
 refine ⟨by rw [hv],_,⟨h0,A1,c1,rfl, ?_,hH.obj _ oc⟩,hH.upd,fun g hg=>?_⟩
 ·have:=hH.row 0 _ rfl rfl
  rw [rowA_nil rfl rfl,hcs] at this
  exact this
 ·rcases List.mem_cons.1 hg with rfl | hg
  ·exact (hH.wf 0 _ rfl rfl).2.2 rfl
  ·exact hH.own _ oc rfl g hg
theorem wr_u16 {x:Int} {K:Int→Prop} (h:K x) (h0:0≤x∧x≤65535):Wr .u16 x K:=wr (by rw [u16_wrap]; omega) h
theorem newL (c:CfgV) (se ep now:Int) (he:0≤ep∧ep≤65535) (w:World):Calls Tryz.prog 198 #[(aCfg c),.int .i64 se,.int .i64 ep,.int .i64 now] w fun e w'=>∃ q,e=.returned (.pointer (some ⟨q,0,none⟩))∧LO w.heap.size q ⟨c,se,ep,0,0,0,0,false,cl now⟩ [] [q] w'∧Since w w':=by
 refine ent tab_ok [.a (sCfg c),.i .i64 se,.i .i64 ep,.i .i64 now] Tryz.func198 Tryz.ntmps198 rfl rfl ?_
 repeat' (first | refine gs_ ?_|((conv=>whnf); first | intro b | refine wr_u16 ?_ he | refine wr_i ?_|refine callS (f:=189) (.i .i64 (cl _)) (clT _) ?_|refine fin_s ?_))
 all_goals (conv=>whnf)
 refine fin fun w' hH=>⟨_,rfl,⟨?_,none,0,rfl, ?_,World.ownsRow_nil _ _ _ _⟩,hH.upd.since⟩
 ·rcases (hH.wf 1 _ rfl rfl).2.2 rfl with h | h
  ·cases h
  ·exact h
 ·have q:=hH.row 1 _ rfl rfl
  rw [rowA_nil rfl rfl] at q
  exact q
def mx1 (n:Int):Int:=if n < 1 then 1 else n
def winV (c:CfgV):Int:=if 16 < mx1 c.wi then 16 else mx1 c.wi
theorem win_lo (c:CfgV):1≤winV c∧winV c≤16:=by unfold winV mx1; (repeat' split) <;> omega
def mx2 (a b:Int):Int:=if a < b then b else a
def dueB (k:LkV) (n:Nat) (now:Int):Bool:=decide (0 < n) && decide (cl k.du≤cl now)
section
variable {q n c:Nat} {k:LkV} {A:Option Addr} {w:World}
theorem epochT (hb:Blk w q 136 (lkC k (.slice A n c))):Calls Tryz.prog 52 #[.pointer (some ⟨q,0,none⟩)] w fun e w'=>e=.returned (.int .i64 k.ep)∧Since w w':=by
 refine entH tab_ok (hold_lr hb) [.p 0 0] Tryz.func52 Tryz.ntmps52 rfl rfl ?_
 repeat' (first | refine gs_ ?_|((conv=>whnf); first | intro b | refine fin_s ?_))
 all_goals rfl
theorem winT (hb:Blk w q 136 (lkC k (.slice A n c))):Calls Tryz.prog 188 #[.pointer (some ⟨q,0,none⟩)] w fun e w'=>e=.returned (.int .i64 (winV k.c))∧Since w w':=by
 refine entH tab_ok (hold_lr hb) [.p 0 0] Tryz.func188 Tryz.ntmps188 rfl rfl ?_
 repeat' (first | refine gs_ ?_|((conv=>whnf); first | intro b | refine fin_s ?_))
 all_goals (exact congrArg (Value.int .i64) (by unfold winV mx1; (repeat' split) <;> omega))
theorem dueT (now:Int) (hb:Blk w q 136 (lkC k (.slice A n c))):Calls Tryz.prog 125 #[.pointer (some ⟨q,0,none⟩),.int .i64 now] w fun e w'=>e=.returned (.bool (dueB k n now))∧Since w w':=by
 by_cases h0:0 < n
 ·refine entH tab_ok (hold_lr hb) [.p 0 0,.i .i64 now] Tryz.func125 Tryz.ntmps125 rfl rfl ?_
  repeat' (first | refine gs_ ?_|((conv=>whnf); first | intro b | refine bto ?_|refine bfo ?_|refine callS (f:=126) (.b (decide (cl _≤cl _))) (lateT _ _) ?_|refine fin_s ?_))
  all_goals (simp [den,dueB,h0])
 ·refine entH tab_ok (hold_lr hb) [.p 0 0,.i .i64 now] Tryz.func125 Tryz.ntmps125 rfl rfl ?_
  repeat' (first | refine gs_ ?_|((conv=>whnf); first | intro b | refine bto ?_|refine bfo ?_|refine callS (f:=126) (.b (decide (cl _≤cl _))) (lateT _ _) ?_|refine fin_s ?_))
  all_goals (simp [den,dueB,h0])
def mx0 (n:Int):Int:=if n < 0 then 0 else n
def deadB (k:LkV) (n:Nat) (now:Int):Bool:=(dueB k n now && decide (mx0 k.c.tr < k.st)) || decide (cl (cl (cl k.he+cl k.c.de))≤cl now)
theorem deadT (now:Int) (hb:Blk w q 136 (lkC k (.slice A n c))):Calls Tryz.prog 93 #[.pointer (some ⟨q,0,none⟩),.int .i64 now] w fun e w'=>e=.returned (.bool (deadB k n now))∧Since w w':=by
 cases hd:dueB k n now with
 | false =>
  refine entH tab_ok (hold_lr hb) [.p 0 0,.i .i64 now] Tryz.func93 Tryz.ntmps93 rfl rfl ?_
  repeat' (first | refine gs_ ?_|((conv=>whnf); first | intro b | refine callH (f:=125) (.b false) (fun w hH=>by have:=dueT now (hH.row 0 _ rfl rfl); rw [hd] at this; exact this) ?_|refine callS (f:=127) (.i .i64 (cl (cl _+cl _))) (addT _ _) ?_|refine callS (f:=126) (.b (decide (cl _≤cl _))) (lateT _ _) ?_|refine fin_s ?_))
  all_goals (simp [den,deadB,hd])
 | true =>
  by_cases ht:mx0 k.c.tr < k.st
  ·refine entH tab_ok (hold_lr hb) [.p 0 0,.i .i64 now] Tryz.func93 Tryz.ntmps93 rfl rfl ?_
   repeat' (first | refine gs_ ?_|((conv=>whnf); first | intro b | refine callH (f:=125) (.b true) (fun w hH=>by have:=dueT now (hH.row 0 _ rfl rfl); rw [hd] at this; exact this) ?_|refine br_t (decide_eq_true (show mx0 k.c.tr < k.st from ht)) ?_|refine fin_s ?_))
   all_goals (simp [den,deadB,hd,ht])
  ·refine entH tab_ok (hold_lr hb) [.p 0 0,.i .i64 now] Tryz.func93 Tryz.ntmps93 rfl rfl ?_
   repeat' (first | refine gs_ ?_|((conv=>whnf); first | intro b | refine callH (f:=125) (.b true) (fun w hH=>by have:=dueT now (hH.row 0 _ rfl rfl); rw [hd] at this; exact this) ?_|refine br_f (decide_eq_false (show ¬ mx0 k.c.tr < k.st from ht)) ?_|refine callS (f:=127) (.i .i64 (cl (cl _+cl _))) (addT _ _) ?_|refine callS (f:=126) (.b (decide (cl _≤cl _))) (lateT _ _) ?_|refine fin_s ?_))
   all_goals (simp [den,deadB,hd,ht])
end
section
variable {lo q:Nat} {k:LkV} {ls:List MsgV} {S:List Nat} {w:World}
attribute [local irreducible] winV
theorem sendT (h:LO lo q k ls S w) (m:MsgV) (hl:ls.length≤10000) :
  Calls Tryz.prog 124 #[.pointer (some ⟨q,0,none⟩),.agg #[.int .i64 m.ki,.int .i64 m.a,.int .i64 m.b,.int .i64 m.c]] w fun e w'=>e=.returned (.bool (decide ((ls.length:Int) < winV k.c)))∧∃ S',LO lo q k (if (ls.length:Int) < winV k.c then ls++[m] else ls) S' w'∧Upd S w w'∧∀ g∈S',g∈S∨w.heap.size≤g:=by
 obtain ⟨A,c,h0,hS,hH⟩:=hold_lk (n:=_) h
 by_cases hw:(ls.length:Int) < winV k.c
 ·rw [if_pos hw,decide_eq_true hw]
  refine entH tab_ok (hH) [.p 0 0,.a [.i .i64 m.ki,.i .i64 m.a,.i .i64 m.b,.i .i64 m.c]] Tryz.func124 Tryz.ntmps124 rfl rfl ?_
  repeat' (first | refine gs_ ?_|((conv=>whnf); first | intro b | refine bto ?_|refine bfo ?_|refine callH (f:=188) (.i .i64 (winV k.c)) (fun w hH=>winT (hH.row 0 _ rfl rfl)) ?_|refine opb1 (e:=26) ⟨tab_ok⟩ [.i .i64 m.ki,.i .i64 m.a,.i .i64 m.b,.i .i64 m.c] (by rfl) (by rfl) ?_|refine opap 0 2 (e:=26) (lo:=lo) (size:=4) (bytes:=32) (z:=.agg #[.int .i64 0,.int .i64 0,.int .i64 0,.int .i64 0]) (A:=rwO msgE lo A ls.length c ls true) (vals:=rowsOf msgC ls) (cells:=msgC m) (zs:=rowsOf msgC (ls++[m])) (n2:=ls.length+1) (fun A' c'=>rwO msgE lo A' (ls.length+1) c' (ls++[m]) true) (by rfl) (by rfl) (by rfl) (by rfl) rfl rfl (fun w h=>h) (fun A' c' w h=>h) (fun _ _=>rfl) (by rfl) (by rfl) (by rfl) (by rfl) Tryz.underlying134 (by kernel_rfl) rfl (by decide) (by decide) (msgC_one _) (by omega) (fun w hH=>by have h:q < w.heap.size:=(hH.row 0 _ rfl rfl).lt; omega) rfl (by rw [rowsOf_append,rowsOf_one]) (fun A' c'=>?_)|refine fin_lk (k:=k) (by rfl) (by intro m; rfl) h0 (by simp) rfl (by intro m; rfl)|refine fin_s ?_))
 ·rw [if_neg hw,decide_eq_false hw]
  refine entH tab_ok (hH) [.p 0 0,.a [.i .i64 m.ki,.i .i64 m.a,.i .i64 m.b,.i .i64 m.c]] Tryz.func124 Tryz.ntmps124 rfl rfl ?_
  repeat' (first | refine gs_ ?_|((conv=>whnf); first | intro b | refine bto ?_|refine bfo ?_|refine callH (f:=188) (.i .i64 (winV k.c)) (fun w hH=>winT (hH.row 0 _ rfl rfl)) ?_|refine fin_lk (k:=k) (by rfl) (by intro m; rfl) h0 (by rfl) rfl (by intro m; rfl)|refine fin_s ?_))
def pollK (k:LkV) (n:Nat) (now:Int):LkV:=if dueB k n now then { k with du:=cl (cl now+cl (pa k.c.rt k.c.cp k.st)),st:=k.st+1,an:=false } else if k.an then { k with an:=false } else k
def pollB (k:LkV) (n:Nat) (now:Int):Bool:=dueB k n now || k.an
def pollP (k:LkV) (ls:List MsgV) (now:Int):PkV:=if dueB k ls.length now then ⟨k.se,k.ep,k.sq,k.ak,true,ls.headD zeroM⟩ else if k.an then ⟨k.se,k.ep,k.sq,k.ak,false,zeroM⟩ else ⟨0,0,0,0,false,zeroM⟩
theorem pollT (h:LO lo q k ls S w) (now:Int) (hl:ls.length≤10000) (hs : -1000000000≤k.st∧k.st≤1000000000) :
  Calls Tryz.prog 96 #[.pointer (some ⟨q,0,none⟩),.int .i64 now] w fun e w'=>e=.returned (.tuple #[.agg (pkC (pollP k ls now)),.bool (pollB k ls.length now)])∧∃ S',LO lo q (pollK k ls.length now) ls S' w'∧Upd S w w'∧∀ g∈S',g∈S∨w.heap.size≤g:=by
 unfold pollP pollB pollK
 cases hd:dueB k ls.length now with
 | true =>
  obtain ⟨m,l2,rfl⟩:∃ m l2,ls=m::l2:=by
   cases ls with
   | nil=>simp [dueB] at hd
   | cons m l2=>exact ⟨m,l2,rfl⟩
  obtain ⟨h0,A,c,rfl,B,O⟩:=h
  have hq:=own_ne_ty O B (by decide)
  obtain ⟨g,rfl⟩:=own_addr O (by simp)
  have hqg:q≠g:=fun e=>hq (by simp [blkOf,e])
  obtain ⟨P,T,hP,hB,_⟩:=own_el msgE.len O (i:=0) (by simp)
  have hP:P.length=0:=by omega
  cases P with
  | cons a b=>simp at hP
  | nil =>
   refine entH tab_ok (Hold.addRow (m:=[⟨q,136,true,0,[],lkS k (.v (.slice (some ⟨g,0,none⟩) (m::l2).length c)),[],true⟩]) (Hold.addRow (m:=[]) (Hold.nil _ tab [q] _ w) ⟨q,136,true,0,[],lkS k (.v (.slice (some ⟨g,0,none⟩) (m::l2).length c)),[],true⟩ B (fun _=>.inl (by simp)) (by intro q hq; cases hq) (by intro A hA; cases hA)) ⟨g,26,true,0,[],[.i .i64 m.ki,.i .i64 m.a,.i .i64 m.b,.i .i64 m.c],T,false⟩ hB (by intro h; cases h) (by intro r hr _; simp only [List.mem_singleton] at hr; subst hr; exact hqg) (by intro A hA; cases hA)) [.p 0 0,.i .i64 now] Tryz.func96 Tryz.ntmps96 rfl rfl ?_
   repeat' (first | refine gs_ ?_|((conv=>whnf); first | intro b | refine bto ?_|refine bfo ?_|refine wr_i ?_|refine callH (f:=125) (.b true) (fun w hH=>by have:=dueT now (hH.row 0 _ rfl rfl); rw [hd] at this; exact this) ?_|refine opir ⟨tab_ok⟩ 1 (by rfl) (by rfl) (by rfl) (by rfl) (by rfl) (by rfl) (by rfl) ⟨⟨by omega,by rw [List.length_cons]; omega⟩,by rfl⟩ ?_|refine puir ⟨tab_ok⟩ 1 (by rfl) (by rfl) (by rfl) (by rfl) (by rfl) (by rfl) (by rfl) ⟨⟨by omega,by rw [List.length_cons]; omega⟩,by rfl⟩ ?_|refine callS (f:=127) (.i .i64 (cl (cl _+cl _))) (addT _ _) ?_|refine callS (f:=129) (.i .i64 (pa _ _ _)) (paT _ _ _) ?_|refine fin_s ?_))
   refine fin fun w' hH=>⟨rfl,_,⟨h0,some ⟨g,0,none⟩,c,rfl, ?_,hH.upd.own O (by intro x hx; simp only [blkOf,List.mem_singleton] at hx ⊢; subst hx; exact fun e=>hqg e.symm)⟩,hH.upd.mono (by simp),fun x hx=>.inl hx⟩
   have:=hH.row 0 _ rfl rfl
   rw [rowA_nil rfl rfl] at this
   exact this
 | false =>
  obtain ⟨A,c,h0,hS,hH⟩:=hold_lk (n:=_) h
  cases ha:k.an with
  | true =>
   refine entH tab_ok (hH) [.p 0 0,.i .i64 now] Tryz.func96 Tryz.ntmps96 rfl rfl ?_
   repeat' (first | refine gs_ ?_|((conv=>whnf); first | intro b | refine bto ?_|refine bfo ?_|refine wr_i ?_|refine callH (f:=125) (.b false) (fun w hH=>by have:=dueT now (hH.row 0 _ rfl rfl); rw [hd] at this; exact this) ?_|refine fin_lk (k:={ k with an:=false }) (by rfl) (by intro m; rfl) h0 (by rfl) rfl (by intro m; rfl)|refine fin_s ?_))
  | false =>
   refine entH tab_ok (hH) [.p 0 0,.i .i64 now] Tryz.func96 Tryz.ntmps96 rfl rfl ?_
   repeat' (first | refine gs_ ?_|((conv=>whnf); first | intro b | refine bto ?_|refine bfo ?_|refine wr_i ?_|refine callH (f:=125) (.b false) (fun w hH=>by have:=dueT now (hH.row 0 _ rfl rfl); rw [hd] at this; exact this) ?_|refine fin_lk (k:=k) (by rfl) (by intro m; rfl) h0 (by rfl) rfl (by intro m; simp [denL,den,lkC,ha])|refine fin_s ?_))
theorem arrivedT {g m c:Nat} (hB:Blk w q 136 (lkC k (.slice (some ⟨g,0,none⟩) (m+1) c))) (hO:msgE.At lo (some ⟨g,0,none⟩) (m+1) c ls w) (hq:q∉blkOf (some ⟨g,0,none⟩)) (hl:m+1≤10000) (hm:ls.length=m+1) :
  Calls Tryz.prog 199 #[.pointer (some ⟨q,0,none⟩)] w fun e w'=>e=.returned (.tuple #[])∧Blk w' q 136 (lkC { k with sq:=Se.nx k.sq,st:=0,du:=0 } (.slice (some ⟨g,0,none⟩) m c))∧msgE.At lo (some ⟨g,0,none⟩) m c ls.tail w'∧Upd (q::blkOf (some ⟨g,0,none⟩)) w w':=by
 have hc:m+1≤c:=by
  rcases hO.2 with ⟨hv,_⟩ | ⟨_,_,_,hv,_,_,hc,_⟩
  ·simp at hv
  ·simp at hv; omega
 have htl:ls.eraseIdx 0=ls.tail:=by cases ls <;> rfl
 refine entH tab_ok (Hold.addObj (Hold.addRow (m:=[]) (Hold.nil _ tab (q::blkOf (some ⟨g,0,none⟩)) _ w) ⟨q,136,true,0,[],lkS k (.v (.slice (some ⟨g,0,none⟩) (m+1) c)),[],true⟩ hB (fun _=>.inl (by simp)) (by intro q hq; cases hq) (by intro A hA; cases hA)) (rwO msgE lo (some ⟨g,0,none⟩) (m+1) c ls true) hO (fun _ g hg=>.inl (List.mem_cons_of_mem _ hg)) (by intro r hr _; simp only [List.nil_append,List.mem_singleton] at hr; subst hr; exact hq) (by intro A hA; cases hA)) [.p 0 0] Tryz.func199 Tryz.ntmps199 rfl rfl ?_
 repeat' (first | refine gs_ ?_|((conv=>whnf); first | intro b | refine bto ?_|refine bfo ?_|refine wr_i ?_|refine callS (f:=197) (.i .i64 (Se.nx _)) (Se.nextT _) ?_|refine callO (f:=241) (A:=rwO msgE lo (some ⟨g,0,none⟩) (m+1) c ls true) 0 (fun _:Unit=>.v (.slice (some ⟨g,0,none⟩) m c)) (fun _=>rwO msgE lo (some ⟨g,0,none⟩) m c (ls.eraseIdx 0) true) (fun w hH hA=>(CM.deleteT lo g m c 0 ls w hA hm (by omega) hc (by omega)).mono (by rintro e w' ⟨rfl,h1,h2⟩; exact ⟨(),rfl,h1,h2,fun _ h=>.inl h⟩)) (fun _=>?_)|refine fin fun w' hH=>⟨rfl, ?_, ?_,hH.upd⟩|refine fin_s ?_))
 ·have:=hH.row 0 _ rfl rfl
  rw [rowA_nil rfl rfl] at this
  exact this
 ·rw [← htl]; exact Hold.ob hH (A:=rwO msgE lo (some ⟨g,0,none⟩) m c (ls.eraseIdx 0) true) 0 rfl
end
def okB (k:LkV) (p:PkV):Bool:=decide (p.se=k.se) && decide (p.ep=k.ep)
def arrB (k:LkV) (n:Nat) (p:PkV):Bool:=decide (0 < n) && decide (p.ak=Se.nx k.sq)
def newB (k:LkV) (p:PkV):Bool:=decide (0 < Se.ne k.ak p.sq)
def hearK (k:LkV) (n:Nat) (p:PkV) (now:Int):LkV:=if arrB k n p then { k with he:=mx2 k.he (cl now),sq:=Se.nx k.sq,st:=0,du:=0 } else { k with he:=mx2 k.he (cl now) }
def hearL (k:LkV) (ls:List MsgV) (p:PkV):List MsgV:=if arrB k ls.length p then ls.tail else ls
def takeB (k:LkV) (p:PkV):Bool:=okB k p && p.ha && !newB k p && decide (p.sq=k.ak)
def recvK (k:LkV) (n:Nat) (p:PkV) (now:Int):LkV :=
 if okB k p then (if p.ha && !newB k p then (if p.sq=k.ak then { hearK k n p now with an:=true,ak:=Se.nx k.ak } else { hearK k n p now with an:=true }) else hearK k n p now) else k
def recvL (k:LkV) (ls:List MsgV) (p:PkV):List MsgV:=if okB k p then hearL k ls p else ls
def recvM (k:LkV) (p:PkV):MsgV:=if takeB k p then p.m else zeroM
section
variable {lo q:Nat} {k:LkV} {ls:List MsgV} {S:List Nat} {w:World}
set_option maxHeartbeats 4000000 in
theorem recvT (h:LO lo q k ls S w) (p:PkV) (now:Int) (hl:ls.length≤10000) :
  Calls Tryz.prog 141 #[.pointer (some ⟨q,0,none⟩),.agg (pkC p),.int .i64 now] w fun e w'=>e=.returned (.tuple #[.agg #[.int .i64 (recvM k p).ki,.int .i64 (recvM k p).a,.int .i64 (recvM k p).b,.int .i64 (recvM k p).c],.bool (takeB k p)])∧∃ S',LO lo q (recvK k ls.length p now) (recvL k ls p) S' w'∧Upd S w w'∧∀ g∈S',g∈S∨w.heap.size≤g:=by
 obtain ⟨A,c,h0,hS,hH⟩:=hold_lk (n:=_) h
 by_cases h1:p.se=k.se
 case neg =>
  have ho:okB k p=false:=by simp [okB,h1]
  refine entH tab_ok (hH) [.p 0 0,.a [.i .i64 p.se,.i .i64 p.ep,.i .i64 p.sq,.i .i64 p.ak,.b p.ha,.i .i64 p.m.ki,.i .i64 p.m.a,.i .i64 p.m.b,.i .i64 p.m.c],.i .i64 now] Tryz.func141 Tryz.ntmps141 rfl rfl ?_
  repeat' (first | refine gs_ ?_|((conv=>whnf); first | intro b | refine br_t (bne_iff_ne.2 h1) ?_|refine fin_lk (by rfl) ?_ h0 ?_ ?_ ?_|refine fin_s ?_))
  all_goals ((try intro m); (try simp [den,denL,takeB,recvK,recvL,recvM,ho,zeroM,lkC]); (try rfl))
 by_cases h2:p.ep=k.ep
 case neg =>
  have ho:okB k p=false:=by simp [okB,h2]
  refine entH tab_ok (hH) [.p 0 0,.a [.i .i64 p.se,.i .i64 p.ep,.i .i64 p.sq,.i .i64 p.ak,.b p.ha,.i .i64 p.m.ki,.i .i64 p.m.a,.i .i64 p.m.b,.i .i64 p.m.c],.i .i64 now] Tryz.func141 Tryz.ntmps141 rfl rfl ?_
  repeat' (first | refine gs_ ?_|((conv=>whnf); first | intro b | refine br_f (bne_f h1) ?_|refine br_t (bne_iff_ne.2 h2) ?_|refine fin_lk (by rfl) ?_ h0 ?_ ?_ ?_|refine fin_s ?_))
  all_goals ((try intro m); (try simp [den,denL,takeB,recvK,recvL,recvM,ho,zeroM,lkC]); (try rfl))
 have ho:okB k p=true:=by simp [okB,h1,h2]
 by_cases hn:0 < ls.length
 case neg =>
  have ha:arrB k ls.length p=false:=by simp [arrB,hn]
  refine entH tab_ok (hH) [.p 0 0,.a [.i .i64 p.se,.i .i64 p.ep,.i .i64 p.sq,.i .i64 p.ak,.b p.ha,.i .i64 p.m.ki,.i .i64 p.m.a,.i .i64 p.m.b,.i .i64 p.m.c],.i .i64 now] Tryz.func141 Tryz.ntmps141 rfl rfl ?_
  repeat' (first | refine gs_ ?_|((conv=>whnf); first | intro b | refine bto ?_|refine bfo ?_|refine br_f (bne_f h1) ?_|refine br_f (bne_f h2) ?_|refine br_b (fun h=>?_) (fun h=>?_)|refine callS (f:=189) (.i .i64 (cl _)) (clT _) ?_|refine callS (f:=197) (.i .i64 (Se.nx _)) (Se.nextT _) ?_|refine callS (f:=200) (.b (decide (0 < Se.ne _ _))) (Se.newerT _ _) ?_|refine fin_lk (by rfl) ?_ h0 ?_ ?_ ?_|refine fin_s ?_))
  all_goals ((try intro m); (try simp_all [den,denL,takeB,recvK,recvL,recvM,newB,hearK,hearL,mx2,zeroM,lkC]); (try rfl))
 by_cases hk:p.ak=Se.nx k.sq
 case neg =>
  have ha:arrB k ls.length p=false:=by simp [arrB,hk]
  refine entH tab_ok (hH) [.p 0 0,.a [.i .i64 p.se,.i .i64 p.ep,.i .i64 p.sq,.i .i64 p.ak,.b p.ha,.i .i64 p.m.ki,.i .i64 p.m.a,.i .i64 p.m.b,.i .i64 p.m.c],.i .i64 now] Tryz.func141 Tryz.ntmps141 rfl rfl ?_
  repeat' (first | refine gs_ ?_|((conv=>whnf); first | intro b | refine bto ?_|refine bfo ?_|refine br_f (bne_f h1) ?_|refine br_f (bne_f h2) ?_|refine br_f (beq_eq_false_iff_ne.2 hk) ?_|refine br_b (fun h=>?_) (fun h=>?_)|refine callS (f:=189) (.i .i64 (cl _)) (clT _) ?_|refine callS (f:=197) (.i .i64 (Se.nx _)) (Se.nextT _) ?_|refine callS (f:=200) (.b (decide (0 < Se.ne _ _))) (Se.newerT _ _) ?_|refine fin_lk (by rfl) ?_ h0 ?_ ?_ ?_|refine fin_s ?_))
  all_goals ((try intro m); (try simp_all [den,denL,takeB,recvK,recvL,recvM,newB,hearK,hearL,mx2,zeroM,lkC]); (try rfl))
 have ha:arrB k ls.length p=true:=by simp [arrB,hk,hn]
 obtain ⟨m,hm⟩:∃ m,ls.length=m+1:=⟨ls.length - 1,by omega⟩
 have hlt:ls.tail.length=m:=by simp; omega
 obtain ⟨g,rfl⟩:=own_addr (hH.obj (rwO msgE lo A ls.length c ls true) (List.mem_cons_self ..)) hn
 rw [hm] at hH ha
 rw [hm]
 refine entH tab_ok (hH) [.p 0 0,.a [.i .i64 p.se,.i .i64 p.ep,.i .i64 p.sq,.i .i64 p.ak,.b p.ha,.i .i64 p.m.ki,.i .i64 p.m.a,.i .i64 p.m.b,.i .i64 p.m.c],.i .i64 now] Tryz.func141 Tryz.ntmps141 rfl rfl ?_
 repeat' (first | refine gs_ ?_|((conv=>whnf); first | intro b | refine bto ?_|refine bfo ?_|refine br_f (bne_f h1) ?_|refine br_f (bne_f h2) ?_|refine br_t (beq_iff_eq.2 hk) ?_|refine callRO (f:=199) 0 0 (A:=rwO msgE lo (some ⟨g,0,none⟩) (m+1) c ls true) (fun _:Unit=>.t []) (fun _=>lkS { k with he:=mx2 k.he (cl now),sq:=Se.nx k.sq,st:=0,du:=0 } (.v (.slice (some ⟨g,0,none⟩) m c))) (fun _=>rwO msgE lo (some ⟨g,0,none⟩) m c ls.tail true) (fun w hH hB hA hq=>(arrivedT (k:={ k with he:=mx2 k.he (cl now) }) hB hA hq (by omega) hm).mono (by rintro e w' ⟨rfl,h1,h2,h3⟩; exact ⟨(),rfl,h1,h2,h3,fun _ h=>.inl h⟩)) (fun _=>?_)|refine br_b (fun h=>?_) (fun h=>?_)|refine callS (f:=189) (.i .i64 (cl _)) (clT _) ?_|refine callS (f:=197) (.i .i64 (Se.nx _)) (Se.nextT _) ?_|refine callS (f:=200) (.b (decide (0 < Se.ne _ _))) (Se.newerT _ _) ?_|refine fin_lk (by rfl) ?_ h0 ?_ ?_ ?_|refine fin_s ?_))
 all_goals ((try intro m); (try simp_all [den,denL,takeB,recvK,recvL,recvM,newB,hearK,hearL,mx2,zeroM,lkC]); (try rfl))
end
end Ln
namespace Mp
open Go.RowKit Ba Mem
open Go.Maps (Keyed IsMap)
def rv (v:Value):Option (DataW Value×List MemPlace):=some (.held v,[])
def MapF (P:Program) (k:TypeId) (w:World) (b n:Nat) (m:Int→Option Value):Prop :=
 ∃ D:DataW Value,w.ownsMap P k rv b n D∧IsMap D∧∀ x,(Lit.int .i64 x).wf=true→∀ z,D.atKey (.int .i64 x) z=match m x with | some v=>.held v | none=>z
def setK (m:Int→Option Value) (x:Int) (v:Option Value):Int→Option Value:=fun y=>if y=x then v else m y
section
variable {P:Program} {k e t:TypeId} {w w':World} {b n:Nat} {m:Int→Option Value} {S:List Nat}
theorem MapF.lt (h:MapF P k w b n m):b < w.heap.size:=by
 obtain ⟨D,h1,_⟩:=h
 exact h1.lt
theorem MapF.upd (u:Upd S w w') (h:MapF P k w b n m) (hb:b∉S):MapF P k w' b n m:=by
 obtain ⟨D,⟨es,clock,h1,h2⟩,h3⟩:=h
 have hlt:b < w.heap.size:=(Array.getElem?_eq_some_iff.1 h1).1
 exact ⟨D,⟨es,clock,(u.block b hlt hb).trans h1,h2⟩,h3⟩
theorem MapF.mono (h:MapF P k w b n m) {n':Nat} (hn:n≤n'):MapF P k w b n' m:=by
 obtain ⟨D,h1,h2⟩:=h
 exact ⟨D,h1.mono hn,h2⟩
theorem key_lit (x:Int):WideAt.IsKeyLit (.int .i64 x):=by first | trivial | simp [WideAt.IsKeyLit]
theorem grown_upd (g:w.grownBy w' (some b)):Upd [b] w w' :=
 ⟨g.os,g.tape,g.output,g.size,fun j hj hn=>g.block j hj (fun e=>hn (by injection e with e; simp [e]))⟩
theorem ne_lit {x y:Int} (h:y≠x):(Lit.int .i64 y)≠.int .i64 x:=fun e=>h (by injection e)
variable {o:Oper} {a:Act} {K:Act→World→Prop} {Q:Exit→Act→World→Prop}
theorem exec_look (mm x:Operand) (ty:TypeId) (ho:o.op=.lookup ty mm x false) (hk:P.underlying k=some (.int .i64)) (ht:P.underlying ty=some (.map k e)) {z:Value} (hz:(zeroValue e).run P w=.ok z w) (h:MapF P k w b n m) (hm:a.eval mm=.map (some b))
  {i:Int} (hx:a.eval x=.int .i64 i) (hw:(Lit.int .i64 i).wf=true) {v:Value} (hv:(m i).getD z=v):(execOp a.eval o).run P w=.ok (.value v) w:=by
 obtain ⟨D,h1,_,h3⟩:=h
 obtain ⟨v',ps,hrun,hat⟩:=h1.lookup (Go.Maps.int_keyed hk) ht hz (zd:=.held z) (zp:=[]) rfl (Go.Maps.keyOf_int_mk hk hw)
 have e:v'=v:=by
  rw [h3 i hw] at hat
  have hat2:=(Prod.mk.injEq _ _ _ _).mp (Option.some.inj hat) |>.1
  subst hv
  cases hmi:m i with
  | none=>rw [hmi] at hat2; injection hat2 with hat2
  | some u=>rw [hmi] at hat2; injection hat2 with hat2
 subst e
 simp [execOp,ho,hm,hx,hrun,Result.andThen]
theorem wp_mapput (mm x v:Operand) (ty:TypeId) (ho:o.op=.mapUpdate ty mm x v) (hk:P.underlying k=some (.int .i64)) (ht:P.underlying ty=some (.map k e)) (h:MapF P k w b n m) (hn:n < 1000000) (hm:a.eval mm=.map (some b)) {i:Int} (hx:a.eval x=.int .i64 i) (hw:(Lit.int .i64 i).wf=true) {u:Value} (hv:a.eval v=u)
  (hK:∀ w',MapF P k w' b (n+1) (setK m i (some u))→Upd [b] w w'→K (a.put o.dst undef) w'):o.wp P a w K Q:=by
 obtain ⟨D,h1,h2,h3⟩:=h
 obtain ⟨w',hrun,r1,r2⟩:=h1.update (Go.Maps.int_keyed hk) ht (by unfold maxLen; omega) (Go.Maps.keyOf_int_mk hk hw) (val:=u) (d:=.held u) (ps:=[]) rfl
 unfold Oper.wp
 simp [execOp,ho,hm,hx,hv,hrun,Result.andThen]
 refine hK w' ⟨D.put (.int .i64 i) (.held u),r1,h2.put _ _,fun y hy z=>?_⟩ (grown_upd r2)
 unfold setK
 by_cases e:y=i
 ·subst e; rw [if_pos rfl,Go.Maps.atKey_put_same h2 (key_lit y)]
 ·rw [if_neg e,Go.Maps.atKey_put_other (ne_lit e),h3 y hy z]
theorem wp_mapdel (mm x:Operand) (ty:TypeId) (ho:o.op=.call { callee:=.builtin .delete,args:=#[mm,x],argTypes:=#[ty,k] }) (hk:P.underlying k=some (.int .i64)) (ht:P.underlying ty=some (.map k e)) (h:MapF P k w b n m) (hm:a.eval mm=.map (some b)) {i:Int} (hx:a.eval x=.int .i64 i) (hw:(Lit.int .i64 i).wf=true)
  (hK:∀ w',MapF P k w' b n (setK m i none)→Upd [b] w w'→K (a.put o.dst (.tuple #[])) w'):o.wp P a w K Q:=by
 obtain ⟨D,h1,h2,h3⟩:=h
 obtain ⟨w',hrun,r1,r2⟩:=h1.drop (Go.Maps.int_keyed hk) ht (Go.Maps.keyOf_int_mk hk hw) o.type
 unfold Oper.wp
 simp [execOp,ho,resolve,invoke,builtin,hm,hx,hrun,Result.andThen]
 refine hK w' ⟨D.del (.int .i64 i),r1,h2.del _,fun y hy z=>?_⟩ (grown_upd r2.grown)
 unfold setK
 by_cases e:y=i
 ·subst e; rw [if_pos rfl,Go.Maps.atKey_del_same]
 ·rw [if_neg e,Go.Maps.atKey_del_other (ne_lit e),h3 y hy z]
theorem wp_mapnew (ty:TypeId) (ho:o.op=.makeMap ty none) (hK:∀ b w',w.heap.size≤b→MapF P k w' b 0 (fun _=>none)→Since w w'→K (a.put o.dst (.map (some b))) w'):o.wp P a w K Q:=by
 unfold Oper.wp
 simp [execOp,ho,run_makeMap,Result.andThen]
 refine hK _ _ (Nat.le_refl _) ⟨.map [],World.ownsMap_made _ _ _ _,Go.Maps.isMap_empty,fun x _ z=>?_⟩ ((Since.refl w).alloc _)
 simp [DataW.atKey]
end
end Mp
namespace En
open Go.RowKit Ba Mem Mp
open Go.Maps (Keyed IsMap)
def mpO (P:Program) (k:TypeId) (b n:Nat) (m:Int→Option Value) (rw:Bool):Asr :=
 ⟨[b],rw,fun w=>MapF P k w b n m,fun u hd h=>h.upd u (hd b (List.mem_singleton.2 rfl)),fun h g hg=>by rw [List.mem_singleton] at hg; subst hg; exact h.lt⟩
section
variable {X:Cx} {s:St} {o:Oper} {K:St→Prop} {A:Asr} {ty k e:TypeId} {mm x y:Operand} {b n:Nat} {m:Int→Option Value} {I:Int}
theorem map_has {P:Program} {w:World} {D:DataW Value} {n:Nat} {m:Int→Option Value} (hw:(Lit.int .i64 I).wf=true) (h3:∀ x,(Lit.int .i64 x).wf=true→∀ z,D.atKey (.int .i64 x) z=match m x with | some v=>.held v | none=>z):Maps.has D (.int .i64 I)=(m I).isSome:=by
 have h:=h3 I hw
 cases hm:m I with
 | none=>rw [hm] at h; exact Maps.has_false_of_atKey h
 | some v=>rw [hm] at h; exact Maps.has_true_of_atKey h
theorem oplk (i:Nat) (z:Value) (v:SV) (ho:o.op=.lookup ty mm x false) (hm:evO mm s.fr=some (.v (.map (some b)))) (hx:evO x s.fr=some (.i .i64 I)) (hA:s.ob[i]?=some A) (hM:∀ w,A.st w→MapF X.P k w b n m)
  (hk:X.P.underlying k=some (.int .i64)) (ht:X.P.underlying ty=some (.map k e)) (hz:∀ w,(zeroValue e).run X.P w=.ok z w) (hw:(Lit.int .i64 I).wf=true) (hv:(m I).getD z=den s.m v) (h:put X.n o.dst v s K) (hok:okV s.m.length v=true:=by rfl):OpVC X o s K :=
 opq v (fun a w hf hH=>exec_look mm x ty ho hk ht (hz w) (hM w (hH.obj A (List.mem_of_getElem? hA))) (by rw [(evO_of hf hm).2]; rfl) (by rw [(evO_of hf hx).2]; rfl) hw hv) h hok
theorem oplo (i:Nat) (z:Value) (v:SV) (t:Bool) (ho:o.op=.lookup ty mm x true) (hm:evO mm s.fr=some (.v (.map (some b)))) (hx:evO x s.fr=some (.i .i64 I)) (hA:s.ob[i]?=some A) (hM:∀ w,A.st w→MapF X.P k w b n m)
  (hk:X.P.underlying k=some (.int .i64)) (ht:X.P.underlying ty=some (.map k e)) (hz:∀ w,(zeroValue e).run X.P w=.ok z w) (hw:(Lit.int .i64 I).wf=true) (hv:(m I).getD z=den s.m v) (hs:(m I).isSome=t) (h:put X.n o.dst (.t [v,.b t]) s K) (hok:okV s.m.length v=true:=by rfl):OpVC X o s K :=
 opq (.t [v,.b t]) (fun a w hf hH=>by
  obtain ⟨D,h1,_,h3⟩:=hM w (hH.obj A (List.mem_of_getElem? hA))
  obtain ⟨v',ps,hrun,hat⟩:=h1.look_ok (Go.Maps.int_keyed hk) ht (hz w) (zd:=.held z) (zp:=[]) rfl (Go.Maps.keyOf_int_mk hk hw)
  have e:v'=den s.m v:=by
   rw [h3 I hw] at hat
   have hat2:=(Prod.mk.injEq _ _ _ _).mp (Option.some.inj hat) |>.1
   rw [← hv]
   cases hmi:m I with
   | none=>rw [hmi] at hat2; injection hat2 with hat2
   | some u=>rw [hmi] at hat2; injection hat2 with hat2
  have hh:=map_has (P:=X.P) (w:=w) (n:=n) hw h3
  have em:=(evO_of hf hm).2
  have ex:=(evO_of hf hx).2
  simp only [den] at em ex
  simp only [execOp,ho,em,ex,hrun,Sem.run_bind,Sem.run_pure,Result.andThen_ok]
  subst e
  rw [hh,hs]
  rfl) h (by unfold okV okL okL okL; simp [hok,okV])
theorem opdl (i:Nat) (B:Asr) (ho:o.op=.call { callee:=.builtin .delete,args:=#[mm,x],argTypes:=#[ty,k] }) (hm:evO mm s.fr=some (.v (.map (some b)))) (hx:evO x s.fr=some (.i .i64 I)) (hA:s.ob[i]?=some A) (hrw:A.rw=true) (hM:∀ w,A.st w→MapF X.P k w b n m) (hbF:b∈A.F)
  (hB:∀ w w',A.st w→MapF X.P k w' b n (Mp.setK m I none)→Upd [b] w w'→B.st w') (hF:∀ g∈B.F,g∈A.F)
  (hk:X.P.underlying k=some (.int .i64)) (ht:X.P.underlying ty=some (.map k e)) (hw:(Lit.int .i64 I).wf=true) (h:setO i B s.ob fun ob=>put X.n o.dst (.t []) ⟨s.fr,s.m,ob⟩ K):OpVC X o s K:=⟨fun a w Q hR=>by
 have hst:=hR.h.obj A (List.mem_of_getElem? hA)
 refine wp_mapdel mm x ty ho hk ht (hM w hst) (by rw [(evO_of hR.fr hm).2]; rfl) (by rw [(evO_of hR.fr hx).2]; rfl) hw (fun w' hmap hupd=>?_)
 have hH:=hR.h.obj_set hA hrw (hB w w' hst hmap hupd) (hupd.mono (fun g hg _=>by rw [List.mem_singleton] at hg; subst hg; exact hbF)) (fun g hg=>.inl (hF g hg))
 obtain ⟨s',r1,r2,r3,r4⟩:=put_of (a:=a) (s:=⟨s.fr,s.m,s.ob.set i B⟩) (v:=.t []) hR.ds hR.sz hR.fr hH rfl (setO_of h)
 exact ⟨s',r1,by rw [r2]; exact Ext.refl _,r4⟩⟩
theorem opmk (k:TypeId) (ho:o.op=.makeMap ty none) (h:∀ b,appO s.ob (mpO X.P k b 0 (fun _=>none) true) fun ob=>put X.n o.dst (.v (.map (some b))) ⟨s.fr,s.m,ob⟩ K):OpVC X o s K:=⟨fun a w Q hR=>by
 refine wp_mapnew (k:=k) ty ho (fun b w' hb hmap hs=>?_)
 have hH:=hR.h.obj_new (B:=mpO X.P k b 0 (fun _=>none) true) hmap hs (fun g hg=>by rw [List.mem_singleton.1 hg]; exact hb)
 obtain ⟨s',r1,r2,r3,r4⟩:=put_of (a:=a) (s:=⟨s.fr,s.m,s.ob++[mpO X.P k b 0 (fun _=>none) true]⟩) (v:=.v (.map (some b))) hR.ds hR.sz hR.fr hH rfl (appO_of (h b))
 exact ⟨s',r1,by rw [r2]; exact Ext.refl _,r4⟩⟩
end
end En
namespace Co
open Go.RowKit Ba Mem En Go.Proofs.YtepfmfalebmcnaaGreatDoor.Ty Mo
open Gr (GrV GO CarsAt WaitsAt carL waitL WaitV pairO newG okT okW aimR giveR)
open Qu (QO askE intE askC btw putE putL dropL atS oM)
open Le (TO hasL ofL setL setE endL zeroL)
open Fl (leaE mayB mayT)
open Ri (MsgV msgC Said tickV hearV Ms aimF aimT)
open Et (carsO)
set_option maxRecDepth 100000
attribute [local irreducible] Go.Calls mayB hasL ofL putE atS oM
def ansM (K:KV) (a:AskV):MsgV :=
 if mayB K.G.c a=true then (if hasL K.L a.se=true then ⟨7,5,0,0⟩ else if putE (room K) K.Q a=7 then ⟨7,5,0,0⟩ else if putE (room K) K.Q a=5 then ⟨6,0,0,0⟩ else ⟨5,oM (atS (putL (room K) K.Q a) a.se),0,0⟩) else ⟨7,0,0,0⟩
def ansQ (K:KV) (a:AskV):List AskV:=if mayB K.G.c a=true then (if hasL K.L a.se=true then K.Q else putL (room K) K.Q a) else K.Q
def ansK (K:KV) (a:AskV):KV:={ K with Q:=ansQ K a }
section
variable {q lo:Nat} {p:Pt} {K:KV} {S:List Nat} {w:World}
theorem answerT (hk:Blk w q 111 (coreA K.G.c p)) (hb:BD lo p K S w) (h1:K.Q.length≤1000) (h2:K.L.length≤10000) (a:AskV) :
  Calls Tryz.prog 67 #[.pointer (some ⟨q,0,none⟩),.agg #[.int .i64 a.se,.int .i64 a.fl,.int .i64 a.fm,.int .i64 a.to,.int .i64 a.ma]] w fun e w'=>e=.returned (.agg (msgC (ansM K a)))∧∃ S',BD lo p (ansK K a) S' w'∧Upd S w w'∧∀ g∈S',g∈S∨w.heap.size≤g:=by
 unfold ansM ansK ansQ
 by_cases hm:mayB K.G.c a=true
 ·simp only [hm,if_true]
  by_cases hL:hasL K.L a.se=true
  ·simp only [hL,if_true]
   refine entH tab_ok (hold_k hk hb) [.p 0 0,.a [.i .i64 a.se,.i .i64 a.fl,.i .i64 a.fm,.i .i64 a.to,.i .i64 a.ma]] Tryz.func67 Tryz.ntmps67 rfl rfl ?_
   repeat' (first | refine gs_ ?_|((conv=>whnf); first | intro b | refine And.intro ?_ ?_|refine br_t (by assumption) ?_|refine br_not (br_t (by assumption) ?_)|refine callS (f:=85) (.b (mayB K.G.c a)) (mayT K.G.c a) ?_|refine callH (f:=86) (.t [.a [.i .i64 (ofL K.L a.se).se,.i .i64 (ofL K.L a.se).fl,.i .i64 (ofL K.L a.se).fm,.i .i64 (ofL K.L a.se).to,.i .i64 (ofL K.L a.se).ma,.i .i64 (ofL K.L a.se).ca,.i .i64 (ofL K.L a.se).ph,.i .i64 (ofL K.L a.se).un,.i .i64 (ofL K.L a.se).re,.i .i64 (ofL K.L a.se).gr],.b (hasL K.L a.se)]) (fun w hH=>(hH.obj (bdO lo p K S true) (List.mem_singleton.2 rfl)).of h2 a.se) ?_|refine fin_k (by rfl) (by intro m; rfl)|refine fin_s ?_))
  ·have hL:hasL K.L a.se=false:=by simpa using hL
   simp only [hL,Bool.false_eq_true,if_false]
   by_cases h7:putE (room K) K.Q a=7
   ·simp only [h7,if_true]
    refine entH tab_ok (hold_k hk hb) [.p 0 0,.a [.i .i64 a.se,.i .i64 a.fl,.i .i64 a.fm,.i .i64 a.to,.i .i64 a.ma]] Tryz.func67 Tryz.ntmps67 rfl rfl ?_
    repeat' (first | refine gs_ ?_|((conv=>whnf); first | intro b | refine And.intro ?_ ?_|refine br_not (br_t (by assumption) ?_)|refine br_f (by assumption) ?_|refine callS (f:=85) (.b (mayB K.G.c a)) (mayT K.G.c a) ?_|refine callH (f:=86) (.t [.a [.i .i64 (ofL K.L a.se).se,.i .i64 (ofL K.L a.se).fl,.i .i64 (ofL K.L a.se).fm,.i .i64 (ofL K.L a.se).to,.i .i64 (ofL K.L a.se).ma,.i .i64 (ofL K.L a.se).ca,.i .i64 (ofL K.L a.se).ph,.i .i64 (ofL K.L a.se).un,.i .i64 (ofL K.L a.se).re,.i .i64 (ofL K.L a.se).gr],.b (hasL K.L a.se)]) (fun w hH=>(hH.obj (bdO lo p K S true) (List.mem_singleton.2 rfl)).of h2 a.se) ?_|refine callO (f:=87) (A:=bdO lo p K S true) 0 (fun _=>.i .i64 7) (fun S'=>bdO lo p { K with Q:=putL (room K) K.Q a } S' true) (fun w hH hA=>by have:=BD.que hA (fun S1 hq=>Qu.putQ hq (by omega) a); rw [h7] at this; exact this) (fun S'=>?_)|refine fin_k (by rfl) (by intro m; rfl)|refine fin_s ?_))
   ·simp only [h7,if_false]
    by_cases h5:putE (room K) K.Q a=5
    ·simp only [h5,if_true]
     refine entH tab_ok (hold_k hk hb) [.p 0 0,.a [.i .i64 a.se,.i .i64 a.fl,.i .i64 a.fm,.i .i64 a.to,.i .i64 a.ma]] Tryz.func67 Tryz.ntmps67 rfl rfl ?_
     repeat' (first | refine gs_ ?_|((conv=>whnf); first | intro b | refine And.intro ?_ ?_|refine br_not (br_t (by assumption) ?_)|refine br_f (by assumption) ?_|refine callS (f:=85) (.b (mayB K.G.c a)) (mayT K.G.c a) ?_|refine callH (f:=86) (.t [.a [.i .i64 (ofL K.L a.se).se,.i .i64 (ofL K.L a.se).fl,.i .i64 (ofL K.L a.se).fm,.i .i64 (ofL K.L a.se).to,.i .i64 (ofL K.L a.se).ma,.i .i64 (ofL K.L a.se).ca,.i .i64 (ofL K.L a.se).ph,.i .i64 (ofL K.L a.se).un,.i .i64 (ofL K.L a.se).re,.i .i64 (ofL K.L a.se).gr],.b (hasL K.L a.se)]) (fun w hH=>(hH.obj (bdO lo p K S true) (List.mem_singleton.2 rfl)).of h2 a.se) ?_|refine callO (f:=87) (A:=bdO lo p K S true) 0 (fun _=>.i .i64 5) (fun S'=>bdO lo p { K with Q:=putL (room K) K.Q a } S' true) (fun w hH hA=>by have:=BD.que hA (fun S1 hq=>Qu.putQ hq (by omega) a); rw [h5] at this; exact this) (fun S'=>?_)|refine fin_k (by rfl) (by intro m; rfl)|refine fin_s ?_))
    ·simp only [h5,if_false]
     have hlq:(putL (room K) K.Q a).length≤10000:=by
      unfold putL; split
      ·rw [List.length_append]; simp; omega
      ·omega
     have hq:=beq_eq_false_iff_ne.2 h7
     have hq5:=beq_eq_false_iff_ne.2 h5
     refine entH tab_ok (hold_k hk hb) [.p 0 0,.a [.i .i64 a.se,.i .i64 a.fl,.i .i64 a.fm,.i .i64 a.to,.i .i64 a.ma]] Tryz.func67 Tryz.ntmps67 rfl rfl ?_
     repeat' (first | refine gs_ ?_|((conv=>whnf); first | intro b | refine And.intro ?_ ?_|refine br_not (br_t (by assumption) ?_)|refine br_f (by assumption) ?_|refine callS (f:=85) (.b (mayB K.G.c a)) (mayT K.G.c a) ?_|refine callH (f:=86) (.t [.a [.i .i64 (ofL K.L a.se).se,.i .i64 (ofL K.L a.se).fl,.i .i64 (ofL K.L a.se).fm,.i .i64 (ofL K.L a.se).to,.i .i64 (ofL K.L a.se).ma,.i .i64 (ofL K.L a.se).ca,.i .i64 (ofL K.L a.se).ph,.i .i64 (ofL K.L a.se).un,.i .i64 (ofL K.L a.se).re,.i .i64 (ofL K.L a.se).gr],.b (hasL K.L a.se)]) (fun w hH=>(hH.obj (bdO lo p K S true) (List.mem_singleton.2 rfl)).of h2 a.se) ?_|refine callO (f:=87) (A:=bdO lo p K S true) 0 (fun _=>.i .i64 (putE (room K) K.Q a)) (fun S'=>bdO lo p { K with Q:=putL (room K) K.Q a } S' true) (fun w hH hA=>BD.que hA (fun S1 hq=>Qu.putQ hq (by omega) a)) (fun S'=>?_)|refine callH (f:=88) (.t [.i .i64 (oM (atS (putL (room K) K.Q a) a.se)),.b (atS (putL (room K) K.Q a) a.se).isSome]) (fun w hH=>(hH.obj (bdO lo p { K with Q:=putL (room K) K.Q a } S' true) (List.mem_singleton.2 rfl)).ahead hlq a.se) ?_|refine fin_k (by rfl) (by intro m; rfl)|refine fin_s ?_))
 ·have hm:mayB K.G.c a=false:=by simpa using hm
  simp only [hm,Bool.false_eq_true,if_false]
  refine entH tab_ok (hold_k hk hb) [.p 0 0,.a [.i .i64 a.se,.i .i64 a.fl,.i .i64 a.fm,.i .i64 a.to,.i .i64 a.ma]] Tryz.func67 Tryz.ntmps67 rfl rfl ?_
  repeat' (first | refine gs_ ?_|((conv=>whnf); first | intro b | refine And.intro ?_ ?_|refine br_not (br_f (by assumption) ?_)|refine br_f (by assumption) ?_|refine callS (f:=85) (.b (mayB K.G.c a)) (mayT K.G.c a) ?_|refine fin_k (by rfl) (by intro m; rfl)|refine fin_s ?_))
attribute [local irreducible] ansM
theorem fin_ke {lo n n1 k lo3 c3:Nat} {A3:Option Addr} {p:Pt} {K:KV} {S S1:List Nat} {w:World} {es:List EvV} {fr:List (Nat×SV)} {m:List Row} {ob:List Asr} {st:St} (hst:st=⟨fr,m,ob⟩) (h0:ob[0]?=some (bdO lo p K S1 true)) (hk:ob[k+1]?=some (rwO evE lo3 A3 n1 c3 es true)) (hlo:w.heap.size≤lo3) :
  Fin ⟨Tryz.prog,tab,S,w,n,[]⟩ (fun e w'=>∃ (S':List Nat) (x:Nr),e=.returned (.slice x.2.1 n1 x.2.2)∧BD lo p K S' w'∧(rwO evE x.1 x.2.1 n1 x.2.2 es true).st w'∧Upd S w w'∧(∀ g∈S',g∈S∨w.heap.size≤g)∧∀ g∈blkOf x.2.1,w.heap.size≤g∧g∉S') (.v (.slice A3 n1 c3)) st:=by
 subst hst
 have m0:=List.mem_of_getElem? h0
 have m1:=List.mem_of_getElem? hk
 refine fin fun w' hH=>⟨S1,(lo3,A3,c3),rfl,hH.obj _ m0,hH.obj _ m1,hH.upd,hH.own _ m0 rfl,fun g hg=>⟨Nat.le_trans hlo (own_low (hH.obj _ m1) g hg),fun hg2=>?_⟩⟩
 exact pair_at (R:=DisR) (fun _ _ h=>h.symm) hH.dis h0 hk (by omega) (.inl rfl) g hg2 hg
theorem askT (hk:Blk w q 111 (coreA K.G.c p)) (hb:BD lo p K S w) (h1:K.Q.length≤1000) (h2:K.L.length≤10000) (a:AskV) :
  Calls Tryz.prog 44 #[.pointer (some ⟨q,0,none⟩),.agg #[.int .i64 a.se,.int .i64 a.fl,.int .i64 a.fm,.int .i64 a.to,.int .i64 a.ma]] w fun e w'=>∃ (S':List Nat) (x:Nr),e=.returned (.slice x.2.1 1 x.2.2)∧BD lo p (ansK K a) S' w'∧(rwO evE x.1 x.2.1 1 x.2.2 (evs a.se [ansM K a]) true).st w'∧Upd S w w'∧(∀ g∈S',g∈S∨w.heap.size≤g)∧∀ g∈blkOf x.2.1,w.heap.size≤g∧g∉S':=by
 refine entH tab_ok (hold_k hk hb) [.p 0 0,.a [.i .i64 a.se,.i .i64 a.fl,.i .i64 a.fm,.i .i64 a.to,.i .i64 a.ma]] Tryz.func44 Tryz.ntmps44 rfl rfl ?_
 repeat' (first | refine gs_ ?_|((conv=>whnf); first | intro b | refine callO (f:=67) (A:=bdO lo p K S true) 0 (fun _=>.a [.i .i64 (ansM K a).ki,.i .i64 (ansM K a).a,.i .i64 (ansM K a).b,.i .i64 (ansM K a).c]) (fun S'=>bdO lo p (ansK K a) S' true) (fun w hH hA=>(answerT (hH.row 0 _ rfl rfl) hA h1 h2 a).mono (by rintro e w' ⟨rfl,S',h⟩; exact ⟨S',rfl,h⟩)) (fun S'=>?_)|refine opb1 (e:=26) ⟨tab_ok⟩ [.i .i64 (ansM K a).ki,.i .i64 (ansM K a).a,.i .i64 (ansM K a).b,.i .i64 (ansM K a).c] (by rfl) (by rfl) ?_|refine callN (f:=66) (ι:=NrA w.heap.size) (fun x=>.v (.slice x.1.2.1 1 x.1.2.2)) (fun x=>rwO evE x.1.1 x.1.2.1 1 x.1.2.2 (evs a.se [ansM K a]) true) (fun w1 hH=>toN (eventsT (lo:=0) (ms:=[ansM K a]) a.se w1 (Ek.of_blk (hH.row 2 _ rfl rfl) (Nat.zero_le _) (by decide)) rfl (by decide)) hH.upd.size) (fun x=>?_)|refine fin_ke (k:=0) (by rfl) (by rfl) (by rfl) x.2 | refine fin_s ?_))
end
end Co
namespace Co
open Go.RowKit Ba Mem En Go.Proofs.YtepfmfalebmcnaaGreatDoor.Ty Mo
open Gr (GrV GO CarsAt WaitsAt carL waitL WaitV pairO newG okT okW aimR giveR aimG giveG one)
open Qu (QO askE intE askC btw putE putL dropL atS oM)
open Le (TO hasL ofL setL setE endL zeroL)
open Fl (leaE mayB mayT)
open Ri (MsgV msgC Said tickV hearV Ms aimF aimT)
open Et (carsO car_at)
set_option maxRecDepth 100000
attribute [local irreducible] Go.Calls mayB hasL ofL putE atS oM
theorem one_c (G:GrV) (i:Int) (f:CarV→CarV×Int):(one G i f).1.c=G.c:=by unfold one; split <;> rfl
theorem give_c (G:GrV) (i:Int):(giveR G i).1.c=G.c:=one_c _ _ _
theorem aim_c (G:GrV) (i f:Int) (y:Bool):(aimR G i f y).1.c=G.c:=by unfold aimR; split; exact one_c _ _ _; rfl
attribute [local irreducible] giveR aimR endL setL setE aimF
def endK (K:KV) (s:Int):KV:=if hasL K.L s=true then ⟨(giveR K.G (ofL K.L s).ca).1,K.Q,endL K.L s⟩ else K
def setK (K:KV) (l:LeaseV) (o:Bool):KV:=if o=true then endK K l.se else ⟨(aimR K.G l.ca (aimF l) true).1,K.Q,setL K.G.c K.L l⟩
def goneK (K:KV) (s:Int):KV:={ endK K s with Q:=dropL K.Q s }
theorem end_no {ls:List LeaseV} {s:Int} (h:hasL ls s=false):endL ls s=ls:=by
 unfold hasL at h; unfold endL
 split
 ·rename_i k hk; rw [hk] at h; cases h
 ·rfl
theorem endK_Q (K:KV) (s:Int):(endK K s).Q=K.Q:=by unfold endK; split <;> rfl
theorem endK_c (K:KV) (s:Int):(endK K s).G.c=K.G.c:=by unfold endK; split; exact give_c _ _; rfl
theorem setK_c (K:KV) (l:LeaseV) (o:Bool):(setK K l o).G.c=K.G.c:=by unfold setK; split; exact endK_c _ _; exact aim_c _ _ _ _
section
variable {q lo:Nat} {p:Pt} {K:KV} {S:List Nat} {w:World}
theorem endT (hk:Blk w q 111 (coreA K.G.c p)) (hb:BD lo p K S w) (h2:K.L.length≤10000) (s:Int) :
  Calls Tryz.prog 176 #[.pointer (some ⟨q,0,none⟩),.int .i64 s] w fun e w'=>e=.returned (.tuple #[])∧∃ S',BD lo p (endK K s) S' w'∧Upd S w w'∧∀ g∈S',g∈S∨w.heap.size≤g:=by
 unfold endK
 cases hL:hasL K.L s with
 | false =>
  rw [if_neg (by decide)]
  refine entH tab_ok (hold_k hk hb) [.p 0 0,.i .i64 s] Tryz.func176 Tryz.ntmps176 rfl rfl ?_
  repeat' (first | refine gs_ ?_|((conv=>whnf); first | intro b | refine callO (f:=223) (A:=bdO lo p K S true) 0 (fun _=>.t [.a [.i .i64 (ofL K.L s).se,.i .i64 (ofL K.L s).fl,.i .i64 (ofL K.L s).fm,.i .i64 (ofL K.L s).to,.i .i64 (ofL K.L s).ma,.i .i64 (ofL K.L s).ca,.i .i64 (ofL K.L s).ph,.i .i64 (ofL K.L s).un,.i .i64 (ofL K.L s).re,.i .i64 (ofL K.L s).gr],.b false]) (fun S'=>bdO lo p K S' true) (fun w hH hA=>by have:=BD.tab hA (fun S1 hq=>Le.endT hq h2 s); rw [hL,end_no hL] at this; exact this) (fun S'=>?_)|refine fin_k (by rfl) (by intro m; rfl)|refine fin_s ?_))
 | true =>
  rw [if_pos rfl]
  refine entH tab_ok (hold_k hk hb) [.p 0 0,.i .i64 s] Tryz.func176 Tryz.ntmps176 rfl rfl ?_
  repeat' (first | refine gs_ ?_|((conv=>whnf); first | intro b | refine callO (f:=223) (A:=bdO lo p K S true) 0 (fun _=>.t [.a [.i .i64 (ofL K.L s).se,.i .i64 (ofL K.L s).fl,.i .i64 (ofL K.L s).fm,.i .i64 (ofL K.L s).to,.i .i64 (ofL K.L s).ma,.i .i64 (ofL K.L s).ca,.i .i64 (ofL K.L s).ph,.i .i64 (ofL K.L s).un,.i .i64 (ofL K.L s).re,.i .i64 (ofL K.L s).gr],.b true]) (fun S'=>bdO lo p { K with L:=endL K.L s } S' true) (fun w hH hA=>by have:=BD.tab hA (fun S1 hq=>Le.endT hq h2 s); rw [hL] at this; exact this) (fun S'=>?_)|refine callO (f:=224) (A:=bdO lo p { K with L:=endL K.L s } S' true) 0 (fun _=>.i .i64 (giveR K.G (ofL K.L s).ca).2) (fun S'=>bdO lo p ⟨(giveR K.G (ofL K.L s).ca).1,K.Q,endL K.L s⟩ S' true) (fun w hH hA=>BD.grp hA (give_c _ _) (fun S1 hq=>giveG hq (ofL K.L s).ca)) (fun S''=>?_)|refine fin_k (by rfl) (by intro m; rfl)|refine fin_s ?_))
attribute [local irreducible] endK
theorem settleT (hk:Blk w q 111 (coreA K.G.c p)) (hb:BD lo p K S w) (h2:K.L.length≤10000) (l:LeaseV) (o:Bool) :
  Calls Tryz.prog 122 #[.pointer (some ⟨q,0,none⟩),.agg #[.int .i64 l.se,.int .i64 l.fl,.int .i64 l.fm,.int .i64 l.to,.int .i64 l.ma,.int .i64 l.ca,.int .i64 l.ph,.int .i64 l.un,.int .i64 l.re,.int .i64 l.gr],.bool o] w fun e w'=>e=.returned (.tuple #[])∧∃ S',BD lo p (setK K l o) S' w'∧Upd S w w'∧∀ g∈S',g∈S∨w.heap.size≤g:=by
 unfold setK
 cases o with
 | true =>
  rw [if_pos rfl]
  refine entH tab_ok (hold_k hk hb) [.p 0 0,.a [.i .i64 l.se,.i .i64 l.fl,.i .i64 l.fm,.i .i64 l.to,.i .i64 l.ma,.i .i64 l.ca,.i .i64 l.ph,.i .i64 l.un,.i .i64 l.re,.i .i64 l.gr],.b true] Tryz.func122 Tryz.ntmps122 rfl rfl ?_
  repeat' (first | refine gs_ ?_|((conv=>whnf); first | intro b | refine callO (f:=176) (A:=bdO lo p K S true) 0 (fun _=>.t []) (fun S'=>bdO lo p (endK K l.se) S' true) (fun w hH hA=>(endT (hH.row 0 _ rfl rfl) hA h2 l.se).mono (by rintro e w' ⟨rfl,S',h⟩; exact ⟨S',rfl,h⟩)) (fun S'=>?_)|refine fin_k (by rfl) (by intro m; rfl)|refine fin_s ?_))
 | false =>
  rw [if_neg (by decide)]
  refine entH tab_ok (hold_k hk hb) [.p 0 0,.a [.i .i64 l.se,.i .i64 l.fl,.i .i64 l.fm,.i .i64 l.to,.i .i64 l.ma,.i .i64 l.ca,.i .i64 l.ph,.i .i64 l.un,.i .i64 l.re,.i .i64 l.gr],.b false] Tryz.func122 Tryz.ntmps122 rfl rfl ?_
  repeat' (first | refine gs_ ?_|((conv=>whnf); first | intro b | refine callO (f:=177) (A:=bdO lo p K S true) 0 (fun _=>.i .i64 (setE K.G.c K.L l)) (fun S'=>bdO lo p { K with L:=setL K.G.c K.L l } S' true) (fun w hH hA=>BD.tab hA (fun S1 hq=>Le.setT hq h2 l)) (fun S'=>?_)|refine callS (f:=178) (.t [.i .i64 (aimF l),.b true]) (aimT l) ?_|refine callO (f:=179) (A:=bdO lo p { K with L:=setL K.G.c K.L l } S' true) 0 (fun _=>.i .i64 (aimR K.G l.ca (aimF l) true).2) (fun S'=>bdO lo p ⟨(aimR K.G l.ca (aimF l) true).1,K.Q,setL K.G.c K.L l⟩ S' true) (fun w hH hA=>BD.grp hA (aim_c _ _ _ _) (fun S1 hq=>aimG hq l.ca (aimF l) true)) (fun S''=>?_)|refine fin_k (by rfl) (by intro m; rfl)|refine fin_s ?_))
theorem goneT (hk:Blk w q 111 (coreA K.G.c p)) (hb:BD lo p K S w) (h1:K.Q.length≤1000) (h2:K.L.length≤10000) (s:Int) :
  Calls Tryz.prog 128 #[.pointer (some ⟨q,0,none⟩),.int .i64 s] w fun e w'=>e=.returned (.tuple #[])∧∃ S',BD lo p (goneK K s) S' w'∧Upd S w w'∧∀ g∈S',g∈S∨w.heap.size≤g:=by
 have hq1:(endK K s).Q.length≤10000:=by rw [endK_Q]; omega
 refine entH tab_ok (hold_k hk hb) [.p 0 0,.i .i64 s] Tryz.func128 Tryz.ntmps128 rfl rfl ?_
 repeat' (first | refine gs_ ?_|((conv=>whnf); first | intro b | refine callO (f:=176) (A:=bdO lo p K S true) 0 (fun _=>.t []) (fun S'=>bdO lo p (endK K s) S' true) (fun w hH hA=>(endT (hH.row 0 _ rfl rfl) hA h2 s).mono (by rintro e w' ⟨rfl,S',h⟩; exact ⟨S',rfl,h⟩)) (fun S'=>?_)|refine callO (f:=185) (A:=bdO lo p (endK K s) S' true) 0 (fun _=>.b (atS (endK K s).Q s).isSome) (fun S'=>bdO lo p { endK K s with Q:=dropL (endK K s).Q s } S' true) (fun w hH hA=>BD.que hA (fun S1 hq=>Qu.dropQ hq hq1 s)) (fun S''=>?_)|refine fin_s ?_))
 conv=>whnf
 refine fin_k (by unfold goneK; rw [endK_Q]) (by intro m; rfl)
theorem saidN {F:FuncId} {args:Array Value} {w1:World} {n0:Nat} {r:LeaseV×Option MsgV×Bool} (h:Calls Tryz.prog F args w1 (Said w1 r)) (h0:n0≤w1.heap.size) :
  Calls Tryz.prog F args w1 fun e w'=>∃ x:NrA n0,e=.returned (.tuple #[.agg #[.int .i64 r.1.se,.int .i64 r.1.fl,.int .i64 r.1.fm,.int .i64 r.1.to,.int .i64 r.1.ma,.int .i64 r.1.ca,.int .i64 r.1.ph,.int .i64 r.1.un,.int .i64 r.1.re,.int .i64 r.1.gr],.slice x.1.2.1 r.2.1.toList.length x.1.2.2,.bool r.2.2])∧(rwO msgE x.1.1 x.1.2.1 r.2.1.toList.length x.1.2.2 r.2.1.toList true).st w'∧Since w1 w'∧∀ g∈(rwO msgE x.1.1 x.1.2.1 r.2.1.toList.length x.1.2.2 r.2.1.toList true).F,w1.heap.size≤g:=by
 refine h.mono ?_
 rintro e w' ⟨v,rfl,hm,hs⟩
 obtain ⟨l,o,b⟩:=r
 cases o with
 | none =>
  have hm:v=.slice none 0 0:=hm
  subst hm
  exact ⟨⟨(w1.heap.size,none,0),h0⟩,rfl,Ek.nil _ _ _,hs,by intro g hg; cases hg⟩
 | some m =>
  obtain ⟨b1,rfl,hb1,B⟩:=hm
  have hO:msgE.At w1.heap.size (some ⟨b1,0,none⟩) 1 1 [m] w':=Ek.of_blk B hb1 (by decide)
  exact ⟨⟨(w1.heap.size,some ⟨b1,0,none⟩,1),h0⟩,rfl,hO,hs,own_low hO⟩
def carAt (K:KV) (l:LeaseV):CarV:=K.G.cars.getD l.ca.toNat Gr.zeroX
def inC (K:KV) (l:LeaseV):Prop:=0≤l.ca∧l.ca < (K.G.cars.length:Int)
theorem inC.at_ {K:KV} {l:LeaseV} (h:inC K l):K.G.cars[l.ca.toNat]?=some (carAt K l):=by
 have:l.ca.toNat < K.G.cars.length:=by unfold inC at h; omega
 simp [carAt,List.getD,this]
def hearR (K:KV) (l:LeaseV) (m:MsgV):LeaseV×Option MsgV×Bool:=hearV K.G.c l (carAt K l) K.G.now m
def hearK (K:KV) (s:Int) (m:MsgV):KV:=if hasL K.L s=true then setK K (hearR K (ofL K.L s) m).1 (hearR K (ofL K.L s) m).2.2 else K
def hearM (K:KV) (s:Int) (m:MsgV):List MsgV:=if hasL K.L s=true then (hearR K (ofL K.L s) m).2.1.toList else [⟨7,0,0,0⟩]
attribute [local irreducible] setK hearR
set_option maxHeartbeats 2000000 in
theorem hearT (hk:Blk w q 111 (coreA K.G.c p)) (hb:BD lo p K S w) (h0:K.G.cars.length≤10000) (h2:K.L.length≤10000) (s:Int) (m:MsgV) (hin:hasL K.L s=true→inC K (ofL K.L s)) :
  Calls Tryz.prog 201 #[.pointer (some ⟨q,0,none⟩),.int .i64 s,.agg (msgC m)] w fun e w'=>∃ (S':List Nat) (x:Nr),e=.returned (.slice x.2.1 (hearM K s m).length x.2.2)∧BD lo p (hearK K s m) S' w'∧(rwO evE x.1 x.2.1 (hearM K s m).length x.2.2 (evs s (hearM K s m)) true).st w'∧Upd S w w'∧(∀ g∈S',g∈S∨w.heap.size≤g)∧∀ g∈blkOf x.2.1,w.heap.size≤g∧g∉S':=by
 unfold hearK hearM
 cases hL:hasL K.L s with
 | false =>
  rw [if_neg (by decide),if_neg (by decide)]
  refine entH tab_ok (hold_k hk hb) [.p 0 0,.i .i64 s,.a [.i .i64 m.ki,.i .i64 m.a,.i .i64 m.b,.i .i64 m.c]] Tryz.func201 Tryz.ntmps201 rfl rfl ?_
  repeat' (first | refine gs_ ?_|((conv=>whnf); first | intro b | refine callH (f:=86) (.t [.a [.i .i64 (ofL K.L s).se,.i .i64 (ofL K.L s).fl,.i .i64 (ofL K.L s).fm,.i .i64 (ofL K.L s).to,.i .i64 (ofL K.L s).ma,.i .i64 (ofL K.L s).ca,.i .i64 (ofL K.L s).ph,.i .i64 (ofL K.L s).un,.i .i64 (ofL K.L s).re,.i .i64 (ofL K.L s).gr],.b false]) (fun w hH=>by have:=(hH.obj (bdO lo p K S true) (List.mem_singleton.2 rfl)).of h2 s; rw [hL] at this; exact this) ?_|refine opb1 (e:=26) ⟨tab_ok⟩ [.i .i64 7,.i .i64 0,.i .i64 0,.i .i64 0] (by rfl) (by rfl) ?_|refine callN (f:=66) (ι:=NrA w.heap.size) (fun x=>.v (.slice x.1.2.1 1 x.1.2.2)) (fun x=>rwO evE x.1.1 x.1.2.1 1 x.1.2.2 (evs s [⟨7,0,0,0⟩]) true) (fun w1 hH=>toN (eventsT (lo:=0) (ms:=[⟨7,0,0,0⟩]) s w1 (Ek.of_blk (hH.row 3 _ rfl rfl) (Nat.zero_le _) (by decide)) rfl (by decide)) hH.upd.size) (fun x=>?_)|refine fin_ke (k:=0) (by rfl) (by rfl) (by rfl) x.2 | refine fin_s ?_))
 | true =>
  rw [if_pos rfl,if_pos rfl]
  have hi:=hin hL
  obtain ⟨k,hka⟩:∃ k:Nat,(ofL K.L s).ca=(k:Int):=⟨_,(Int.toNat_of_nonneg hi.1).symm⟩
  have hx:=hi.at_
  rw [hka] at hx
  have hx:K.G.cars[k]?=some (carAt K (ofL K.L s)):=by simpa using hx
  obtain ⟨hkl,_⟩:=List.getElem?_eq_some_iff.1 hx
  generalize hl:ofL K.L s=l at *
  generalize hxx:carAt K l=x at *
  have hr:hearR K l m=hearV K.G.c l x K.G.now m:=by unfold hearR; rw [hxx]
  refine entH tab_ok (hold_k hk hb) [.p 0 0,.i .i64 s,.a [.i .i64 m.ki,.i .i64 m.a,.i .i64 m.b,.i .i64 m.c]] Tryz.func201 Tryz.ntmps201 rfl rfl ?_
  repeat' (first | refine gq_ ?_|((conv=>whnf); first | intro b | refine drA ⟨tab_ok⟩ [13] ?_|refine And.intro ?_ ?_|refine callH (f:=86) (.t [.a [.i .i64 l.se,.i .i64 l.fl,.i .i64 l.fm,.i .i64 l.to,.i .i64 l.ma,.i .i64 l.ca,.i .i64 l.ph,.i .i64 l.un,.i .i64 l.re,.i .i64 l.gr],.b true]) (fun w hH=>by have:=(Hold.ob hH (A:=bdO lo p K S true) 0 rfl).of h2 s; rw [hL,hl] at this; exact this) ?_|refine callN (f:=59) (ι:=NgA w.heap.size) (fun x=>.v (.slice (some ⟨x.1.2.1,0,none⟩) K.G.cars.length x.1.2.2)) (fun x=>carsO x.1.1 (some ⟨x.1.2.1,0,none⟩) K.G.cars.length x.1.2.2 K.G.cars true) (fun w1 hH=>toNCg (by omega) ((Hold.ob hH (A:=bdO lo p K S true) 0 rfl).cars h0) hH.upd.size) (fun cs=>?_)|refine ui_ ?_|refine opix (g:=cs.1.2.1) (off:=0+k*15) (sCar x) (fun w hH=>car_at (Hold.ob hH (A:=carsO cs.1.1 (some ⟨cs.1.2.1,0,none⟩) K.G.cars.length cs.1.2.2 K.G.cars true) 1 rfl) hx) ⟨tab_ok⟩ (by rfl) (by rfl) (by show Addr.add ⟨_,0,none⟩ (l.ca.toNat*15)=_; rw [hka,Int.toNat_natCast,Go.WideShapes.add_plain]) ?_|refine callH (f:=40) (.i .i64 K.G.now) (fun w hH=>(Hold.ob hH (A:=bdO lo p K S true) 0 rfl).now) ?_|refine callN (f:=243) (ι:=NrA w.heap.size) (fun x=>.t [.a [.i .i64 (hearR K l m).1.se,.i .i64 (hearR K l m).1.fl,.i .i64 (hearR K l m).1.fm,.i .i64 (hearR K l m).1.to,.i .i64 (hearR K l m).1.ma,.i .i64 (hearR K l m).1.ca,.i .i64 (hearR K l m).1.ph,.i .i64 (hearR K l m).1.un,.i .i64 (hearR K l m).1.re,.i .i64 (hearR K l m).1.gr],.v (.slice x.1.2.1 (hearR K l m).2.1.toList.length x.1.2.2),.b (hearR K l m).2.2]) (fun x=>rwO msgE x.1.1 x.1.2.1 (hearR K l m).2.1.toList.length x.1.2.2 (hearR K l m).2.1.toList true) (fun w1 hH=>saidN (by rw [hr]; exact Ri.hearT K.G.c l x K.G.now m w1) hH.upd.size) (fun ms=>?_)|refine callO (f:=122) (A:=bdO lo p K S true) 0 (fun _=>.t []) (fun S'=>bdO lo p (setK K (hearR K l m).1 (hearR K l m).2.2) S' true) (fun w hH hA=>(settleT (hH.row 0 _ rfl rfl) hA h2 _ _).mono (by rintro e w' ⟨rfl,S',h⟩; exact ⟨S',rfl,h⟩)) (fun S'=>?_)|refine callN (f:=66) (ι:=NrA w.heap.size) (fun x=>.v (.slice x.1.2.1 (hearR K l m).2.1.toList.length x.1.2.2)) (fun x=>rwO evE x.1.1 x.1.2.1 (hearR K l m).2.1.toList.length x.1.2.2 (evs s (hearR K l m).2.1.toList) true) (fun w1 hH=>toN (eventsT s w1 (Hold.ob hH (A:=rwO msgE ms.1.1 ms.1.2.1 (hearR K l m).2.1.toList.length ms.1.2.2 (hearR K l m).2.1.toList true) 2 rfl) rfl (by have:(hearR K l m).2.1.toList.length≤1:=(by cases (hearR K l m).2.1 <;> simp); omega)) hH.upd.size) (fun es=>?_)|refine fin_ke (k:=2) (by rfl) (by rfl) (by rfl) es.2 | refine fin_s ?_))
end
end Co
end Go.Proofs.YtepfmfalebmcnaaGreatDoor
