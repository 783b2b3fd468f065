/-
  Wanted: part 16.
  No condition.
-/
import Derived.Test.YtepfmfalebmcnaaGreatDoorQH14
import Derived.Test.YtepfmfalebmcnaaGreatDoorQH15
import Derived.Test.YtepfmfalebmcnaaGreatDoorRows
import Derived.ProofKit
import Derived.LaidMore
import Derived.Stop.Joined
import Derived.Lib.LaidTab
import Derived.Stop.LaidErr
import Derived.Lib.ItoaNum
import Derived.Test.YtepfmfalebmcnaaGreatDoorQH11
import Derived.WalkKit
import Derived.WalkLawsBesides
import Derived.IntWalk
import Derived.OwnWalk
import Derived.Lib.Hide
import Derived.OpenShut
set_option linter.all false
namespace Go.Proofs.YtepfmfalebmcnaaGreatDoor
namespace Gw
open Go.RowKit Ba Mem En Go.Proofs.YtepfmfalebmcnaaGreatDoor.Ty
open Ri (MsgV)
open Mg (PktV)
open Fm (frames)
open Byt (isB)
open Co (KV KI KT EvV ansK hearK goneK tickK tickE inC newK setK stepK foldK tkK1 grantK)
open Gr (GrV doR aimR takeR)
open Lc (PI CI doK KopV)
set_option maxRecDepth 100000
structure Rk (R:KV→KV→Prop):Prop where
 refl:∀ K,R K K
 trans:∀ {K K' K''},R K K'→R K' K''→R K K''
 gone:∀ K s,R K (goneK K s)
 ans:∀ K a,R K (ansK K a)
 hear:∀ K s m,R K (hearK K s m)
section
variable {R:KV→KV→Prop}
theorem Rk.tell1 (h:Rk R) (x:Kv) (e:EvV):R x.1 (tell1 x e).1:=by
 unfold Gw.tell1
 cases x.2 e.s with
 | none=>exact h.refl _
 | some v =>
  simp only []
  split
  ·exact h.refl _
  ·exact h.gone _ _
theorem Rk.tell (h:Rk R):∀ (es:List EvV) (x:Kv),R x.1 (tellF x es).1
 | [],x=>h.refl _
 | e::r,x=>h.trans (h.tell1 x e) (Rk.tell h r (Gw.tell1 x e))
theorem Rk.born (h:Rk R) (c:CfgV) (x:Kv) (e i:Int) (m:MsgV):R x.1 (bornK c x e i m).1:=h.tell1 (x.1,setV x.2 i (some (newV c i e x.1.G.now m))) ⟨i,⟨2,e,0,0⟩⟩
theorem Rk.wel (h:Rk R) (c:CfgV) (x:Kv) (ep i:Int) (m:MsgV):R x.1 (welK c x ep i m).1.1:=by
 unfold welK
 cases x.2 i with
 | none=>exact h.born ..
 | some v =>
  simp only []
  split
  ·exact h.refl _
  ·exact h.trans (h.gone x.1 i) (h.born c (endV x i) _ _ _)
theorem Rk.said (h:Rk R) (K:KV) (n f:Int) (m:MsgV):R K (saidK K n f m):=by
 unfold saidK
 split
 ·exact h.ans ..
 ·split
  ·exact h.hear ..
  ·exact h.refl _
theorem Rk.come (h:Rk R) (c:CfgV) (x:Kv) (ep:Int) (p:PktV):R x.1 (comeK c x ep p).1.1:=by
 unfold comeK
 split
 ·exact h.wel ..
 ·cases x.2 p.se with
  | none=>exact h.refl _
  | some v =>
   simp only []
   split
   ·exact h.trans (h.said ..) (h.tell _ (saidK x.1 p.se v.h.b (msgP p),setV x.2 p.se (some (recvS v p x.1.G.now true))))
   ·exact h.refl _
theorem Rk.run (h:Rk R) (c:CfgV):∀ (ps:List (List Int)) (x:Kv×Int),R x.1.1 (runL c x ps).1.1
 | [],x=>h.refl _
 | p::r,x=>by
  show R x.1.1 (runL c (if (Mg.getV p).2=0 then comeK c x.1 x.2 (Mg.getV p).1 else x) r).1.1
  refine h.trans ?_ (Rk.run h c r _)
  split
  ·exact h.come ..
  ·exact h.refl _
theorem Rk.tickS (h:Rk R) (x:Ko) (i:Int):R x.1.1 (tickS x i).1.1:=by
 unfold Gw.tickS
 cases x.1.2 i with
 | none=>exact h.refl _
 | some v =>
  simp only []
  split
  ·exact h.gone ..
  ·exact h.refl _
theorem Rk.tickL (h:Rk R):∀ (ks:List Int) (x:Ko),R x.1.1 (tickL x ks).1.1
 | [],x=>h.refl _
 | k::r,x=>h.trans (h.tickS x k) (Rk.tickL h r (Gw.tickS x k))
theorem Rk.tick (h:Rk R) (x:Kv):R (tickK x.1) (tickG x).1.1:=by
 unfold tickG
 exact h.trans (h.tell (tickE x.1) (tickK x.1,x.2)) (h.tickL _ (tellF (tickK x.1,x.2) (tickE x.1),[]))
end
def SL (G G':GrV):Prop:=G'.cars.length=G.cars.length∧∀ (i:Nat) (x:CarV),G.cars[i]?=some x→∃ y,G'.cars[i]?=some y∧y.lo=x.lo
theorem SL.refl (G:GrV):SL G G:=⟨rfl,fun i x h=>⟨x,h,rfl⟩⟩
theorem SL.trans {G G' G'':GrV} (h:SL G G') (k:SL G' G''):SL G G'':=⟨k.1.trans h.1,fun i x hx=>by
 obtain ⟨y,h1,h2⟩:=h.2 i x hx
 obtain ⟨z,k1,k2⟩:=k.2 i y h1
 exact ⟨z,k1,k2.trans h2⟩⟩
theorem SL.one {G:GrV} (i:Int) (f:CarV→CarV×Int) (hf:∀ x,(f x).1.lo=x.lo):SL G (Gr.one G i f).1 :=
 ⟨Gr.one_same.2.2.2,fun k x h=>⟨_,Gr.one_at h,by split; exact hf x; rfl⟩⟩
theorem sl_end (K:KV) (s:Int):SL K.G (Co.endK K s).G:=by
 unfold Co.endK; split
 ·exact SL.one _ _ (fun x=>by show (Gr.givX _ x).lo=_; unfold Gr.givX; split <;> rfl)
 ·exact SL.refl _
theorem sl_set (K:KV) (l:LeaseV) (o:Bool):SL K.G (setK K l o).G:=by
 unfold Co.setK; split
 ·exact sl_end _ _
 ·show SL K.G (aimR _ _ _ _).1
  unfold Gr.aimR; split
  ·exact SL.one _ _ (fun x=>by show (Gr.aimX _ _ x).lo=_; unfold Gr.aimX; split <;> rfl)
  ·exact SL.refl _
theorem sl_fold (K:KV) (k:Nat):SL (Gr.tickG K.G) (foldK K k).1.G:=by
 have key:∀ (ls:List LeaseV) (x:KV×List EvV),SL x.1.G (ls.foldl stepK x).1.G:=by
  intro ls
  induction ls with
  | nil=>intro x; exact SL.refl _
  | cons l r ih=>intro x; rw [List.foldl_cons]; exact SL.trans (sl_set x.1 _ _) (ih (stepK x l))
 exact key _ (tkK1 K,[])
theorem sl_grant (K:KV):SL K.G (grantK K).G:=by
 unfold Co.grantK; split
 ·exact SL.refl _
 ·rename_i a _
  show SL K.G (takeR _ _ _).1
  unfold Gr.takeR; split
  ·exact SL.one _ _ (fun x=>by show (Gr.takeX _ x).lo=_; unfold Gr.takeX; split <;> rfl)
  ·exact SL.refl _
theorem tkV_lo (c:CfgV) (y:CarV):(Ct.tkV c y).lo=y.lo:=by
 show (Ct.tkX c y).lo=y.lo
 unfold Ct.tkX Ct.ldX Ct.goX Ct.stX Ct.svX
 (repeat' split) <;> rfl
theorem sl_tick (K:KV):SL K.G (tickK K).G:=by
 refine SL.trans ?_ ((sl_fold K _).trans (sl_grant _))
 refine ⟨Gr.tick_len _,fun i x hx=>?_⟩
 obtain ⟨y,_,hn,hz⟩:=Gr.tick_at hx
 refine ⟨_,hz, ?_⟩
 have h0:y={ x with su:=y.su,sd:=y.sd }:=hn
 have h1:y.lo=({ x with su:=y.su,sd:=y.sd }:CarV).lo:=congrArg CarV.lo h0
 have h1:y.lo=x.lo:=h1
 rw [← h1]
 exact tkV_lo _ _
theorem rk_lo:Rk (fun K K'=>SL K.G K'.G):=⟨fun K=>SL.refl _,fun h k=>SL.trans h k,fun K s=>sl_end K s,fun K a=>SL.refl _,fun K s m=>by
 unfold Co.hearK; split
 ·exact sl_set _ _ _
 ·exact SL.refl _⟩
def LoK (K:KV):Prop:=∀ x∈K.G.cars,n64 x.lo
theorem SL.lo {K K':KV} (h:SL K.G K'.G) (hl:LoK K):LoK K':=fun z hz=>by
 obtain ⟨i,hi,rfl⟩:=List.mem_iff_getElem.1 hz
 have hi2:i < K.G.cars.length:=by rw [← h.1]; exact hi
 obtain ⟨y,h1,h2⟩:=h.2 i _ (List.getElem?_eq_getElem hi2)
 rw [List.getElem?_eq_getElem hi] at h1
 rw [Option.some.inj h1,h2]
 exact hl _ (List.getElem_mem hi2)
structure Gs where
 x:Kv
 ep:Int
 xs:List Int
def txtV (cs:List CarV):List Int:=(upTo (cs.map viewOf) cs.length).map fun b=>(b.toNat:Int)
def grpG (g:Gs) (G:GrV):Gs:=⟨({ g.x.1 with G:=G },g.x.2),g.ep,g.xs⟩
def doV (c:CfgV) (g:Gs) (k a b:Int) (d:List Int):Gs×List (Int×List Int)×Int :=
 if k=1 then (⟨(tickG g.x).1,g.ep,g.xs⟩,(tickG g.x).2,0)
 else if k=2 then (⟨(runL c (g.x,g.ep) (frames (g.xs++d)).1).1,(runL c (g.x,g.ep) (frames (g.xs++d)).1).2,(frames (g.xs++d)).2⟩,[],0)
 else if 3≤k∧k≤7 then (grpG g (doR g.x.1.G (k - 2) a b (b == 1)).1,[],(doR g.x.1.G (k - 2) a b (b == 1)).2)
 else if k=8 then (g,[(-1,txtV g.x.1.G.cars)],0)
 else (g,[],1)
theorem come_ep (c:CfgV) (x:Kv) (ep:Int) (p:PktV):(comeK c x ep p).2=ep∨(comeK c x ep p).2=nxE ep:=by
 unfold comeK
 split
 ·unfold welK
  cases x.2 p.se with
  | none=>exact .inr rfl
  | some v =>
   simp only []
   split
   ·exact .inl rfl
   ·exact .inr rfl
 ·cases x.2 p.se with
  | none=>exact .inl rfl
  | some v =>
   simp only []
   split <;> exact .inl rfl
theorem nxE_one {e:Int} (h:0≤e∧e < 65535):nxE e=e+1:=by
 have:Se.nx e=e+1:=by unfold Se.nx; omega
 unfold nxE
 rw [this,if_neg (by omega)]
theorem run_ep (c:CfgV):∀ (ps:List (List Int)) (x:Kv×Int),0≤x.2→x.2+ps.length≤65535→x.2≤(runL c x ps).2∧(runL c x ps).2≤x.2+ps.length
 | [],x,h,_=>⟨Int.le_refl _,by show x.2≤_; simp⟩
 | p::r,x,h,h2=>by
  show x.2≤(runL c (if (Mg.getV p).2=0 then comeK c x.1 x.2 (Mg.getV p).1 else x) r).2∧(runL c (if (Mg.getV p).2=0 then comeK c x.1 x.2 (Mg.getV p).1 else x) r).2≤_
  simp only [List.length_cons] at h2 ⊢
  have hx:x.2≤(if (Mg.getV p).2=0 then comeK c x.1 x.2 (Mg.getV p).1 else x).2∧(if (Mg.getV p).2=0 then comeK c x.1 x.2 (Mg.getV p).1 else x).2≤x.2+1:=by
   split
   ·rcases come_ep c x.1 x.2 (Mg.getV p).1 with e | e
    ·rw [e]; omega
    ·rw [e,nxE_one (by omega)]; omega
   ·omega
  have:=run_ep c r (if (Mg.getV p).2=0 then comeK c x.1 x.2 (Mg.getV p).1 else x) (by omega) (by omega)
  omega
structure GI (c:CfgV) (i B:Nat) (g:Gs):Prop where
 j:JI c i i g.x
 lo:LoK g.x.1
 e:0≤g.ep∧g.ep+(g.xs.length:Int)≤B
theorem GI.new (c:CfgV):GI c 0 0 ⟨(newK c,fun _=>none),0,[]⟩:=⟨JI.new c,fun x hx=>by
 have:=List.eq_of_mem_replicate (show x∈List.replicate (Gr.ncars c) Gr.zeroX from hx)
 rw [this]; exact ⟨by decide,by decide⟩,by simp⟩
theorem GI.more {c:CfgV} {i B i' B':Nat} {g:Gs} (h:GI c i B g) (h1:i≤i') (h2:B≤B'):GI c i' B' g:=⟨h.j.more h1 h1,h.lo,by have:=h.e; omega⟩
theorem doR_lo {G:GrV} {k a b:Int} {y:Bool} (hk:1≤k∧k≤5) (hb:n64 b) (h:∀ x∈G.cars,n64 x.lo):∀ x∈(doR G k a b y).1.cars,n64 x.lo:=by
 have on:∀ (f:CarV→CarV×Int),(∀ x,n64 x.lo→n64 (f x).1.lo)→∀ x∈(Gr.one G a f).1.cars,n64 x.lo:=fun f hf=>Gr.one_cars h (fun x _ hx=>hf x hx)
 unfold Gr.doR
 split
 ·unfold Gr.hallR; (repeat' split) <;> exact h
 split
 ·unfold Gr.pressR; split
  ·exact on _ (fun x hx=>by show n64 (Gr.pressX _ x).lo; unfold Gr.pressX; split <;> exact hx)
  ·exact h
 split
 ·exact on _ (fun x _=>hb)
 split
 ·exact on _ (fun x hx=>hx)
 split
 ·unfold Gr.faultR; split
  ·split
   ·exact on _ (fun x hx=>hx)
   ·exact h
  ·exact on _ (fun x hx=>hx)
 omega
theorem GI.do_ {c:CfgV} {i B:Nat} {g:Gs} (h:GI c i B g) (hi:i < 10000) {k a b:Int} {d:List Int} (hB:B+d.length≤60000) (hb:n64 b):GI c (i+1) (B+d.length) (doV c g k a b d).1:=by
 have he:=h.e
 have hm:GI c (i+1) (B+d.length) g:=h.more (by omega) (by omega)
 unfold doV
 by_cases h1:k=1
 ·rw [if_pos h1]
  exact ⟨(h.j.tick hi).more (by omega) (Nat.le_refl _),SL.lo (SL.trans (sl_tick _) (rk_lo.tick g.x)) h.lo,by show 0≤g.ep∧g.ep+(g.xs.length:Int)≤_; omega⟩
 rw [if_neg h1]
 by_cases h2:k=2
 ·rw [if_pos h2]
  have hc:=Fm.frames_le (g.xs++d)
  rw [List.length_append] at hc
  have hr:=run_ep c (frames (g.xs++d)).1 (g.x,g.ep) he.1 (by show g.ep+_≤_; omega)
  refine ⟨(JI.run (by omega) _ h.j).more (by omega) (by omega),SL.lo (rk_lo.run c _ (g.x,g.ep)) h.lo, ?_⟩
  show 0≤(runL c (g.x,g.ep) (frames (g.xs++d)).1).2∧(runL c (g.x,g.ep) (frames (g.xs++d)).1).2+((frames (g.xs++d)).2.length:Int)≤_
  have hr1:g.ep≤(runL c (g.x,g.ep) (frames (g.xs++d)).1).2:=hr.1
  have hr2:(runL c (g.x,g.ep) (frames (g.xs++d)).1).2≤g.ep+((frames (g.xs++d)).1.length:Int):=hr.2
  push_cast
  omega
 rw [if_neg h2]
 by_cases h3:3≤k∧k≤7
 ·rw [if_pos h3]
  have hd:doK g.x.1 ⟨k+1,a,b,⟨0,0,0,0,0⟩,⟨0,0,0,0⟩⟩={ g.x.1 with G:=(doR g.x.1.G (k - 2) a b (b == 1)).1 }:=by
   unfold Lc.doK Lc.gdo
   simp only []
   rw [if_neg (by omega),if_neg (by omega),if_neg (by omega),if_neg (by omega),if_pos (by omega),show k+1 - 3=k - 2 by omega]
  have hp:=h.j.p.do_ (by omega) ⟨k+1,a,b,⟨0,0,0,0,0⟩,⟨0,0,0,0⟩⟩
  have hc:=h.j.ci.do_ (by omega) h.j.p ⟨k+1,a,b,⟨0,0,0,0,0⟩,⟨0,0,0,0⟩⟩
  rw [hd] at hp hc
  refine ⟨⟨hp.more (Nat.le_refl _) (by omega),hc,⟨?_, ?_,h.j.t.s,fun j v hv=>?_⟩⟩,doR_lo (by omega) hb h.lo,by show 0≤g.ep∧g.ep+(g.xs.length:Int)≤_; omega⟩
  ·exact h.j.t.q
  ·exact h.j.t.l
  ·have:=h.j.t.t j v hv; omega
 rw [if_neg h3]
 by_cases h8:k=8
 ·rw [if_pos h8]; exact hm
 ·rw [if_neg h8]; exact hm
theorem GI.num {c:CfgV} {i B:Nat} {g:Gs} (h:GI c i B g):∀ v∈g.x.1.G.cars.map viewOf,n64 v.un∧n64 v.ds∧n64 v.mo∧n64 v.wy∧n64 v.lo:=by
 intro v hv
 obtain ⟨x,hx,rfl⟩:=List.mem_map.1 hv
 have hs:=h.j.p.k.g.2.2.1 x hx
 have hm:=(Ct.mayB_iff c x).1 hs.1
 have hb:=(Ct.may_bd hs.1).2
 have hg:=(Pl.goodB_iff c x).1 hm.1
 have hd:=Do.gd_bd _ _ _ hg.1
 have hl:=h.lo x hx
 unfold viewOf n64 at *
 refine ⟨by show _≤x.un∧x.un≤_; omega,by show _≤x.ds∧x.ds≤_; omega, ?_,by show _≤x.wy∧x.wy≤_; omega,hl⟩
 show _≤(if x.br=true then (2:Int) else x.mo)∧(if x.br=true then (2:Int) else x.mo)≤_
 split <;> omega
theorem GI.len {c:CfgV} {i B:Nat} {g:Gs} (h:GI c i B g):1≤g.x.1.G.cars.length∧g.x.1.G.cars.length≤8:=by
 rw [h.j.p.k.len]; exact Gr.ncars_bd c
end Gw
namespace Gw
open Go.RowKit Ba Mem En Go.Proofs.YtepfmfalebmcnaaGreatDoor.Ty
open Fm (frames)
open Byt (BV isB)
open Co (KV newK tickK tickE Hold.ob)
open Gr (GrV doR hallR pressR loadR curtR faultR)
set_option maxRecDepth 100000
structure Gm where
 Sk:List Nat
 D:Fam
 Ss:List Nat
 M:Nat
 N:Nat
structure GSt (gq:Nat) (c:CfgV) (x:Gp) (B:Nat) (m:Gm) (g:Gs) (w:World):Prop where
 t:GWt gq c x m.M m.N g.x.1 g.ep g.xs m.Sk m.D m.Ss w
 v:vals m.D=g.x.2
 hM:m.M+g.xs.length≤B
 hN:m.N≤B
def gmF (gq:Nat) (x:Gp) (m:Gm):List Nat:=gwF gq x m.Sk m.D m.Ss
def gsO (gq:Nat) (c:CfgV) (x:Gp) (B:Nat) (m:Gm) (g:Gs) (rw:Bool):Asr:=⟨gmF gq x m,rw,GSt gq c x B m g,fun u hd h=>⟨h.t.upd u hd,h.v,h.hM,h.hN⟩,fun h=>h.t.lt⟩
structure OsAt (A:Option Addr) (c:Nat) (os:List OutD) (w:World):Prop where
 r:outE.At 0 A os.length c os w
 d:∀ o∈os,BV w o.A o.zs.length o.zs
def osF (A:Option Addr) (os:List OutD):List Nat:=blkOf A++os.flatMap fun o=>rdF o.A o.zs.length
theorem osF_at {A:Option Addr} {os:List OutD} {o:OutD} (ho:o∈os):∀ g∈rdF o.A o.zs.length,g∈osF A os:=fun g hg=>List.mem_append.2 (.inr (List.mem_flatMap.2 ⟨o,ho,hg⟩))
def osO (A:Option Addr) (c:Nat) (os:List OutD):Asr:=⟨osF A os,false,OsAt A c os,fun u hd h=>⟨u.own h.r (fun g hg=>hd g (List.mem_append.2 (.inl hg))),fun o ho=>bv_up u (h.d o ho) (fun g hg=>hd g (osF_at ho g hg))⟩,fun h g hg=>by
 rcases List.mem_append.1 hg with hg | hg
 ·exact own_lt h.r g hg
 ·obtain ⟨o,ho,hg⟩:=List.mem_flatMap.1 hg
  exact bv_lt (h.d o ho) g hg⟩
theorem rdF_blk {A:Option Addr} {n:Nat}:∀ g∈rdF A n,g∈blkOf A:=fun g hg=>by
 cases n with
 | zero=>cases hg
 | succ n=>exact hg
theorem tickS_isB {x:Ko} {i:Int} (h:∀ q∈x.2,∀ z∈q.2,isB z):∀ q∈(tickS x i).2,∀ z∈q.2,isB z:=by
 unfold tickS
 cases x.1.2 i with
 | none=>exact h
 | some v =>
  simp only []
  split
  ·exact h
  ·split
   ·intro q hq
    rcases List.mem_append.1 hq with hq | hq
    ·exact h q hq
    ·rw [List.mem_singleton] at hq
     subst hq
     intro z hz
     have hz:z∈frV _:=hz
     unfold frV at hz
     split at hz
     ·exact Fm.frm_isB (Mg.bytes_isB _) z hz
     ·cases hz
   ·exact h
theorem tickL_isB:∀ (ks:List Int) {x:Ko},(∀ q∈x.2,∀ z∈q.2,isB z)→∀ q∈(tickL x ks).2,∀ z∈q.2,isB z
 | [],_,h=>h
 | k::r,x,h=>tickL_isB r (x:=tickS x k) (tickS_isB h)
theorem tick_isB (x:Kv):∀ q∈(tickG x).2,∀ z∈q.2,isB z:=tickL_isB _ (x:=(tellF (tickK x.1,x.2) (tickE x.1),[])) (by intro q hq; cases hq)
def DoQ (gq:Nat) (c:CfgV) (x:Gp) (B:Nat) (m:Gm) (g:Gs) (w:World) (k a b:Int) (d:List Int) (e:Ending) (w':World):Prop :=
 ∃ y:{y:Gm×Option Addr×Nat×List OutD // outsV y.2.2.2=(doV c g k a b d).2.1},e=.returned (.tuple #[.slice y.1.2.1 (doV c g k a b d).2.1.length y.1.2.2.1,.int .i64 (doV c g k a b d).2.2])∧GSt gq c x (B+d.length) y.1.1 (doV c g k a b d).1 w'∧OsAt y.1.2.1 y.1.2.2.1 y.1.2.2.2 w'∧Upd (gmF gq x m) w w'∧(∀ i∈gmF gq x y.1.1,i∈gmF gq x m∨w.heap.size≤i)∧∀ i∈osF y.1.2.1 y.1.2.2.2,w.heap.size≤i∧i∉gmF gq x y.1.1
attribute [local irreducible] Go.Calls
section
variable {gq B:Nat} {c:CfgV} {x:Gp} {m:Gm} {g:Gs} {k a b:Int} {d:List Int} {w:World} {dA:Option Addr} {dn dc:Nat}
theorem doq_nil {g':Gs} {r:Int} {m':Gm} {e:Ending} {w':World} (he:doV c g k a b d=(g',[],r)) (h1:e=.returned (.tuple #[.slice none 0 0,.int .i64 r])) (h2:GSt gq c x (B+d.length) m' g' w') (h3:Upd (gmF gq x m) w w') (h4:∀ i∈gmF gq x m',i∈gmF gq x m∨w.heap.size≤i):DoQ gq c x B m g w k a b d e w':=by
 unfold DoQ
 rw [he]
 exact ⟨⟨(m',none,0,[]),rfl⟩,h1,h2,⟨Ek.nil _ _ _,by intro o ho; cases ho⟩,h3,h4,by intro i hi; cases hi⟩
theorem GSt.more {B':Nat} (h:GSt gq c x B m g w) (hb:B≤B'):GSt gq c x B' m g w:=⟨h.t,h.v,Nat.le_trans h.hM hb,Nat.le_trans h.hN hb⟩
theorem doq_grp {G:GrV} {r:Int} {S':List Nat} {e:Ending} {w':World} (h:GSt gq c x B m g w) (he:doV c g k a b d=(grpG g G,[],r)) (h1:e=.returned (.tuple #[.slice none 0 0,.int .i64 r])) (h2:GWt gq c x m.M m.N { g.x.1 with G:=G } g.ep g.xs S' m.D m.Ss w') (h3:Upd (gwF gq x m.Sk m.D m.Ss) w w') (h4:∀ i∈gwF gq x S' m.D m.Ss,i∈gwF gq x m.Sk m.D m.Ss∨w.heap.size≤i):DoQ gq c x B m g w k a b d e w' :=
 doq_nil (m':=⟨S',m.D,m.Ss,m.M,m.N⟩) he h1 ⟨h2,h.v,Nat.le_trans h.hM (Nat.le_add_right ..),Nat.le_trans h.hN (Nat.le_add_right ..)⟩ h3 h4
theorem bv_str {gb:Nat} {bs:List UInt8} (h:(strO gb bs).st w) (hl:bs.length≤1000000):BV w (some ⟨gb,0,none⟩) bs.length (bs.map fun b=>(b.toNat:Int)):=by
 obtain ⟨cs,fz,h1,h2⟩:=h
 refine ⟨List.length_map ..,by omega,fun z hz=>?_,.inr ⟨gb,0,rfl,(Array.getElem?_eq_some_iff.1 h1).1,fun j hj=>?_⟩⟩
 ·obtain ⟨u,_,rfl⟩:=List.mem_map.1 hz
  have:=u.toNat_lt
  unfold isB; omega
 ·have h3:(cs.toList.take bs.length)[j]?=(Lib.byteCells bs)[j]?:=by rw [h2]
  rw [List.getElem?_take,if_pos hj] at h3
  have h4:(Lib.byteCells bs)[j]?=some (.int .u8 ((bs.map fun b=>(b.toNat:Int)).getD j 0)):=by
   simp [Lib.byteCells,List.getD,hj]
  rw [h4] at h3
  simp only [World.cell?,h1,Nat.zero_add]
  simpa using h3
set_option maxHeartbeats 1000000 in
theorem doD {i:Nat} (h:GSt gq c x B m g w) (hg:GI c i B g) (hi:i < 10000) (hB:B+d.length≤60000) (hz:BV w dA dn d) (hz1:∀ y∈rdF dA dn,y∉gmF gq x m) (htab:Lib.TabIs Tryz.prog w "internal/strconv.uint64pow10" .u64 Lib.pow10Tab) (hT:∀ t,(Tryz.prog).globalNamed "internal/strconv.uint64pow10" = some t→t∉gmF gq x m) (hk:(Lit.int .i64 k).wf=true) :
  Calls Tryz.prog 24 #[.pointer (some ⟨gq,0,none⟩),.agg #[.int .i64 k,.int .i64 a,.int .i64 b,.slice dA dn dc]] w (DoQ gq c x B m g w k a b d):=by
 have ex:(g.x.1,vals m.D)=g.x:=by rw [h.v]
 have hj:JI c i i (g.x.1,vals m.D):=ex ▸ hg.j
 have hl:=hz.1
 have hw:g.x.1.G.waits.length≤10000:=Nat.le_trans hg.j.p.k.g.2.2.2.2 (by omega)
 by_cases h1:k=1
 ·subst h1
  have he:doV c g 1 a b d=(⟨(tickG g.x).1,g.ep,g.xs⟩,(tickG g.x).2,0):=by unfold doV; rw [if_pos rfl]
  refine (tickD (n:=i) (T:=i) h.t hj (by omega) hi (by have:=h.hM; omega)).mono ?_
  rintro e w' ⟨⟨S',D',A,cp,os⟩,rfl,h2,h3,h4,h5,h6,h7,h8,h9,h10,h11⟩
  rw [ex] at h2 h10 h11
  have hlen:os.length=(tickG g.x).2.length:=by rw [← h11]; exact (List.length_map ..).symm
  unfold DoQ
  rw [he]
  refine ⟨⟨(⟨S',D',m.Ss,m.M,m.N⟩,A,cp,os),h11⟩,by simp only [hlen],⟨h2,h10,Nat.le_trans h.hM (Nat.le_add_right ..),Nat.le_trans h.hN (Nat.le_add_right ..)⟩,⟨Ek.base h3 (Nat.zero_le _),fun o ho=>?_⟩,h5,h6,fun y hy=>?_⟩
  ·have hm:(o.s,o.zs)∈(tickG g.x).2:=by rw [← h11]; exact List.mem_map.2 ⟨o,ho,rfl⟩
   exact Byt.BV.of_own (byte_own.1 (h4 o ho)) (tick_isB g.x _ hm)
  ·rcases List.mem_append.1 hy with hy | hy
   ·exact h7 y hy
   ·obtain ⟨o,ho,hy⟩:=List.mem_flatMap.1 hy
    exact h8 y (dat_mem.2 ⟨o,ho,rdF_blk y hy⟩)
 by_cases h2:k=2
 ·subst h2
  have he:doV c g 2 a b d=(⟨(runL c (g.x,g.ep) (frames (g.xs++d)).1).1,(runL c (g.x,g.ep) (frames (g.xs++d)).1).2,(frames (g.xs++d)).2⟩,[],0):=by unfold doV; rw [if_neg (by decide),if_pos rfl]
  have hfl:=Fm.frames_le (g.xs++d)
  have hM:=h.hM
  have hN:=h.hN
  rw [List.length_append] at hfl
  refine (bytesD (n:=i) (T:=i) h.t hz hz1 hj (by omega) (by rw [List.length_append]; omega) (by omega)).mono ?_
  rintro e w' ⟨y,rfl,h3,h4,h5⟩
  have hv:=y.2
  generalize y.1=z at h3 h4 h5 hv
  obtain ⟨S',D',Ss'⟩:=z
  rw [ex] at h3 hv
  exact doq_nil (m':=⟨S',D',Ss',_,_⟩) he rfl ⟨h3,hv,by show m.M+(g.xs++d).length - _+(frames (g.xs++d)).2.length≤_; rw [List.length_append]; omega,by show m.N+dn≤_; omega⟩ h4 h5
 by_cases h3:k=3
 ·subst h3
  have he:doV c g 3 a b d=(grpG g (doR g.x.1.G 1 a b (b == 1)).1,[],(hallR g.x.1.G a b).2):=by
   unfold doV; rw [if_neg (by decide),if_neg (by decide),if_pos (by decide),show (3:Int) - 2=1 from rfl]
   unfold Gr.doR; rw [if_pos rfl]
  refine (hallD h.t hw).mono ?_
  rintro e w' ⟨S',rfl,a1,a2,a3⟩
  exact doq_grp h he rfl a1 a2 a3
 by_cases h4:k=4
 ·subst h4
  have he:doV c g 4 a b d=(grpG g (doR g.x.1.G 2 a b (b == 1)).1,[],(pressR g.x.1.G a b).2):=by
   unfold doV; rw [if_neg (by decide),if_neg (by decide),if_pos (by decide),show (4:Int) - 2=2 from rfl]
   unfold Gr.doR; rw [if_neg (by decide),if_pos rfl]
  refine (pressD h.t).mono ?_
  rintro e w' ⟨S',rfl,a1,a2,a3⟩
  exact doq_grp h he rfl a1 a2 a3
 by_cases h5:k=5
 ·subst h5
  have he:doV c g 5 a b d=(grpG g (doR g.x.1.G 3 a b (b == 1)).1,[],(loadR g.x.1.G a b).2):=by
   unfold doV; rw [if_neg (by decide),if_neg (by decide),if_pos (by decide),show (5:Int) - 2=3 from rfl]
   unfold Gr.doR; rw [if_neg (by decide),if_neg (by decide),if_pos rfl]
  refine (loadD h.t).mono ?_
  rintro e w' ⟨S',rfl,a1,a2,a3⟩
  exact doq_grp h he rfl a1 a2 a3
 by_cases h6:k=6
 ·subst h6
  have he:doV c g 6 a b d=(grpG g (doR g.x.1.G 4 a b (b == 1)).1,[],(curtR g.x.1.G a (b == 1)).2):=by
   unfold doV; rw [if_neg (by decide),if_neg (by decide),if_pos (by decide),show (6:Int) - 2=4 from rfl]
   unfold Gr.doR; rw [if_neg (by decide),if_neg (by decide),if_neg (by decide),if_pos rfl]
  refine (curtainD h.t).mono ?_
  rintro e w' ⟨S',rfl,a1,a2,a3⟩
  exact doq_grp h he rfl a1 a2 a3
 by_cases h7:k=7
 ·subst h7
  have he:doV c g 7 a b d=(grpG g (doR g.x.1.G 5 a b (b == 1)).1,[],(faultR g.x.1.G a (b == 1)).2):=by
   unfold doV; rw [if_neg (by decide),if_neg (by decide),if_pos (by decide),show (7:Int) - 2=5 from rfl]
   unfold Gr.doR; rw [if_neg (by decide),if_neg (by decide),if_neg (by decide),if_neg (by decide),if_pos rfl]
  refine (faultD h.t hw).mono ?_
  rintro e w' ⟨S',rfl,a1,a2,a3⟩
  exact doq_grp h he rfl a1 a2 a3
 by_cases h8:k=8
 ·subst h8
  have he:doV c g 8 a b d=(g,[(-1,txtV g.x.1.G.cars)],0):=by unfold doV; rw [if_neg (by decide),if_neg (by decide),if_neg (by decide),if_pos rfl]
  have hcl:=hg.len
  refine (listD h.t (by omega) (by omega) htab hT hg.num).mono ?_
  rintro e w' ⟨⟨g1,gb,cb⟩,rfl,a1,⟨a2,a3⟩,a4,a5⟩
  have hul:=upTo_len (g.x.1.G.cars.map viewOf) hg.num (by rw [List.length_map]; omega) g.x.1.G.cars.length (by rw [List.length_map]; exact Nat.le_refl _)
  have hbv:=bv_str a3 (by omega)
  unfold DoQ
  rw [he]
  refine ⟨⟨(m,some ⟨g1,0,none⟩,1,[⟨-1,some ⟨gb,0,none⟩,cb,txtV g.x.1.G.cars⟩]),rfl⟩,rfl,⟨a1,h.v,Nat.le_trans h.hM (Nat.le_add_right ..),Nat.le_trans h.hN (Nat.le_add_right ..)⟩,⟨⟨rfl,.inr ⟨g1,1,_,rfl,Nat.zero_le _,a2,Nat.le_refl _,by decide,rfl, ?_⟩⟩,fun o ho=>?_⟩,a4,fun y hy=>.inl hy,fun y hy=>?_⟩
  ·simp [rowsOf,outE,txtV]
  ·rw [List.mem_singleton] at ho
   subst ho
   have e2:(txtV g.x.1.G.cars).length=(upTo (g.x.1.G.cars.map viewOf) g.x.1.G.cars.length).length:=List.length_map ..
   show BV w' (some ⟨gb,0,none⟩) (txtV g.x.1.G.cars).length (txtV g.x.1.G.cars)
   rw [e2]; exact hbv
  ·rcases List.mem_append.1 hy with hy | hy
   ·exact a5 y (by rw [show y=g1 by simpa [blkOf] using hy]; exact List.mem_cons_self ..)
   ·have:y=gb:=List.mem_singleton.1 (show y∈[gb] from rdF_blk (A:=some ⟨gb,0,none⟩) (n:=(txtV g.x.1.G.cars).length) y (by simpa using hy))
    subst this
    exact a5 _ (List.mem_cons_of_mem _ (List.mem_singleton.2 rfl))
 ·have he:doV c g k a b d=(g,[],1):=by unfold doV; rw [if_neg h1,if_neg h2,if_neg (by omega),if_neg h8]
  refine (doNo h.t hk (by omega)).mono ?_
  rintro e w' ⟨rfl,h9⟩
  exact doq_nil (m':=m) he rfl ⟨h.t.upd (Upd.of_since (S:=[]) h9) (by intro _ _ hg; cases hg),h.v,Nat.le_trans h.hM (Nat.le_add_right ..),Nat.le_trans h.hN (Nat.le_add_right ..)⟩ (Upd.of_since h9) (fun y hy=>.inl hy)
end
end Gw
namespace Gw
open Go.ChangeShapes Go.WideShapes Go.ChangeAt Go.WideMaps Go.WideElems Go.RowKit
open Ba Mem En
theorem door_met (os:Os) (args:Array Value):laidMetH Tryz.prog Rows.gatewayNoneRow.laid ((World.doorLaid Tryz.prog 400 os).forCall (fun _ _=>0) ⟨#[],args,[]⟩).memory :=
 laidMetH_of_parts3 (fuel:=8) (laidMet_of_run' 8 (by kernel_rfl) (by kernel_rfl)) (by kernel_rfl) (by kernel_rfl)
theorem tab_data:(Rows.laid_internal_strconv_uint64pow10:DataW Unit)=Lib.tabData .u64 Lib.pow10Tab:=by kernel_rfl
theorem of_laid {W:World} (h:laidMetH Tryz.prog Rows.gatewayNoneRow.laid W):Lib.TabIs Tryz.prog W "internal/strconv.uint64pow10" .u64 Lib.pow10Tab:=by
 rw [MakeChecks.laidMetH_plain _ _ _ (by kernel_rfl)] at h
 have h2:laidMet Tryz.prog [("internal/strconv.uint64pow10", Rows.laid_internal_strconv_uint64pow10)] W:=laidMet.tail (laidMet.tail h)
 rw [tab_data] at h2
 exact Lib.tabIs_of_head (g:=0) (by kernel_rfl) (by kernel_rfl) Tryz.underlying290 Tryz.underlying120 (by kernel_rfl) (by kernel_rfl) h2
theorem tab_keep {P:Program} {T:List Nat} {w w':World} {nm:String} {k:IntKind} {zs:List Int} (h:Lib.TabIs P w nm k zs) (u:Upd T w w') (hT:∀ g,P.globalNamed nm=some g→g∉T):Lib.TabIs P w' nm k zs:=by
 unfold Lib.TabIs World.var? at h ⊢
 cases hg:P.globalNamed nm with
 | none=>simp [hg] at h
 | some g =>
  simp only [hg,Option.bind_some] at h ⊢
  have hlt:g < w.heap.size:=by
   rcases Nat.lt_or_ge g w.heap.size with h' | h'
   ·exact h'
   ·simp [Array.getElem?_eq_none h'] at h
  rw [u.block g hlt (hT g hg)]
  exact h
theorem tab_lt {P:Program} {w:World} {nm:String} {k:IntKind} {zs:List Int} (h:Lib.TabIs P w nm k zs) {g:Nat} (hg:P.globalNamed nm=some g):g < w.heap.size:=by
 unfold Lib.TabIs World.var? at h
 simp only [hg,Option.bind_some] at h
 rcases Nat.lt_or_ge g w.heap.size with h' | h'
 ·exact h'
 ·simp [Array.getElem?_eq_none h'] at h
def tbO:Asr:=⟨[0],false,fun w=>Lib.TabIs Tryz.prog w "internal/strconv.uint64pow10" .u64 Lib.pow10Tab,fun u hd h=>tab_keep h u (fun g hg=>hd g (by
 rw [show g=0 from Option.some.inj (hg.symm.trans (by kernel_rfl))]
 exact List.mem_singleton.2 rfl)),fun h g hg=>tab_lt h (by rw [List.mem_singleton.1 hg]; kernel_rfl)⟩
theorem tb_far {A:Asr} (h:∀ g∈A.F,g∉tbO.F):∀ t,(Tryz.prog).globalNamed "internal/strconv.uint64pow10" = some t→t∉A.F:=fun t ht hm=>by
 have e:t=0:=Option.some.inj (ht.symm.trans (by kernel_rfl))
 exact h t hm (by rw [e]; exact List.mem_singleton.2 rfl)
end Gw
namespace Gw
open Go.RowKit Ba Mem En Go.Proofs.YtepfmfalebmcnaaGreatDoor.Ty
open Byt (BV isB)
open Co (Hold.ob)
set_option maxRecDepth 100000
attribute [local irreducible] Go.Calls
theorem rng_at {w:World} {g off k:Nat} {cs:List Value} {v:Value} (h:w.rangeAt g off cs) (hk:cs[k]?=some v):w.rangeAt g (off+k) [v]:=fun j u hj=>by
 cases j with
 | zero =>
  simp at hj; subst hj
  simpa using h k _ hk
 | succ j=>simp at hj
def sumW (ss:Nat→StepD):Nat→Int
 | 0=>0
 | k+1=>IntKind.i64.wrap (sumW ss k+((ss k).n:Int))
def sumT (ss:Nat→StepD):Nat→Nat
 | 0=>0
 | k+1=>sumT ss k+(ss k).n
def litB (ss:Nat→StepD) (len:Nat):Bool:=decide ((len:Int)≤300) && decide (sumW ss len≤20000)
theorem sum_le {ss:Nat→StepD}:∀ k:Nat,k≤300→(∀ i,i < k→StepW (ss i))→sumW ss k=sumT ss k∧sumT ss k≤140737488351232*k
 | 0,_,_=>⟨rfl,Nat.le_refl _⟩
 | k+1,hk,h=>by
  obtain ⟨h1,h2⟩:=sum_le k (by omega) (fun i hi=>h i (by omega))
  have h3:=(h k (by omega)).m
  have h4:sumT ss (k+1)=sumT ss k+(ss k).n:=rfl
  refine ⟨?_,by omega⟩
  show IntKind.i64.wrap (sumW ss k+((ss k).n:Int))=_
  rw [h1,h4,wr64 _ (by omega) (by omega)]
  push_cast; rfl
theorem lit_of {ss:Nat→StepD} {len:Nat} (h:litB ss len=true) (hw:∀ i,i < len→StepW (ss i)):len≤300∧sumT ss len≤20000:=by
 unfold litB at h
 simp only [Bool.and_eq_true,decide_eq_true_eq] at h
 obtain ⟨h1,h2⟩:=h
 have h3:len≤300:=by omega
 have h4:=sum_le len h3 hw
 exact ⟨h3,by rw [h4.1] at h2; omega⟩
theorem sumT_mono {ss:Nat→StepD}:∀ {i k:Nat},i≤k→sumT ss i≤sumT ss k
 | i,0,h=>by rw [Nat.le_zero.1 h]; exact Nat.le_refl _
 | i,k+1,h=>by
  rcases Nat.lt_or_ge i (k+1) with hk | hk
  ·exact Nat.le_trans (sumT_mono (i:=i) (k:=k) (by omega)) (Nat.le_add_right ..)
  ·rw [show i=k+1 by omega]; exact Nat.le_refl _
theorem sumT_at {ss:Nat→StepD} {i len:Nat} (h:i < len):sumT ss i+(ss i).n≤sumT ss len:=sumT_mono (ss:=ss) (i:=i+1) h
theorem hold_st {a:Option Addr} {len nt:Nat} {ss:Nat→StepD} {w:World} (h:StR a len ss w):Hold ⟨Tryz.prog,tab,[],w,nt,[]⟩ [] [stO a len ss] w :=
 Hold.addObj (Hold.nil _ tab [] _ w) (stO a len ss) h (by intro k; cases k) (by intro r hr; cases hr) (by intro A hA; cases hA)
end Gw
namespace Gw
open Go.RowKit Ba Mem En Go.Proofs.YtepfmfalebmcnaaGreatDoor.Ty
open Fm (frames)
open Byt (BV isB)
open Co (KV newK Hold.ob)
set_option maxRecDepth 100000
attribute [local irreducible] Go.Calls
abbrev DoI (o':List (Int×List Int)):={y:Gm×Option Addr×Nat×List OutD // outsV y.2.2.2=o'∧(0 < o'.length→∃ g,y.2.1=some ⟨g,0,none⟩)}
section
variable {X:Cx} {s:St}
end
end Gw
namespace En
open Go.RowKit Ba Mem
section
variable {X:Cx} {s:St}
theorem opapo (i j:Nat) {A C:Asr} {o:Oper} {K:St→Prop} {xs ys:Operand} {t e:TypeId} {lo size n c0 m c n2 bytes:Nat} {A0 A1:Option Addr} {z:Value} {vals cells zs:List Value} (B:Option Addr→Nat→Asr)
  (ho:o.op=.call { callee:=.builtin .append,args:=#[xs,ys],argTypes:=#[t,t] }) (hxs:evO xs s.fr=some (.v (.slice A0 n c0))) (hys:evO ys s.fr=some (.v (.slice A1 m c)))
  (hA:s.ob[i]?=some A) (hrw:A.rw=true) (hF:A.F=blkOf A0) (hst:∀ w,A.st w→w.ownsRow lo e size (.slice A0 n c0) n vals) (hB:∀ A' c' w,w.ownsRow lo e size (.slice A' n2 c') n2 zs→(B A' c').st w) (hBF:∀ A' c',(B A' c').F=blkOf A')
  (hC:s.ob[j]?=some C) (hrd:∀ w,C.st w→Reads w w.heap.size size A1 m cells)
  (ht:X.P.underlying t=some (.slice e)) (hinf:(X.P.info? e).map (fun i=>(i.zero,i.size,i.bytes))=some (some z,size,bytes)) (hzs:z.cells.size=size) (hsz:0 < size) (hby:bytes≤1000) (h1:∀ u∈cells,u.oneCell'=true)
  (hnm:n+m≤1000000) (hbase:∀ w,Hold X s.m s.ob w→lo≤w.heap.size) (hn2:n+m=n2) (hzs2:vals++cells=zs)
  (h:∀ A' c',setO i (B A' c') s.ob fun ob=>put X.n o.dst (.v (.slice A' n2 c')) ⟨s.fr,s.m,ob⟩ K):OpVC X o s K:=⟨fun a w Q hR=>by
 have sC:=hR.h.obj C (List.mem_of_getElem? hC)
 refine wp_append_row xs ys t ho lo e z size bytes ht hinf hzs hsz hby A0 n c0 vals (by rw [(evO_of hR.fr hxs).2]; rfl) (hst w (hR.h.obj A (List.mem_of_getElem? hA))) w.heap.size A1 m c cells (by rw [(evO_of hR.fr hys).2]; rfl) (hrd w sC) h1 hnm (hbase w hR.h) n2 zs hn2 hzs2 ?_
 intro A' c' w' hown hupd hfar
 have hH:=hR.h.obj_set hA hrw (hB A' c' w' hown) (by rw [hF]; exact hupd) (by rw [hF,hBF]; exact hfar)
 obtain ⟨s',r1,r2,r3,r4⟩:=put_of (a:=a) (s:=⟨s.fr,s.m,s.ob.set i (B A' c')⟩) (v:=.v (.slice A' n2 c')) hR.ds hR.sz hR.fr hH rfl (setO_of (h A' c'))
 exact ⟨s',r1,by rw [r2]; exact Ext.refl _,r4⟩⟩
end
end En
namespace Mg
open Go.RowKit Ba Mem En Go.Proofs.YtepfmfalebmcnaaGreatDoor.Ty
open Byt (BV isB cells)
open Co (Hold.ob)
set_option maxRecDepth 100000
attribute [local irreducible] Go.Calls
theorem u8_m (x:Int) (h:0≤x):IntKind.u8.wrap (x.tmod 256)=x % 256:=by
 rw [u8_wrap,Int.tmod_eq_emod_of_nonneg h]; omega
theorem numR (n:Int) (h0:0≤n∧n≤2147483647) (w:World):Calls Tryz.prog 49 #[.int .i64 n] w fun e w'=>∃ x:Option Addr×Nat,e=.returned (.slice x.1 4 x.2)∧byteE.At w.heap.size x.1 4 x.2 (fourL n) w'∧Since w w':=by
 refine ent tab_ok [.i .i64 n] Tryz.func49 Tryz.ntmps49 rfl rfl ?_
 repeat' (first | refine gs_ ?_|((conv=>whnf); first | intro b | refine cd (by first | decide | omega) ?_|refine bto ?_|refine bfo ?_|refine wr (u8_m _ (by omega)) ?_|refine wr (u8_wrap _) ?_|refine wr_q ?_|refine opbo ⟨tab_ok⟩ byteE (fourL n) [_,_,_,_] [.i .u8 (n / 16777216 % 256),.i .u8 (n / 65536 % 256),.i .u8 (n / 256 % 256),.i .u8 (n % 256)] (by rfl) (by rfl) (by rfl) rfl rfl (fun g0=>?_)|refine fin fun w' hH=>⟨(some ⟨g0,0,none⟩,4),rfl,Hold.ob hH (A:=rwO byteE w.heap.size (some ⟨g0,0,none⟩) 4 4 (fourL n) true) 0 rfl,hH.upd.since⟩|refine fin_s ?_))
theorem bytesH (p:PktV) (h0:mayB p=true) (hh:p.has=true) (w:World):Calls Tryz.prog 20 #[.agg (pktC p)] w fun e w'=>∃ x:Option Addr×Nat,e=.returned (.slice x.1 21 x.2)∧byteE.At w.heap.size x.1 21 x.2 (headL p++bodyL p) w'∧Since w w':=by
 have hp:pktC p=#[.int .i64 p.se,.int .i64 p.ep,.int .i64 p.sq,.int .i64 p.ak,.bool true,.int .i64 p.ki,.int .i64 p.a,.int .i64 p.b,.int .i64 p.c]:=by unfold pktC; rw [hh]
 rw [hp]
 have hm:=h0
 rw [may_has hh,Bool.and_eq_true] at hm
 have hb:=(head_iff p).1 hm.1
 have hg:=(msg_iff p).1 hm.2
 refine ent tab_ok [.a [.i .i64 p.se,.i .i64 p.ep,.i .i64 p.sq,.i .i64 p.ak,.b true,.i .i64 p.ki,.i .i64 p.a,.i .i64 p.b,.i .i64 p.c]] Tryz.func20 Tryz.ntmps20 rfl rfl ?_
 repeat' (first | refine gs_ ?_|((conv=>whnf); first | intro b | refine cd (by first | decide | omega) ?_|refine bto ?_|refine bfo ?_|refine And.intro ?_ ?_|refine wr (u8_m _ (by omega)) ?_|refine wr (u8_wrap _) ?_|refine wr_q ?_|refine opbo ⟨tab_ok⟩ byteE (headL p) [_,_,_,_,_,_,_,_] [.i .u8 1,.i .u8 (p.se % 256),.i .u8 (p.ep / 256 % 256),.i .u8 (p.ep % 256),.i .u8 (p.sq / 256 % 256),.i .u8 (p.sq % 256),.i .u8 (p.ak / 256 % 256),.i .u8 (p.ak % 256)] (by rfl) (by rfl) (by rfl) rfl rfl (fun g0=>?_)|refine opbn ⟨tab_ok⟩ 5 [_] [.i .u8 (p.ki % 256)] (by rfl) (by rfl) (by rfl) ?_|refine opap 0 1 (e:=5) (lo:=w.heap.size) (size:=1) (bytes:=1) (z:=.int .u8 0) (A:=rwO byteE w.heap.size (some ⟨g0,0,none⟩) 8 8 (headL p) true) (vals:=rowsOf byteE.c (headL p)) (cells:=[.int .u8 (p.ki % 256)]) (zs:=rowsOf byteE.c (headL p++[p.ki % 256])) (n2:=9) (fun A' c'=>rwO byteE w.heap.size A' 9 c' (headL p++[p.ki % 256]) true) (by rfl) (by rfl) (by rfl) (by rfl) rfl rfl (fun w h=>h) (fun A' c' w h=>h) (fun _ _=>rfl) (by rfl) (by rfl) (by rfl) (by rfl) Tryz.underlying29 (by kernel_rfl) rfl (by decide) (by decide) (by intro u hu; simp at hu; rcases hu with rfl; rfl) (by omega) (fun w hH=>hH.upd.size) rfl (by rw [rowsOf_append]; rfl) (fun A9 c9=>?_)|refine callN (f:=49) (ι:=Option Addr×Nat) (fun x=>.v (.slice x.1 4 x.2)) (fun x=>rwO byteE w.heap.size x.1 4 x.2 (fourL p.a) true) (fun w1 hH=>(numR p.a (by omega) w1).mono (by rintro e w' ⟨x,rfl,h1,h2⟩; exact ⟨x,rfl,Ek.base h1 hH.upd.size,h2,Ek.lows h1⟩)) (fun x1=>?_)|refine opapo 0 1 (e:=5) (lo:=w.heap.size) (size:=1) (bytes:=1) (z:=.int .u8 0) (A:=rwO byteE w.heap.size A9 9 c9 (headL p++[p.ki % 256]) true) (C:=rwO byteE w.heap.size x1.1 4 x1.2 (fourL p.a) true) (vals:=rowsOf byteE.c (headL p++[p.ki % 256])) (cells:=rowsOf byteE.c (fourL p.a)) (zs:=rowsOf byteE.c (headL p++[p.ki % 256]++fourL p.a)) (n2:=13) (fun A' c'=>rwO byteE w.heap.size A' 13 c' (headL p++[p.ki % 256]++fourL p.a) true) (by rfl) (by rfl) (by rfl) (by rfl) rfl rfl (fun w h=>h) (fun A' c' w h=>h) (fun _ _=>rfl) (by rfl) (fun w h=>Ek.reads h) Tryz.underlying29 (by kernel_rfl) rfl (by decide) (by decide) (rowsOf_one' byteE.one _) (by omega) (fun w hH=>hH.upd.size) rfl (by rw [← rowsOf_append]; try rfl) (fun A13 c13=>?_)|refine callN (f:=49) (ι:=Option Addr×Nat) (fun x=>.v (.slice x.1 4 x.2)) (fun x=>rwO byteE w.heap.size x.1 4 x.2 (fourL p.b) true) (fun w1 hH=>(numR p.b (by omega) w1).mono (by rintro e w' ⟨x,rfl,h1,h2⟩; exact ⟨x,rfl,Ek.base h1 hH.upd.size,h2,Ek.lows h1⟩)) (fun x2=>?_)|refine opapo 0 2 (e:=5) (lo:=w.heap.size) (size:=1) (bytes:=1) (z:=.int .u8 0) (A:=rwO byteE w.heap.size A13 13 c13 (headL p++[p.ki % 256]++fourL p.a) true) (C:=rwO byteE w.heap.size x2.1 4 x2.2 (fourL p.b) true) (vals:=rowsOf byteE.c (headL p++[p.ki % 256]++fourL p.a)) (cells:=rowsOf byteE.c (fourL p.b)) (zs:=rowsOf byteE.c (headL p++[p.ki % 256]++fourL p.a++fourL p.b)) (n2:=17) (fun A' c'=>rwO byteE w.heap.size A' 17 c' (headL p++[p.ki % 256]++fourL p.a++fourL p.b) true) (by rfl) (by rfl) (by rfl) (by rfl) rfl rfl (fun w h=>h) (fun A' c' w h=>h) (fun _ _=>rfl) (by rfl) (fun w h=>Ek.reads h) Tryz.underlying29 (by kernel_rfl) rfl (by decide) (by decide) (rowsOf_one' byteE.one _) (by omega) (fun w hH=>hH.upd.size) rfl (by rw [← rowsOf_append]; try rfl) (fun A17 c17=>?_)|refine callN (f:=49) (ι:=Option Addr×Nat) (fun x=>.v (.slice x.1 4 x.2)) (fun x=>rwO byteE w.heap.size x.1 4 x.2 (fourL p.c) true) (fun w1 hH=>(numR p.c (by omega) w1).mono (by rintro e w' ⟨x,rfl,h1,h2⟩; exact ⟨x,rfl,Ek.base h1 hH.upd.size,h2,Ek.lows h1⟩)) (fun x3=>?_)|refine opapo 0 3 (e:=5) (lo:=w.heap.size) (size:=1) (bytes:=1) (z:=.int .u8 0) (A:=rwO byteE w.heap.size A17 17 c17 (headL p++[p.ki % 256]++fourL p.a++fourL p.b) true) (C:=rwO byteE w.heap.size x3.1 4 x3.2 (fourL p.c) true) (vals:=rowsOf byteE.c (headL p++[p.ki % 256]++fourL p.a++fourL p.b)) (cells:=rowsOf byteE.c (fourL p.c)) (zs:=rowsOf byteE.c (headL p++bodyL p)) (n2:=21) (fun A' c'=>rwO byteE w.heap.size A' 21 c' (headL p++bodyL p) true) (by rfl) (by rfl) (by rfl) (by rfl) rfl rfl (fun w h=>h) (fun A' c' w h=>h) (fun _ _=>rfl) (by rfl) (fun w h=>Ek.reads h) Tryz.underlying29 (by kernel_rfl) rfl (by decide) (by decide) (rowsOf_one' byteE.one _) (by omega) (fun w hH=>hH.upd.size) rfl (by rw [← rowsOf_append]; try rfl) (fun A21 c21=>?_)|refine fin fun w' hH=>⟨(A21,c21),rfl,Hold.ob hH (A:=rwO byteE w.heap.size A21 21 c21 (headL p++bodyL p) true) 0 rfl,hH.upd.since⟩|refine fin_s ?_))
end Mg
namespace Fw
open Go.RowKit
open Cm Byt Mem Cw Fm
def NewB (zs:List Int) (w:World) (e:Ending) (w':World):Prop :=
 ∃ A c,e=.returned (.slice A zs.length c)∧w'.ownsRow w.heap.size 5 1 (.slice A zs.length c) zs.length (cells zs)∧Below w.heap.size w w'
theorem infoB:(Tryz.prog.info? 5).map (fun i=>(i.zero,i.size,i.bytes))=some (some (.int .u8 0),1,1):=by kernel_rfl
theorem own_lit (w:World) (e:TypeId) (zs:List Int) (n:Nat) (h:zs.length=n) (hn:n≤1000):(w.alloc (.cells (cells zs).toArray e)).ownsRow w.heap.size e 1 (.slice (some ⟨w.heap.size,0,none⟩) n n) n (cells zs):=by
 have hc:(cells zs).length=n:=by simp [cells,h]
 refine ⟨by omega,.inr ⟨w.heap.size,n,(cells zs).toArray,rfl,Nat.le_refl _,heap_alloc_new w _,Nat.le_refl _,by unfold maxLen; omega,by simp [hc], ?_⟩⟩
 rw [List.take_of_length_le]
 simp [hc]
theorem BV.lit (w:World) (t:TypeId) (fr:Nat×Nat) (zs:List Int) (n:Nat) (hl:zs.length=n) (hn:n≤1000) (hB:∀ z∈zs,isB z):BV (w.alloc (.cells (cells zs).toArray t fr)) (some ⟨w.heap.size,0,none⟩) n zs:=by
 refine ⟨hl,by omega,hB,.inr ⟨_,0,rfl,by simp,fun j hj=>?_⟩⟩
 have h:=cell_of_row (w.alloc (.cells (cells zs).toArray t fr)) w.heap.size (0+j) _ _ _ (heap_alloc_new w _)
 rw [h,Nat.zero_add]
 simpa using cells_at zs j (by omega)
set_option maxHeartbeats 1000000 in
set_option maxRecDepth 100000 in
theorem frameR (a:Option Addr) (n cap:Nat) (zs:List Int) (w:World) (h:BV w a n zs) (hn:n≤1000) :
  Calls Tryz.prog 19 #[.slice a n cap] w (NewB (frm zs) w):=by
 have HL:=Lib.hid h.1
 go_enter Tryz.func19,Tryz.ntmps19
 go_wp2_with (at_builtin; refine wpList_append_b _ rfl (.tmp 8) (.tmp 9) _ rfl w.heap.size 5 Tryz.underlying29 infoB (.slice (some ⟨w.heap.size,0,none⟩) 2 2) 2 [165,(n:Int) % 256] rfl (own_lit w _ [165,(n:Int) % 256] 2 rfl (by omega)) a n cap zs rfl (h.alloc _) (by omega) (by simp) ?_; intro A1 c1 w1 hown1 hg1 hb1)
 have hB:=h.2.2.1
 have ehd:[165,(n:Int) % 256]++zs=hd zs:=by
  have:=HL.out
  rw [← this]; rfl
 rw [ehd] at hown1
 have q1:BV w1 A1 (2+n) (hd zs):=BV.of_own hown1 (hd_isB hB)
 have HE:=Lib.hid ehd
 clear ehd
 refine (crcR _ _ _ _ _ q1).mono ?_
 rintro e _ ⟨rfl,rfl⟩
 have hlo:=crcN_lo (hd zs)
 have hhi:=crcN_hi (hd zs)
 generalize hN:crcN (hd zs)=N at hlo hhi
 have HN:=Lib.hid hN
 clear hN
 obtain ⟨M,rfl⟩:=Int.eq_ofNat_of_zero_le hlo
 have e1:bits .and .u32 ((M:Int) / 65536) 255=(M:Int) / 65536 % 256:=by
  have h1:=u32_and_nat (M / 65536) 255 (by omega) (by omega)
  have h2:M / 65536 &&& 255=M / 65536 % 256:=Nat.and_two_pow_sub_one_eq_mod (M / 65536) 8
  rw [h2] at h1
  have h3:((M / 65536:Nat):Int)=(M:Int) / 65536:=by omega
  rw [h3] at h1
  rw [show ((255:Nat):Int)=255 from rfl] at h1
  rw [h1]; omega
 have e2:bits .and .u32 ((M:Int) / 256) 255=(M:Int) / 256 % 256:=by
  have h1:=u32_and_nat (M / 256) 255 (by omega) (by omega)
  have h2:M / 256 &&& 255=M / 256 % 256:=Nat.and_two_pow_sub_one_eq_mod (M / 256) 8
  rw [h2] at h1
  have h3:((M / 256:Nat):Int)=(M:Int) / 256:=by omega
  rw [h3] at h1
  rw [show ((255:Nat):Int)=255 from rfl] at h1
  rw [h1]; omega
 have e3:bits .and .u32 (M:Int) 255=(M:Int) % 256:=by
  have h1:=u32_and_nat M 255 (by omega) (by omega)
  have h2:M &&& 255=M % 256:=Nat.and_two_pow_sub_one_eq_mod M 8
  rw [h2] at h1
  rw [show ((255:Nat):Int)=255 from rfl] at h1
  rw [h1]; omega
 have HB1:=Lib.hid hb1
 clear hhi
 go_wp2_with (at_builtin; refine wpList_append_b _ rfl (.tmp 13) (.tmp 28) _ rfl w.heap.size 5 Tryz.underlying29 infoB (.slice A1 (2+n) c1) (2+n) (hd zs) rfl (hown1.alloc _) (some ⟨w1.heap.size,0,none⟩) 4 4 (be4 (M:Int)) rfl (BV.lit w1 5 (0,0) (be4 (M:Int)) 4 rfl (by omega) (be4_isB _)) (by omega) ?bs ?_; (case bs=>have:=hb1.size; simp at this ⊢; omega); intro A2 c2 w2 hown2 hg2 hb2)
 go_ret
 have hlen:(frm zs).length=2+n+4:=by rw [frm_length,HL.out]; omega
 have hfr:hd zs++be4 (M:Int)=frm zs:=by unfold frm; rw [HN.out]
 refine ⟨A2,c2,by rw [hlen]; rfl, ?_, ?_⟩
 ·rw [hlen,← hfr]; exact hown2
 ·exact (((Below.refl _ _).alloc (Nat.le_refl _) _).trans HB1.out).alloc (by have:=HB1.out.size; simp at this; omega) _ |>.trans hb2
end Fw
namespace Gw
open Go.RowKit Ba Mem En Go.Proofs.YtepfmfalebmcnaaGreatDoor.Ty Mg
open Fm (frm)
open Co (Hold.ob)
set_option maxRecDepth 100000
attribute [local irreducible] Go.Calls
def helP (n a:Int):PktV:=⟨n,0,0,0,true,1,a,0,0⟩
theorem bytes_b (p:PktV) (hh:p.has=true):bytesOf p=headL p++bodyL p:=by unfold bytesOf; rw [if_pos hh]
theorem frmE {lo:Nat} (A:Option Addr) (c:Nat) (zs:List Int) (n m:Nat) (w:World) (h:byteE.At lo A n c zs w) (hb:∀ z∈zs,Byt.isB z) (hn:n≤1000) (hl:(frm zs).length=m):Calls Tryz.prog 19 #[.slice A n c] w fun e w'=>∃ x:Option Addr×Nat,e=.returned (.slice x.1 m x.2)∧byteE.At w.heap.size x.1 m x.2 (frm zs) w'∧Since w w' :=
 (Fw.frameR A n c zs w (Byt.BV.of_own (byte_own.1 h) hb) hn).mono (by
  rintro e w' ⟨A',c',rfl,h1,h2⟩
  rw [hl] at h1 ⊢
  exact ⟨(A',c'),rfl,byte_own.2 h1,h2⟩)
end Gw
namespace Gw
open Go.RowKit Ba Mem En Go.Proofs.YtepfmfalebmcnaaGreatDoor.Ty Mg
open Fm (frm frames)
open Byt (BV)
open Co (newK Hold.ob KV)
set_option maxRecDepth 100000
attribute [local irreducible] Go.Calls
theorem outs_one {os:List OutD} {i:Int} {zs:List Int} (h:outsV os=[(i,zs)]):∃ A c,os=[⟨i,A,c,zs⟩]:=by
 cases os with
 | nil=>cases h
 | cons o r =>
  cases r with
  | cons _ _=>simp [outsV] at h
  | nil =>
   obtain ⟨s,A,c,z⟩:=o
   simp only [outsV,List.map_cons,List.map_nil,List.cons.injEq,Prod.mk.injEq,and_true] at h
   obtain ⟨rfl,rfl⟩:=h
   exact ⟨A,c,rfl⟩
section
variable {gq M N:Nat} {c:CfgV} {x:Gp} {ep sa sb:Int} {K:KV} {xs:List Int} {Sk Ss:List Nat} {D:Fam} {w:World} {dA:Option Addr} {dn dc:Nat}
theorem newX (c:CfgV) (w:World):Calls Tryz.prog 21 #[(aCfg c)] w fun e w'=>∃ y:Nat×Gp×List Nat,e=.returned (.pointer (some ⟨y.1,0,none⟩))∧GWt y.1 c y.2.1 0 0 (newK c) 0 [] y.2.2 (fun _=>none) [y.2.1.s] w'∧Since w w'∧∀ g∈gwF y.1 y.2.1 y.2.2 (fun _=>none) [y.2.1.s],w.heap.size≤g :=
 (newG c w).mono (by
  rintro e w' ⟨gq,x,Sk,rfl,h1,h2,h3,h4,h5,h6,h7,h8⟩
  exact ⟨(gq,x,Sk),rfl,⟨h1,h2,h3,h6,h7,h8⟩,h4,h5⟩)
end
end Gw
namespace Gw
open Go.RowKit Ba Mem En Go.Proofs.YtepfmfalebmcnaaGreatDoor.Ty
open Fm (frames)
open Byt (BV isB)
open Co (KV newK Hold.ob)
set_option maxRecDepth 100000
attribute [local irreducible] Go.Calls
theorem hold_tb {a:Option Addr} {len nt:Nat} {ss:Nat→StepD} {w:World} (h:StR a len ss w) (ht:Lib.TabIs Tryz.prog w "internal/strconv.uint64pow10" .u64 Lib.pow10Tab):Hold ⟨Tryz.prog,tab,[],w,nt,[]⟩ [] [stO a len ss,tbO] w :=
 Hold.addObj (hold_st h) tbO ht (by intro k; cases k) (by intro r hr; cases hr) (by intro A hA k; rw [List.mem_singleton] at hA; subst hA; rcases k with k | k <;> cases k)
def gs0 (c:CfgV):Gs:=⟨(newK c,fun _=>none),0,[]⟩
def gm0 (x:Gp) (Sk:List Nat):Gm:=⟨Sk,fun _=>none,[x.s],0,0⟩
theorem newS (c:CfgV) (w:World):Calls Tryz.prog 21 #[(aCfg c)] w fun e w'=>∃ y:Nat×Gp×List Nat,e=.returned (.pointer (some ⟨y.1,0,none⟩))∧(gsO y.1 c y.2.1 0 (gm0 y.2.1 y.2.2) (gs0 c) true).st w'∧Since w w'∧∀ g∈(gsO y.1 c y.2.1 0 (gm0 y.2.1 y.2.2) (gs0 c) true).F,w.heap.size≤g :=
 (newX c w).mono (by
  rintro e w' ⟨y,rfl,h1,h2,h3⟩
  exact ⟨y,rfl,⟨h1,rfl,Nat.le_refl _,Nat.le_refl _⟩,h2,h3⟩)
section
variable {X:Cx} {m:List Row} {ob:List Asr} {w:World}
theorem hz_st (hH:Hold X m ob w) {i j:Nat} {a:Option Addr} {len k gq B:Nat} {ss:Nat→StepD} {c:CfgV} {x:Gp} {mm:Gm} {g:Gs} (hA:ob[i]?=some (stO a len ss)) (hB:ob[j]?=some (gsO gq c x B mm g true)) (hij:i≠j) (hk:k < len):BV w (ss k).A (ss k).n (ss k).d∧∀ y∈rdF (ss k).A (ss k).n,y∉gmF gq x mm :=
 ⟨StR.d (hH.obj _ (List.mem_of_getElem? hA)) k hk,fun y hy=>pair_at (R:=DisR) (fun _ _ h=>h.symm) hH.dis hA hB hij (.inr rfl) y (stF_at hk y hy)⟩
end
theorem n64_of {I:Int} (h:(Lit.int .i64 I).wf=true):n64 I:=by
 have h1:IntKind.i64.min = -9223372036854775808:=by decide
 have h2:IntKind.i64.max=9223372036854775807:=by decide
 simp [Lit.wf] at h
 unfold n64
 omega
theorem sz_at {H:Type} {P:Program} {ts:List TypeId} {ds:List (DataW H)} (h:(DataW.weightsEach P ts ds).all (·≤reachBytes)=true) {j:Nat} {t:TypeId} {d:DataW H} (ht:ts[j]?=some t) (hd:ds[j]?=some d):∀ u∈d.weights P t,u≤reachBytes:=fun u hu=>by
  have:=List.all_eq_true.1 h u (DataW.weights_mem_each ht hd u hu)
  exact of_decide_eq_true this
theorem steps_in {H:Type} {enc:TypeId×Value→H} {x:DataW H×List MemPlace} {a:Option Addr} {len cap:Nat} {w:World} (hx:∃ m,DataW.trod enc Tryz.prog w 0 (fun _=>true) true m 24 (Value.cells (.slice a len cap)).toList=some x) (hU:∀ u∈x.1.weights Tryz.prog 24,u≤reachBytes):∃ ss,StR a len ss w∧(∀ i,i < len→StepW (ss i))∧len≤9223372036854775807:=by
 obtain ⟨m,hm⟩:=hx
 exact steps_open hm (fun u hu=>hU u hu)
section
variable {gq B:Nat} {c:CfgV} {x:Gp} {m:Gm} {g:Gs} {w:World}
end
end Gw
namespace Opn
open Go.RowKit
section
variable {P:Program} {W:World} {base:Nat}
theorem open_agg {t:TypeId} {v:Value} {ts:List TypeId} {fs} (hu:P.underlying t=some (.struct fs)) (hts:P.cellTypes P.depth t=some ts) (hn:P.cellsOf t=ts.length) (h:Value.okWide P W .any base t v) :
  ∃ cs:Array Value,v=.agg cs∧cs.size=ts.length∧∀ (i:Nat) (u:TypeId),ts[i]?=some u→∃ c,cs[i]?=some c∧Cell.okWide P W .any base u c:=by
 unfold Value.okWide at h
 rw [hu] at h
 obtain ⟨cs,rfl,hsz,ts',hts',_,hc⟩:=h
 rw [hts] at hts'
 obtain rfl:ts=ts':=by injection hts'
 refine ⟨cs,rfl,by omega,fun i u hi=>?_⟩
 obtain ⟨hlt,_⟩:=List.getElem?_eq_some_iff.1 hi
 have hcs:cs[i]?=some (cs[i]'(by omega)):=Array.getElem?_eq_getElem (by omega)
 obtain ⟨u',hu',hok⟩:=hc i _ hcs
 rw [Nat.mod_eq_of_lt hlt,hi] at hu'
 obtain rfl:u=u':=by injection hu'
 exact ⟨_,hcs,hok⟩
theorem cell_int {u:TypeId} {k:IntKind} {c:Value} (hu:P.underlying u=some (.int k)) (h:Cell.okWide P W .any base u c):∃ x,c=.int k x∧(Lit.int k x).wf=true:=by
 unfold Cell.okWide at h
 rw [hu] at h
 simp only at h
 unfold Cell.ok at h
 rw [hu] at h
 cases c with
 | int k' x =>
  simp only at h
  obtain ⟨rfl,hx⟩:=h
  exact ⟨x,rfl,by simpa [Lit.wf,IntKind.has] using hx⟩
 | _=>simp at h
theorem cell_bool {u:TypeId} {c:Value} (hu:P.underlying u=some .bool) (h:Cell.okWide P W .any base u c):∃ x,c=.bool x:=by
 unfold Cell.okWide at h
 rw [hu] at h
 simp only at h
 unfold Cell.ok at h
 rw [hu] at h
 cases c with
 | bool x=>exact ⟨x,rfl⟩
 | _=>simp at h
theorem arr_of {cs:Array Value} {l:List Value} (hn:cs.size=l.length) (h:∀ (i:Nat) (c:Value),l[i]?=some c→cs[i]?=some c):cs=l.toArray:=by
 apply Array.ext_getElem?
 intro i
 rcases Nat.lt_or_ge i l.length with hi | hi
 ·have e:=List.getElem?_eq_getElem hi
  rw [h i _ e]
  simp [hi]
 ·rw [Array.getElem?_eq_none (by omega)]
  simp [hi]
def Each (cs:Array Value) (i:Nat) (l:List Value):Prop:=∀ (j:Nat) (c:Value),l[j]?=some c→cs[i+j]?=some c
theorem each_nil {cs:Array Value} {i:Nat}:Each cs i []:=fun _ _ h=>by simp at h
theorem each_cons {cs:Array Value} {i:Nat} {c:Value} {l:List Value} (h:cs[i]?=some c) (k:Each cs (i+1) l):Each cs i (c::l):=by
 intro j d hd
 cases j with
 | zero =>
  have:c=d:=by simpa using hd
  subst this; exact h
 | succ j =>
  have e:i+(j+1)=i+1+j:=by omega
  rw [e]
  exact k j d (by simpa using hd)
theorem arr_each {cs:Array Value} {l:List Value} (hn:cs.size=l.length) (h:Each cs 0 l):cs=l.toArray :=
 arr_of hn fun i c hi=>by have:=h i c hi; rwa [Nat.zero_add] at this
end
end Opn
namespace Opn
open Go
section
variable {P:Program} {W:World} {base:Nat}
theorem cell_slice {u e:TypeId} {c:Value} (hu:P.underlying u=some (.slice e)) (h:Cell.okWide P W .any base u c):∃ a n m,c=.slice a n m:=by
 unfold Cell.okWide at h
 rw [hu] at h
 cases c <;> simp_all [Cell.ok]
end
end Opn
namespace Gw
open Go.RowKit Ba Mem En Go.Proofs.YtepfmfalebmcnaaGreatDoor.Ty Tm
open Ri (MsgV)
open Mg (PktV)
open Fm (frames)
open Ln (LkV winV mx2)
open Co (KV KI KT EvV ansK hearK goneK tickK tickE inC newK setK stepK foldK tkK1 grantK grK)
open Lc (PI CI UQ)
set_option maxRecDepth 100000
def Ses (K:KV) (s:Int):Prop:=(∃ l∈K.L,l.se=s)∨∃ a∈K.Q,a.se=s
theorem grA_mem {K:KV} {a:AskV} (h:Co.grA K=some a):a∈K.Q:=by
 unfold Co.grA at h
 split at h
 ·cases h
 ·split at h
  ·rename_i hf
   split at h
   ·cases h
   ·cases h; exact Co.first_mem hf
  ·cases h
section
variable {K:KV} {s t:Int}
theorem ses_gone (hU:UQ K) (h:Ses (goneK K s) t):Ses K t∧t≠s:=by
 rcases h with ⟨l,hl,rfl⟩ | ⟨a,ha,rfl⟩
 ·have:=Lc.end_ne hU s l hl
  exact ⟨.inl ⟨l,this.1,rfl⟩,this.2⟩
 ·have ha:a∈Qu.dropL K.Q s:=ha
  rw [Lc.drop_filter hU.q] at ha
  have:=List.mem_filter.1 ha
  exact ⟨.inr ⟨a,this.1,rfl⟩,by simpa using this.2⟩
theorem ses_set {l:LeaseV} {o:Bool} (h:Ses (setK K l o) t):Ses K t∨t=l.se:=by
 unfold Co.setK at h
 split at h
 ·rcases h with ⟨y,hy,rfl⟩ | ⟨a,ha,rfl⟩
  ·unfold Co.endK at hy
   split at hy
   ·exact .inl (.inl ⟨y,(Co.end_sub _ _).subset hy,rfl⟩)
   ·exact .inl (.inl ⟨y,hy,rfl⟩)
  ·rw [Co.endK_Q] at ha
   exact .inl (.inr ⟨a,ha,rfl⟩)
 ·rcases h with ⟨y,hy,rfl⟩ | ⟨a,ha,rfl⟩
  ·rcases Co.set_mem hy with hy | rfl
   ·exact .inl (.inl ⟨y,hy,rfl⟩)
   ·exact .inr rfl
  ·exact .inl (.inr ⟨a,ha,rfl⟩)
theorem ses_hear {m:MsgV} (h:Ses (hearK K s m) t):Ses K t:=by
 unfold Co.hearK at h
 split at h
 ·rename_i hh
  rcases ses_set h with h | h
  ·exact h
  ·have h1:=Co.has_mem hh
   have h2:(Co.hearR K (Le.ofL K.L s) m).1.se=(Le.ofL K.L s).se:=(Co.hearV_ca _ _ _ _ _).2
   exact .inl ⟨_,h1.1,by rw [h,h2]⟩
 ·exact h
theorem ses_ans {a:AskV} (h:Ses (ansK K a) t):Ses K t∨t=a.se:=by
 rcases h with h | ⟨b,hb,rfl⟩
 ·exact .inl (.inl h)
 ·have hb:b∈Co.ansQ K a:=hb
  unfold Co.ansQ at hb
  split at hb
  ·split at hb
   ·exact .inl (.inr ⟨b,hb,rfl⟩)
   ·rcases Co.put_mem hb with hb | rfl
    ·exact .inl (.inr ⟨b,hb,rfl⟩)
    ·exact .inr rfl
  ·exact .inl (.inr ⟨b,hb,rfl⟩)
theorem ses_fold:∀ (ls:List LeaseV) (x:KV×List EvV),Ses (ls.foldl stepK x).1 t→Ses x.1 t∨∃ l∈ls,l.se=t
 | [],_,h=>.inl h
 | l::r,x,h=>by
  rw [List.foldl_cons] at h
  rcases ses_fold r _ h with h | ⟨y,hy,e⟩
  ·have h:Ses (setK x.1 (Co.stepR x.1 l).1 (Co.stepR x.1 l).2.2) t:=h
   rcases ses_set h with h | h
   ·exact .inl h
   ·exact .inr ⟨l,List.mem_cons_self ..,by rw [h]; exact (Co.tickV_ca _ _ _ _).2.symm⟩
  ·exact .inr ⟨y,List.mem_cons_of_mem _ hy,e⟩
theorem ses_grant (h:Ses (grantK K) t):Ses K t:=by
 unfold Co.grantK at h
 split at h
 ·exact h
 ·rename_i a ha
  have hm:=grA_mem ha
  rcases h with ⟨y,hy,rfl⟩ | ⟨b,hb,rfl⟩
  ·change y∈Le.putL _ _ _ at hy
   unfold Le.putL at hy
   split at hy
   ·rcases List.mem_append.1 hy with hy | hy
    ·exact .inl ⟨y,hy,rfl⟩
    ·rw [List.mem_singleton] at hy
     subst hy
     exact .inr ⟨a,hm,rfl⟩
   ·exact .inl ⟨y,hy,rfl⟩
  ·have hb:b∈Qu.dropL K.Q a.se:=hb
   exact .inr ⟨b,(Co.drop_sub _ _).subset hb,rfl⟩
theorem ses_tick (h:Ses (tickK K) t):Ses K t:=by
 rcases ses_fold _ (tkK1 K,[]) (ses_grant h) with h | ⟨l,hl,e⟩
 ·exact h
 ·exact .inl ⟨l,List.mem_of_mem_take hl,e⟩
theorem tick_nowK (h:0≤K.G.now∧K.G.now≤1000000):(tickK K).G.now=K.G.now+1:=by
 show (grantK _).G.now=_
 rw [Lc.grant_now,Lc.fold_now,Lc.tk1_now K h]
end
structure SI (c:CfgV) (ep:Int) (x:Kv):Prop where
 u:UQ x.1
 nw:0≤x.1.G.now∧x.1.G.now≤1000000
 ep:∀ i v,x.2 i=some v→1≤v.k.ep∧v.k.ep≤ep
 he:∀ i v,x.2 i=some v→(0≤v.k.he∧v.k.he≤x.1.G.now)∧v.k.c=c
 ls:∀ s,Ses x.1 s→(x.2 s).isSome=true
section
variable {c:CfgV} {ep:Int} {x:Kv}
theorem SI.more {ep':Int} (h:SI c ep x) (he:ep≤ep'):SI c ep' x:=⟨h.u,h.nw,fun i v hv=>⟨(h.ep i v hv).1,Int.le_trans (h.ep i v hv).2 he⟩,h.he,h.ls⟩
theorem SI.gone (h:SI c ep x) (i:Int):SI c ep (endV x i):=by
 have hn:(endV x i).1.G.now=x.1.G.now:=Lc.end_now x.1 i
 refine ⟨h.u.gone i,by rw [hn]; exact h.nw,fun j v hj=>h.ep j v (end_sub hj),fun j v hj=>by rw [hn]; exact h.he j v (end_sub hj),fun s hs=>?_⟩
 obtain ⟨h1,h2⟩:=ses_gone h.u hs
 show (setV x.2 i none s).isSome=true
 unfold setV
 rw [if_neg h2]
 exact h.ls s h1
theorem SI.put (h:SI c ep x) (i:Int) (v:SeV) (h1:1≤v.k.ep∧v.k.ep≤ep) (h2:(0≤v.k.he∧v.k.he≤x.1.G.now)∧v.k.c=c):SI c ep (x.1,setV x.2 i (some v)):=by
 refine ⟨h.u,h.nw,fun j u hj=>?_,fun j u hj=>?_,fun s hs=>?_⟩
 ·by_cases hi:j=i
  ·simp [setV,hi] at hj; subst hj; exact h1
  ·simp [setV,hi] at hj; exact h.ep j u hj
 ·by_cases hi:j=i
  ·simp [setV,hi] at hj; subst hj; exact h2
  ·simp [setV,hi] at hj; exact h.he j u hj
 ·show (setV x.2 i (some v) s).isSome=true
  unfold setV
  split
  ·rfl
  ·exact h.ls s hs
theorem SI.tell1 (h:SI c ep x) (e:EvV):SI c ep (tell1 x e):=by
 unfold Gw.tell1
 cases hv:x.2 e.s with
 | none=>exact h
 | some v =>
  simp only []
  split
  ·exact h.put e.s _ (show 1≤v.k.ep∧v.k.ep≤ep from h.ep _ _ hv) (show (0≤v.k.he∧v.k.he≤x.1.G.now)∧v.k.c=c from h.he _ _ hv)
  ·exact h.gone _
theorem SI.tell:∀ (es:List EvV) {x:Kv},SI c ep x→SI c ep (tellF x es)
 | [],_,h=>h
 | e::r,_,h=>SI.tell r (h.tell1 e)
theorem SI.kset (h:SI c ep x) {K:KV} (hu:UQ K) (hn:K.G.now=x.1.G.now) (hs:∀ s,Ses K s→(x.2 s).isSome=true):SI c ep (K,x.2) :=
 ⟨hu,by show 0≤K.G.now∧_; rw [hn]; exact h.nw,h.ep,fun i v hv=>by show (_∧_≤K.G.now)∧_; rw [hn]; exact h.he i v hv,hs⟩
theorem SI.born (h:SI c ep x) (i:Int) (m:MsgV) {e:Int} (h1:1≤e) (h2:ep≤e):SI c e (bornK c x e i m):=by
 refine SI.tell1 (SI.put (h.more h2) i _ ⟨h1,Int.le_refl _⟩ ⟨⟨cl_lo _, ?_⟩,rfl⟩) _
 show cl x.1.G.now≤x.1.G.now
 rw [cl_id _ h.nw.1 (by have:=h.nw.2; omega)]
 exact Int.le_refl _
theorem SI.wel (h:SI c ep x) (he:0≤ep∧ep < 65535) (i:Int) (m:MsgV):SI c (welK c x ep i m).2 (welK c x ep i m).1:=by
 have e1:=nxE_one he
 unfold welK
 cases x.2 i with
 | none=>exact h.born i m (e:=nxE ep) (by omega) (by omega)
 | some v =>
  simp only []
  split
  ·exact h
  ·exact (h.gone i).born i m (e:=nxE ep) (by omega) (by omega)
theorem recv_k (v:SeV) (p:PktV) (now:Int) (b:Bool) (h:0≤v.k.he∧v.k.he≤now) (hn:0≤now∧now≤1000000):(recvS v p now b).k.ep=v.k.ep∧(recvS v p now b).k.c=v.k.c∧0≤(recvS v p now b).k.he∧(recvS v p now b).k.he≤now:=by
 have hc:cl now=now:=cl_id _ hn.1 (by omega)
 have hx:0≤mx2 v.k.he (cl now)∧mx2 v.k.he (cl now)≤now:=by rw [hc]; unfold Ln.mx2; split <;> omega
 show (Ln.recvK _ _ _ _).ep=_∧(Ln.recvK _ _ _ _).c=_∧0≤(Ln.recvK _ _ _ _).he∧(Ln.recvK _ _ _ _).he≤_
 unfold Ln.recvK Ln.hearK
 (repeat' split) <;> first | exact ⟨rfl,rfl,hx.1,hx.2⟩|exact ⟨rfl,rfl,h.1,h.2⟩
theorem SI.recv (h:SI c ep x) {i:Int} {v:SeV} (hv:x.2 i=some v) (p:PktV) (b:Bool):SI c ep (x.1,setV x.2 i (some (recvS v p x.1.G.now b))):=by
 obtain ⟨a1,a2,a3,a4⟩:=recv_k v p x.1.G.now b (h.he i v hv).1 h.nw
 exact h.put i _ (by rw [a1]; exact h.ep i v hv) ⟨⟨a3,a4⟩,a2.trans (h.he i v hv).2⟩
theorem SI.said (h:SI c ep x) {i:Int} (hi:(x.2 i).isSome=true) (f:Int) (m:MsgV):SI c ep (saidK x.1 i f m,x.2):=by
 unfold saidK
 split
 ·exact h.kset (h.u.ans _) rfl (fun s hs=>by
   rcases ses_ans hs with hs | rfl
   ·exact h.ls s hs
   ·exact hi)
 ·split
  ·exact h.kset (h.u.hear _ _) (Lc.hear_now _ _ _) (fun s hs=>h.ls s (ses_hear hs))
  ·exact h
theorem SI.come (h:SI c ep x) (he:0≤ep∧ep < 65535) (p:PktV):SI c (comeK c x ep p).2 (comeK c x ep p).1:=by
 unfold comeK
 split
 ·exact h.wel he _ _
 ·cases hv:x.2 p.se with
  | none=>exact h
  | some v =>
   simp only []
   split
   ·have h1:=h.recv hv p true
    exact SI.tell _ (h1.said (i:=p.se) (by show (setV _ _ _ _).isSome=true; simp [setV]) v.h.b (msgP p))
   ·exact h.recv hv p v.hd
theorem SI.run:∀ (ps:List (List Int)) {x:Kv×Int},0≤x.2→x.2+ps.length≤65535→SI c x.2 x.1→SI c (runL c x ps).2 (runL c x ps).1
 | [],_,_,_,h=>h
 | p::r,x,h1,h2,h=>by
  show SI c (runL c (if (Mg.getV p).2=0 then comeK c x.1 x.2 (Mg.getV p).1 else x) r).2 (runL c (if (Mg.getV p).2=0 then comeK c x.1 x.2 (Mg.getV p).1 else x) r).1
  simp only [List.length_cons] at h2
  split
  ·have h3:=come_ep c x.1 x.2 (Mg.getV p).1
   have h4:=nxE_one (e:=x.2) (by omega)
   exact SI.run r (by omega) (by omega) (h.come (by omega) _)
  ·exact SI.run r h1 (by omega) h
theorem SI.tickS {x:Ko} (h:SI c ep x.1) (i:Int):SI c ep (tickS x i).1:=by
 unfold Gw.tickS
 cases hv:x.1.2 i with
 | none=>exact h
 | some v =>
  simp only []
  split
  ·exact h.gone i
  ·have e:(pollS v x.1.1.G.now).k.ep=v.k.ep∧(pollS v x.1.1.G.now).k.he=v.k.he∧(pollS v x.1.1.G.now).k.c=v.k.c:=by
    show (Ln.pollK _ _ _).ep=_∧(Ln.pollK _ _ _).he=_∧(Ln.pollK _ _ _).c=_
    unfold Ln.pollK
    (repeat' split) <;> exact ⟨rfl,rfl,rfl⟩
   exact h.put i _ (by rw [e.1]; exact h.ep i v hv) (by rw [e.2.1,e.2.2]; exact h.he i v hv)
theorem SI.tickL:∀ (ks:List Int) {x:Ko},SI c ep x.1→SI c ep (tickL x ks).1
 | [],_,h=>h
 | k::r,_,h=>SI.tickL r (h.tickS k)
theorem SI.tk (h:SI c ep x) (hn:x.1.G.now < 1000000):SI c ep (tickK x.1,x.2):=by
 have e:=tick_nowK h.nw
 have h0:=h.nw
 exact ⟨h.u.tick,by show 0≤(tickK x.1).G.now∧(tickK x.1).G.now≤_; rw [e]; omega,h.ep,fun i v hv=>by
  show (_∧_≤(tickK x.1).G.now)∧_
  rw [e]
  have:=h.he i v hv
  exact ⟨⟨this.1.1,by omega⟩,this.2⟩,fun s hs=>h.ls s (ses_tick hs)⟩
end
structure QI (c:CfgV) (n0:Int) (j:Nat) (x:Kv):Prop where
 now:x.1.G.now=n0+j
 he:∀ i v,x.2 i=some v→(0≤i∧i < 64)∧v.k.he≤n0
 de:1≤j→∀ i v,x.2 i=some v→x.1.G.now < v.k.he+cl c.de
theorem QI.none {c:CfgV} {ep n0:Int} {j:Nat} {x:Kv} (h:QI c n0 j x) (hs:SI c ep x) (hj:(cl c.de:Int) < j):(∀ i,x.2 i=Option.none)∧x.1.L=[]∧x.1.Q=[]:=by
 have hcd:=cl_lo c.de
 have h0:∀ i,x.2 i=Option.none:=fun i=>by
  cases hv:x.2 i with
  | none=>rfl
  | some v =>
   have h1:=h.de (by omega) i v hv
   have h2:=(h.he i v hv).2
   have h3:=h.now
   omega
 refine ⟨h0, ?_, ?_⟩
 ·cases hl:x.1.L with
  | nil=>rfl
  | cons l r =>
   have:=hs.ls l.se (.inl ⟨l,by rw [hl]; exact List.mem_cons_self ..,rfl⟩)
   rw [h0] at this; cases this
 ·cases hl:x.1.Q with
  | nil=>rfl
  | cons a r =>
   have:=hs.ls a.se (.inr ⟨a,by rw [hl]; exact List.mem_cons_self ..,rfl⟩)
   rw [h0] at this; cases this
end Gw
namespace Gw
open Go.RowKit Ba Mem En Go.Proofs.YtepfmfalebmcnaaGreatDoor.Ty
open Fm (frames)
open Byt (BV isB)
open Co (KV newK Hold.ob NrP toNp Nr)
set_option maxRecDepth 100000
theorem set_same {α:Type} {ls:List α} {k:Nat} {x:α} (h:ls[k]?=some x):ls.set k x=ls:=by
 obtain ⟨hk,rfl⟩:=List.getElem?_eq_some_iff.1 h
 exact List.set_getElem_self hk
attribute [local irreducible] Go.Calls doV tickG
end Gw
end Go.Proofs.YtepfmfalebmcnaaGreatDoor
