/-
  Wanted: part 17.
  No condition.
-/
import Derived.Test.YtepfmfalebmcnaaGreatDoorQH16
set_option linter.all false
namespace Go.Proofs.YtepfmfalebmcnaaGreatDoor
namespace Gw
open Go.RowKit Ba Mem En Go.Proofs.YtepfmfalebmcnaaGreatDoor.Ty Tm
open Ri (MsgV)
open Mg (PktV)
open Fm (frames)
open Ln (LkV winV mx2)
open Co (KV KI KT EvV ansK hearK goneK tickK tickE inC newK setK stepK foldK tkK1 grantK grK)
open Lc (PI CI UQ)
set_option maxRecDepth 100000
def Ses (K:KV) (s:Int):Prop:=(∃ l∈K.L,l.se=s)∨∃ a∈K.Q,a.se=s
theorem grA_mem {K:KV} {a:AskV} (h:Co.grA K=some a):a∈K.Q:=by
 unfold Co.grA at h
 split at h
 ·cases h
 ·split at h
  ·rename_i hf
   split at h
   ·cases h
   ·cases h; exact Co.first_mem hf
  ·cases h
section
variable {K:KV} {s t:Int}
theorem ses_gone (hU:UQ K) (h:Ses (goneK K s) t):Ses K t∧t≠s:=by
 rcases h with ⟨l,hl,rfl⟩ | ⟨a,ha,rfl⟩
 ·have:=Lc.end_ne hU s l hl
  exact ⟨.inl ⟨l,this.1,rfl⟩,this.2⟩
 ·have ha:a∈Qu.dropL K.Q s:=ha
  rw [Lc.drop_filter hU.q] at ha
  have:=List.mem_filter.1 ha
  exact ⟨.inr ⟨a,this.1,rfl⟩,by simpa using this.2⟩
theorem ses_set {l:LeaseV} {o:Bool} (h:Ses (setK K l o) t):Ses K t∨t=l.se:=by
 unfold Co.setK at h
 split at h
 ·rcases h with ⟨y,hy,rfl⟩ | ⟨a,ha,rfl⟩
  ·unfold Co.endK at hy
   split at hy
   ·exact .inl (.inl ⟨y,(Co.end_sub _ _).subset hy,rfl⟩)
   ·exact .inl (.inl ⟨y,hy,rfl⟩)
  ·rw [Co.endK_Q] at ha
   exact .inl (.inr ⟨a,ha,rfl⟩)
 ·rcases h with ⟨y,hy,rfl⟩ | ⟨a,ha,rfl⟩
  ·rcases Co.set_mem hy with hy | rfl
   ·exact .inl (.inl ⟨y,hy,rfl⟩)
   ·exact .inr rfl
  ·exact .inl (.inr ⟨a,ha,rfl⟩)
theorem ses_hear {m:MsgV} (h:Ses (hearK K s m) t):Ses K t:=by
 unfold Co.hearK at h
 split at h
 ·rename_i hh
  rcases ses_set h with h | h
  ·exact h
  ·have h1:=Co.has_mem hh
   have h2:(Co.hearR K (Le.ofL K.L s) m).1.se=(Le.ofL K.L s).se:=(Co.hearV_ca _ _ _ _ _).2
   exact .inl ⟨_,h1.1,by rw [h,h2]⟩
 ·exact h
theorem ses_ans {a:AskV} (h:Ses (ansK K a) t):Ses K t∨t=a.se:=by
 rcases h with h | ⟨b,hb,rfl⟩
 ·exact .inl (.inl h)
 ·have hb:b∈Co.ansQ K a:=hb
  unfold Co.ansQ at hb
  split at hb
  ·split at hb
   ·exact .inl (.inr ⟨b,hb,rfl⟩)
   ·rcases Co.put_mem hb with hb | rfl
    ·exact .inl (.inr ⟨b,hb,rfl⟩)
    ·exact .inr rfl
  ·exact .inl (.inr ⟨b,hb,rfl⟩)
theorem ses_fold:∀ (ls:List LeaseV) (x:KV×List EvV),Ses (ls.foldl stepK x).1 t→Ses x.1 t∨∃ l∈ls,l.se=t
 | [],_,h=>.inl h
 | l::r,x,h=>by
  rw [List.foldl_cons] at h
  rcases ses_fold r _ h with h | ⟨y,hy,e⟩
  ·have h:Ses (setK x.1 (Co.stepR x.1 l).1 (Co.stepR x.1 l).2.2) t:=h
   rcases ses_set h with h | h
   ·exact .inl h
   ·exact .inr ⟨l,List.mem_cons_self ..,by rw [h]; exact (Co.tickV_ca _ _ _ _).2.symm⟩
  ·exact .inr ⟨y,List.mem_cons_of_mem _ hy,e⟩
theorem ses_grant (h:Ses (grantK K) t):Ses K t:=by
 unfold Co.grantK at h
 split at h
 ·exact h
 ·rename_i a ha
  have hm:=grA_mem ha
  rcases h with ⟨y,hy,rfl⟩ | ⟨b,hb,rfl⟩
  ·change y∈Le.putL _ _ _ at hy
   unfold Le.putL at hy
   split at hy
   ·rcases List.mem_append.1 hy with hy | hy
    ·exact .inl ⟨y,hy,rfl⟩
    ·rw [List.mem_singleton] at hy
     subst hy
     exact .inr ⟨a,hm,rfl⟩
   ·exact .inl ⟨y,hy,rfl⟩
  ·have hb:b∈Qu.dropL K.Q a.se:=hb
   exact .inr ⟨b,(Co.drop_sub _ _).subset hb,rfl⟩
theorem ses_tick (h:Ses (tickK K) t):Ses K t:=by
 rcases ses_fold _ (tkK1 K,[]) (ses_grant h) with h | ⟨l,hl,e⟩
 ·exact h
 ·exact .inl ⟨l,List.mem_of_mem_take hl,e⟩
theorem tick_nowK (h:0≤K.G.now∧K.G.now≤1000000):(tickK K).G.now=K.G.now+1:=by
 show (grantK _).G.now=_
 rw [Lc.grant_now,Lc.fold_now,Lc.tk1_now K h]
end
structure SI (c:CfgV) (ep:Int) (x:Kv):Prop where
 u:UQ x.1
 nw:0≤x.1.G.now∧x.1.G.now≤1000000
 ep:∀ i v,x.2 i=some v→1≤v.k.ep∧v.k.ep≤ep
 he:∀ i v,x.2 i=some v→(0≤v.k.he∧v.k.he≤x.1.G.now)∧v.k.c=c
 ls:∀ s,Ses x.1 s→(x.2 s).isSome=true
section
variable {c:CfgV} {ep:Int} {x:Kv}
theorem SI.more {ep':Int} (h:SI c ep x) (he:ep≤ep'):SI c ep' x:=⟨h.u,h.nw,fun i v hv=>⟨(h.ep i v hv).1,Int.le_trans (h.ep i v hv).2 he⟩,h.he,h.ls⟩
theorem SI.gone (h:SI c ep x) (i:Int):SI c ep (endV x i):=by
 have hn:(endV x i).1.G.now=x.1.G.now:=Lc.end_now x.1 i
 refine ⟨h.u.gone i,by rw [hn]; exact h.nw,fun j v hj=>h.ep j v (end_sub hj),fun j v hj=>by rw [hn]; exact h.he j v (end_sub hj),fun s hs=>?_⟩
 obtain ⟨h1,h2⟩:=ses_gone h.u hs
 show (setV x.2 i none s).isSome=true
 unfold setV
 rw [if_neg h2]
 exact h.ls s h1
theorem SI.put (h:SI c ep x) (i:Int) (v:SeV) (h1:1≤v.k.ep∧v.k.ep≤ep) (h2:(0≤v.k.he∧v.k.he≤x.1.G.now)∧v.k.c=c):SI c ep (x.1,setV x.2 i (some v)):=by
 refine ⟨h.u,h.nw,fun j u hj=>?_,fun j u hj=>?_,fun s hs=>?_⟩
 ·by_cases hi:j=i
  ·simp [setV,hi] at hj; subst hj; exact h1
  ·simp [setV,hi] at hj; exact h.ep j u hj
 ·by_cases hi:j=i
  ·simp [setV,hi] at hj; subst hj; exact h2
  ·simp [setV,hi] at hj; exact h.he j u hj
 ·show (setV x.2 i (some v) s).isSome=true
  unfold setV
  split
  ·rfl
  ·exact h.ls s hs
theorem SI.tell1 (h:SI c ep x) (e:EvV):SI c ep (tell1 x e):=by
 unfold Gw.tell1
 cases hv:x.2 e.s with
 | none=>exact h
 | some v =>
  simp only []
  split
  ·exact h.put e.s _ (show 1≤v.k.ep∧v.k.ep≤ep from h.ep _ _ hv) (show (0≤v.k.he∧v.k.he≤x.1.G.now)∧v.k.c=c from h.he _ _ hv)
  ·exact h.gone _
theorem SI.tell:∀ (es:List EvV) {x:Kv},SI c ep x→SI c ep (tellF x es)
 | [],_,h=>h
 | e::r,_,h=>SI.tell r (h.tell1 e)
theorem SI.kset (h:SI c ep x) {K:KV} (hu:UQ K) (hn:K.G.now=x.1.G.now) (hs:∀ s,Ses K s→(x.2 s).isSome=true):SI c ep (K,x.2) :=
 ⟨hu,by show 0≤K.G.now∧_; rw [hn]; exact h.nw,h.ep,fun i v hv=>by show (_∧_≤K.G.now)∧_; rw [hn]; exact h.he i v hv,hs⟩
theorem SI.born (h:SI c ep x) (i:Int) (m:MsgV) {e:Int} (h1:1≤e) (h2:ep≤e):SI c e (bornK c x e i m):=by
 refine SI.tell1 (SI.put (h.more h2) i _ ⟨h1,Int.le_refl _⟩ ⟨⟨cl_lo _, ?_⟩,rfl⟩) _
 show cl x.1.G.now≤x.1.G.now
 rw [cl_id _ h.nw.1 (by have:=h.nw.2; omega)]
 exact Int.le_refl _
theorem SI.wel (h:SI c ep x) (he:0≤ep∧ep < 65535) (i:Int) (m:MsgV):SI c (welK c x ep i m).2 (welK c x ep i m).1:=by
 have e1:=nxE_one he
 unfold welK
 cases x.2 i with
 | none=>exact h.born i m (e:=nxE ep) (by omega) (by omega)
 | some v =>
  simp only []
  split
  ·exact h
  ·exact (h.gone i).born i m (e:=nxE ep) (by omega) (by omega)
theorem recv_k (v:SeV) (p:PktV) (now:Int) (b:Bool) (h:0≤v.k.he∧v.k.he≤now) (hn:0≤now∧now≤1000000):(recvS v p now b).k.ep=v.k.ep∧(recvS v p now b).k.c=v.k.c∧0≤(recvS v p now b).k.he∧(recvS v p now b).k.he≤now:=by
 have hc:cl now=now:=cl_id _ hn.1 (by omega)
 have hx:0≤mx2 v.k.he (cl now)∧mx2 v.k.he (cl now)≤now:=by rw [hc]; unfold Ln.mx2; split <;> omega
 show (Ln.recvK _ _ _ _).ep=_∧(Ln.recvK _ _ _ _).c=_∧0≤(Ln.recvK _ _ _ _).he∧(Ln.recvK _ _ _ _).he≤_
 unfold Ln.recvK Ln.hearK
 (repeat' split) <;> first | exact ⟨rfl,rfl,hx.1,hx.2⟩|exact ⟨rfl,rfl,h.1,h.2⟩
theorem SI.recv (h:SI c ep x) {i:Int} {v:SeV} (hv:x.2 i=some v) (p:PktV) (b:Bool):SI c ep (x.1,setV x.2 i (some (recvS v p x.1.G.now b))):=by
 obtain ⟨a1,a2,a3,a4⟩:=recv_k v p x.1.G.now b (h.he i v hv).1 h.nw
 exact h.put i _ (by rw [a1]; exact h.ep i v hv) ⟨⟨a3,a4⟩,a2.trans (h.he i v hv).2⟩
theorem SI.said (h:SI c ep x) {i:Int} (hi:(x.2 i).isSome=true) (f:Int) (m:MsgV):SI c ep (saidK x.1 i f m,x.2):=by
 unfold saidK
 split
 ·exact h.kset (h.u.ans _) rfl (fun s hs=>by
   rcases ses_ans hs with hs | rfl
   ·exact h.ls s hs
   ·exact hi)
 ·split
  ·exact h.kset (h.u.hear _ _) (Lc.hear_now _ _ _) (fun s hs=>h.ls s (ses_hear hs))
  ·exact h
theorem SI.come (h:SI c ep x) (he:0≤ep∧ep < 65535) (p:PktV):SI c (comeK c x ep p).2 (comeK c x ep p).1:=by
 unfold comeK
 split
 ·exact h.wel he _ _
 ·cases hv:x.2 p.se with
  | none=>exact h
  | some v =>
   simp only []
   split
   ·have h1:=h.recv hv p true
    exact SI.tell _ (h1.said (i:=p.se) (by show (setV _ _ _ _).isSome=true; simp [setV]) v.h.b (msgP p))
   ·exact h.recv hv p v.hd
theorem SI.run:∀ (ps:List (List Int)) {x:Kv×Int},0≤x.2→x.2+ps.length≤65535→SI c x.2 x.1→SI c (runL c x ps).2 (runL c x ps).1
 | [],_,_,_,h=>h
 | p::r,x,h1,h2,h=>by
  show SI c (runL c (if (Mg.getV p).2=0 then comeK c x.1 x.2 (Mg.getV p).1 else x) r).2 (runL c (if (Mg.getV p).2=0 then comeK c x.1 x.2 (Mg.getV p).1 else x) r).1
  simp only [List.length_cons] at h2
  split
  ·have h3:=come_ep c x.1 x.2 (Mg.getV p).1
   have h4:=nxE_one (e:=x.2) (by omega)
   exact SI.run r (by omega) (by omega) (h.come (by omega) _)
  ·exact SI.run r h1 (by omega) h
theorem SI.tickS {x:Ko} (h:SI c ep x.1) (i:Int):SI c ep (tickS x i).1:=by
 unfold Gw.tickS
 cases hv:x.1.2 i with
 | none=>exact h
 | some v =>
  simp only []
  split
  ·exact h.gone i
  ·have e:(pollS v x.1.1.G.now).k.ep=v.k.ep∧(pollS v x.1.1.G.now).k.he=v.k.he∧(pollS v x.1.1.G.now).k.c=v.k.c:=by
    show (Ln.pollK _ _ _).ep=_∧(Ln.pollK _ _ _).he=_∧(Ln.pollK _ _ _).c=_
    unfold Ln.pollK
    (repeat' split) <;> exact ⟨rfl,rfl,rfl⟩
   exact h.put i _ (by rw [e.1]; exact h.ep i v hv) (by rw [e.2.1,e.2.2]; exact h.he i v hv)
theorem SI.tickL:∀ (ks:List Int) {x:Ko},SI c ep x.1→SI c ep (tickL x ks).1
 | [],_,h=>h
 | k::r,_,h=>SI.tickL r (h.tickS k)
theorem SI.tk (h:SI c ep x) (hn:x.1.G.now < 1000000):SI c ep (tickK x.1,x.2):=by
 have e:=tick_nowK h.nw
 have h0:=h.nw
 exact ⟨h.u.tick,by show 0≤(tickK x.1).G.now∧(tickK x.1).G.now≤_; rw [e]; omega,h.ep,fun i v hv=>by
  show (_∧_≤(tickK x.1).G.now)∧_
  rw [e]
  have:=h.he i v hv
  exact ⟨⟨this.1.1,by omega⟩,this.2⟩,fun s hs=>h.ls s (ses_tick hs)⟩
end
structure QI (c:CfgV) (n0:Int) (j:Nat) (x:Kv):Prop where
 now:x.1.G.now=n0+j
 he:∀ i v,x.2 i=some v→(0≤i∧i < 64)∧v.k.he≤n0
 de:1≤j→∀ i v,x.2 i=some v→x.1.G.now < v.k.he+cl c.de
theorem QI.none {c:CfgV} {ep n0:Int} {j:Nat} {x:Kv} (h:QI c n0 j x) (hs:SI c ep x) (hj:(cl c.de:Int) < j):(∀ i,x.2 i=Option.none)∧x.1.L=[]∧x.1.Q=[]:=by
 have hcd:=cl_lo c.de
 have h0:∀ i,x.2 i=Option.none:=fun i=>by
  cases hv:x.2 i with
  | none=>rfl
  | some v =>
   have h1:=h.de (by omega) i v hv
   have h2:=(h.he i v hv).2
   have h3:=h.now
   omega
 refine ⟨h0, ?_, ?_⟩
 ·cases hl:x.1.L with
  | nil=>rfl
  | cons l r =>
   have:=hs.ls l.se (.inl ⟨l,by rw [hl]; exact List.mem_cons_self ..,rfl⟩)
   rw [h0] at this; cases this
 ·cases hl:x.1.Q with
  | nil=>rfl
  | cons a r =>
   have:=hs.ls a.se (.inr ⟨a,by rw [hl]; exact List.mem_cons_self ..,rfl⟩)
   rw [h0] at this; cases this
end Gw
end Go.Proofs.YtepfmfalebmcnaaGreatDoor
