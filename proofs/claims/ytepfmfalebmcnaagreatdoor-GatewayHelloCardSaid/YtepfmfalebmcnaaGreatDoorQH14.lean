/-
  Wanted: part 14.
  No condition.
-/
import Derived.Test.YtepfmfalebmcnaaGreatDoorQH12
import Derived.Test.YtepfmfalebmcnaaGreatDoorQH13
import Derived.Test.YtepfmfalebmcnaaGreatDoorRows
import Derived.Test.YtepfmfalebmcnaaGreatDoorQH0
import Derived.Deep.Slices
import Derived.ChangeSlices
import Derived.SizedLaws
import Derived.Test.YtepfmfalebmcnaaGreatDoorQH11
set_option linter.all false
namespace Go.Proofs.YtepfmfalebmcnaaGreatDoor
namespace Lc
open Go.RowKit Ba Mem En Go.Proofs.YtepfmfalebmcnaaGreatDoor.Ty Mo Go.Proofs.YtepfmfalebmcnaaGreatDoor.St Co
open Ri (MsgV tickV hearV)
open Qu (dropL atS btw firstA atF)
open Le (hasL ofL setL setE endL zeroL atP isS isT isP)
open Gr (loadR)
def key (l:LeaseV):Int×Int×Int:=(l.se,l.ca,l.fl)
def KR (a b:Int×Int×Int):Prop:=a.1≠b.1∧a.2.1≠b.2.1
structure UQ (K:KV):Prop where
  l:(K.L.map key).Pairwise KR
  q:(K.Q.map AskV.se).Pairwise (·≠·)
theorem find_none {α:Type} {p:α→Bool} {ls:List α} (h:(ls.findIdx? p).isSome=false):∀ x∈ls,p x=false:=by
 intro x hx
 have:ls.findIdx? p=none:=by simpa using h
 exact List.findIdx?_eq_none_iff.1 this x hx
theorem erase_filter {α:Type} (f:α→Int) (s:Int):∀ ls:List α,(ls.map f).Pairwise (·≠·)→(match ls.findIdx? (fun a=>f a == s) with | some k=>ls.eraseIdx k | none=>ls)=ls.filter (fun a=>f a != s)
  | [],_=>rfl
  | a::r,h=>by
    rw [List.map_cons,List.pairwise_cons] at h
    have ih:=erase_filter f s r h.2
    rw [List.findIdx?_cons]
    cases e:(f a == s) with
    | true =>
      have e1:f a=s:=by simpa using e
      have hr:r.filter (fun a=>f a != s)=r:=List.filter_eq_self.2 fun b hb=>by
        have:=h.1 (f b) (List.mem_map.2 ⟨b,hb,rfl⟩)
        simp only [bne_iff_ne,ne_eq]
        omega
      rw [List.filter_cons_of_neg (by simp [e1]),hr]; rfl
    | false =>
      rw [List.filter_cons_of_pos (by have : ¬ f a = s := by simpa using e
                                      simpa using this)]
      cases e2:r.findIdx? (fun a=>f a == s) with
      | none=>rw [e2] at ih; simp only [] at ih; rw [← ih]; rfl
      | some k=>rw [e2] at ih; simp only [] at ih; rw [← ih]; rfl
theorem key_se {ls:List LeaseV} (h:(ls.map key).Pairwise KR):(ls.map LeaseV.se).Pairwise (·≠·):=by
  rw [List.pairwise_map] at h ⊢
  exact h.imp fun h=>h.1
theorem end_filter {ls:List LeaseV} (h:(ls.map key).Pairwise KR) (s:Int):endL ls s=ls.filter (fun l=>l.se != s):=erase_filter LeaseV.se s ls (key_se h)
theorem drop_filter {ls:List AskV} (h:(ls.map AskV.se).Pairwise (·≠·)) (s:Int):dropL ls s=ls.filter (fun l=>l.se != s):=erase_filter AskV.se s ls h
theorem end_no {ls:List LeaseV} {s:Int} (h:¬ hasL ls s=true):endL ls s=ls:=by
 unfold endL; unfold hasL at h
 cases e:atP ls (isS s) with
 | none=>rfl
 | some k=>rw [e] at h; exact absurd rfl h
theorem set_key (c:CfgV) (ls:List LeaseV) (x:LeaseV):(setL c ls x).map key=ls.map key:=by
 unfold setL; split
 ·split
  ·rename_i k hk
   obtain ⟨hl,h1,_⟩:=Le.atP_some hk
   have h2:=h1 hl
   unfold isT at h2
   simp only [Bool.and_eq_true,beq_iff_eq] at h2
   apply List.ext_getElem
   ·simp
   ·intro i _ h4
    have h4:i < ls.length:=by simpa using h4
    rw [List.getElem_map,List.getElem_map,List.getElem_set]
    split
    ·rename_i e; subst e
     unfold key; rw [h2.1.1,h2.1.2,h2.2]
    ·rfl
  ·rfl
 ·rfl
section
variable {K:KV}
theorem UQ.new (c:CfgV):UQ (newK c):=⟨by simp [newK],by simp [newK]⟩
theorem UQ.ans (h:UQ K) (a:AskV):UQ (ansK K a):=by
  refine ⟨h.l, ?_⟩
  unfold ansK ansQ
  show ((if _ then _ else _:List AskV).map AskV.se).Pairwise (·≠·)
  split
  · split
    · exact h.q
    · unfold Qu.putL; split
      · rename_i he
        unfold Qu.putE at he
        split at he
        · cases he
        · rename_i hn
          rw [List.map_append,List.pairwise_append]
          refine ⟨h.q,by simp,fun x hx y hy=>?_⟩
          obtain ⟨b,hb,rfl⟩:=List.mem_map.1 hx
          have:=find_none (p:=Qu.isS a.se) (ls:=K.Q) (by simpa [atS] using hn) b hb
          have hy:y=a.se:=by simpa using hy
          subst hy
          simpa [Qu.isS] using this
      · exact h.q
  · exact h.q
theorem UQ.end_ (h:UQ K) (s:Int):UQ (endK K s):=by
 unfold Co.endK; split
 ·exact ⟨h.l.sublist ((end_sub _ _).map _),h.q⟩
 ·exact h
theorem UQ.set (h:UQ K) (l:LeaseV) (o:Bool):UQ (setK K l o):=by
 unfold setK; split
 ·exact h.end_ _
 ·exact ⟨by show ((setL _ _ _).map key).Pairwise KR; rw [set_key]; exact h.l,h.q⟩
theorem UQ.hear (h:UQ K) (s:Int) (x:MsgV):UQ (hearK K s x):=by
 unfold hearK; split
 ·exact h.set _ _
 ·exact h
theorem UQ.gone (h:UQ K) (s:Int):UQ (goneK K s) :=
 ⟨(h.end_ s).l,h.q.sublist ((drop_sub _ _).map _)⟩
theorem UQ.grp (h:UQ K) (G:Gr.GrV):UQ { K with G:=G }:=⟨h.l,h.q⟩
theorem UQ.fold (h:UQ K) (k:Nat):UQ (foldK K k).1:=by
 have key:∀ (ls:List LeaseV) (x:KV×List EvV),UQ x.1→UQ (ls.foldl stepK x).1:=by
  intro ls
  induction ls with
  | nil=>intro x h; exact h
  | cons l r ih=>intro x h; rw [List.foldl_cons]; exact ih _ (h.set _ _)
 exact key _ _ (h.grp _)
theorem UQ.grant (h:UQ K):UQ (grantK K):=by
 unfold grantK; split
 ·exact h
 ·rename_i a ha
  refine ⟨?_,h.q.sublist ((drop_sub _ _).map _)⟩
  show ((Le.putL _ _ _).map key).Pairwise KR
  unfold Le.putL; split
  ·rename_i he
   unfold Le.putE at he
   split at he
   ·split at he
    ·cases he
    ·rename_i hn
     rw [List.map_append,List.pairwise_append]
     refine ⟨h.l,by simp,fun x hx y hy=>?_⟩
     obtain ⟨b,hb,rfl⟩:=List.mem_map.1 hx
     have hy:y=Lc.key (grL K a):=by simpa using hy
     subst hy
     have:=find_none (p:=isP (grL K a)) (ls:=K.L) (by simpa [atP] using hn) b hb
     unfold isP at this
     simp only [Bool.or_eq_false_iff,beq_eq_false_iff_ne] at this
     exact this
   ·cases he
  ·exact h.l
theorem UQ.tick (h:UQ K):UQ (tickK K):=(h.fold _).grant
theorem UQ.obS {x:KV×List EvV} (h:UQ x.1) (l:LeaseV):UQ (obStep x l).1:=by
 unfold obStep; split
 ·exact (h.grp _).hear _ _
 ·split
  ·exact (h.grp _).hear _ _
  ·exact h
theorem UQ.ob (h:UQ K) (k:Nat):UQ (obF K k).1:=by
 have key:∀ (ls:List LeaseV) (x:KV×List EvV),UQ x.1→UQ (ls.foldl obStep x).1:=by
  intro ls
  induction ls with
  | nil=>intro x h; exact h
  | cons l r ih=>intro x h; rw [List.foldl_cons]; exact ih _ (UQ.obS h l)
 exact key _ _ h
theorem UQ.do_ (h:UQ K) (o:KopV):UQ (doK K o):=by
 unfold doK
 split
 ·exact h.ans _
 split
 ·exact h.hear _ _
 split
 ·exact h.gone _
 split
 ·exact UQ.ob h _
 ·exact h.grp _
end
end Lc
namespace Lc
open Go.RowKit Ba Mem En Go.Proofs.YtepfmfalebmcnaaGreatDoor.Ty Mo Go.Proofs.YtepfmfalebmcnaaGreatDoor.St Co
open Ri (MsgV tickV hearV trV sp rn mayRe)
open Qu (dropL atS btw firstA atF)
open Le (hasL ofL setL setE endL zeroL atP isS isT isP goodB)
open Tm (cl)
open Gr (loadR)
def bp (c:CfgV) (ph:Int):Int:=if ph=1 then trV c else if ph=2 then trV c+sp c.ho else if ph=3 then 2*trV c+sp c.ho else 2*trV c+2*sp c.ho
structure Bn (c:CfgV) (l:LeaseV):Prop where
 re:0≤l.re∧l.re≤rn c.re
 un:l.un≤l.gr+bp c l.ph+sp c.ho*l.re
 gd:goodB c l=true
 gr:0≤l.gr∧l.gr≤1000000
structure LI (c:CfgV) (now:Int) (l:LeaseV):Prop extends Bn c l where
 lt:now < l.un
theorem good_ph {c:CfgV} {l:LeaseV} (h:goodB c l=true):1≤l.ph∧l.ph≤4:=by
 unfold goodB at h
 simp only [Bool.and_eq_true,decide_eq_true_eq] at h
 exact ⟨h.1.2,h.2⟩
theorem good_of {c:CfgV} {l x:LeaseV} (h:goodB c l=true) (h1:x.se=l.se∧x.fl=l.fl∧x.fm=l.fm∧x.to=l.to∧x.ma=l.ma∧x.ca=l.ca) (h2:1≤x.ph∧x.ph≤4):goodB c x=true:=by
 unfold goodB Le.askOf at h ⊢
 obtain ⟨e1,e2,e3,e4,e5,e6⟩:=h1
 rw [e1,e2,e3,e4,e5,e6]
 simp only [Bool.and_eq_true,decide_eq_true_eq] at h ⊢
 exact ⟨⟨h.1.1,h2.1⟩,h2.2⟩
theorem cl_lt {a b:Int} (h:¬ cl a≤cl b) (hb:0≤b∧b≤1000000):b < a:=by
 unfold cl at h; (repeat' split at h) <;> omega
theorem cl_add {a b:Int} (ha:0≤a∧a≤1000000) (hb:0≤b∧b≤10000):cl (cl a+cl b)=a+b:=by
 rw [Tm.cl_id a (by omega) (by omega),Tm.cl_id b (by omega) (by omega),Tm.cl_id _ (by omega) (by omega)]
section
variable {c:CfgV} {l:LeaseV} {now:Int}
theorem rn_hi (n:Int):rn n≤1000:=by unfold rn; repeat' split <;> omega
theorem Bn.tick (h:Bn c l) (hn:0≤now∧now≤1000000) (x:CarV) (ho:(tickV c l x now).2.2=false):LI c now (tickV c l x now).1:=by
 have hs:=Ri.sp_lo c.ho
 have hs2:=Ri.sp_hi c.ho
 have hp:=good_ph h.gd
 have hr:=h.re
 have hu:=h.un
 have ha:=cl_add hn (b:=sp c.ho) (by omega)
 unfold tickV at ho ⊢
 split at ho
 ·cases ho
 rename_i hl
 rw [if_neg hl]
 have hlt:now < l.un:=cl_lt (fun h=>hl (.inr h)) hn
 split
 ·rename_i h1
  refine ⟨⟨hr, ?_,good_of h.gd ⟨rfl,rfl,rfl,rfl,rfl,rfl⟩ (by show 1≤(2:Int)∧(2:Int)≤4; decide),h.gr⟩,by show now < cl _; rw [ha]; omega⟩
  show cl _≤l.gr+bp c 2+sp c.ho*l.re
  rw [ha]; rw [h1.1] at hu
  have e1:bp c 1=trV c:=rfl
  have e2:bp c 2=trV c+sp c.ho:=rfl
  omega
 ·split
  ·rename_i h1
   refine ⟨⟨hr, ?_,good_of h.gd ⟨rfl,rfl,rfl,rfl,rfl,rfl⟩ (by show 1≤(4:Int)∧(4:Int)≤4; decide),h.gr⟩,by show now < cl _; rw [ha]; omega⟩
   show cl _≤l.gr+bp c 4+sp c.ho*l.re
   rw [ha]; rw [h1.1] at hu
   have e1:bp c 3=2*trV c+sp c.ho:=rfl
   have e2:bp c 4=2*trV c+2*sp c.ho:=rfl
   omega
  ·exact ⟨⟨hr,hu,good_of h.gd ⟨rfl,rfl,rfl,rfl,rfl,rfl⟩ hp,h.gr⟩,hlt⟩
theorem LI.hear (h:LI c now l) (hn:0≤now∧now≤1000000) (x:CarV) (m:MsgV):LI c now (hearV c l x now m).1:=by
 have hs:=Ri.sp_lo c.ho
 have hs2:=Ri.sp_hi c.ho
 have ht:=Ri.tr_lo c
 have ht2:=Ri.tr_hi c
 have hp:=good_ph h.gd
 have hr:=h.re
 have hu:=h.un
 have hlt:=h.lt
 have ha:=cl_add hn (b:=sp c.ho) (by omega)
 have hb:=cl_add hn (b:=trV c) (by omega)
 have same:LI c now ⟨l.se,l.fl,l.fm,l.to,l.ma,l.ca,l.ph,l.un,l.re,l.gr⟩:=h
 unfold hearV
 split
 ·rename_i h1
  split
  ·refine ⟨⟨hr, ?_,good_of h.gd ⟨rfl,rfl,rfl,rfl,rfl,rfl⟩ (by show 1≤(3:Int)∧(3:Int)≤4; decide),h.gr⟩,by show now < cl _; rw [hb]; omega⟩
   show cl _≤l.gr+bp c 3+sp c.ho*l.re
   rw [hb]; rw [h1.2] at hu
   have e1:bp c 2=trV c+sp c.ho:=rfl
   have e2:bp c 3=2*trV c+sp c.ho:=rfl
   omega
  ·exact same
 ·split
  ·exact same
  ·split
   ·rename_i h1
    have hm:=h1.2
    unfold mayRe at hm
    simp only [Bool.and_eq_true,decide_eq_true_eq] at hm
    have hx:=rn_hi c.re
    have hw:IntKind.i64.wrap (l.re+1)=l.re+1:=Gr.wrG _ (by omega) (by omega)
    refine ⟨⟨?_, ?_,good_of h.gd ⟨rfl,rfl,rfl,rfl,rfl,rfl⟩ hp,h.gr⟩,by show now < cl _; rw [ha]; omega⟩
    ·show 0≤IntKind.i64.wrap (l.re+1)∧IntKind.i64.wrap (l.re+1)≤_
     rw [hw]; omega
    ·show cl _≤l.gr+bp c l.ph+sp c.ho*IntKind.i64.wrap (l.re+1)
     rw [hw,ha,Int.mul_add,Int.mul_one]; omega
   ·exact same
theorem set_all {ls:List LeaseV} {x:LeaseV} (hU:(ls.map key).Pairwise KR) (hg:goodB c x=true):∀ y∈setL c ls x,y=x∨(y∈ls∧key y≠key x):=by
 intro y hy
 unfold setL at hy
 rw [if_pos hg] at hy
 split at hy
 ·rename_i k hat
  obtain ⟨hl,h1,_⟩:=Le.atP_some hat
  have h2:=h1 hl
  unfold isT at h2
  simp only [Bool.and_eq_true,beq_iff_eq] at h2
  obtain ⟨i,hi,rfl⟩:=List.getElem_of_mem hy
  rw [List.getElem_set]
  split
  ·exact .inl rfl
  ·rename_i hne
   have hi:i < ls.length:=by simpa using hi
   refine .inr ⟨List.getElem_mem hi,fun e=>?_⟩
   have e:(ls[i]).se=x.se:=congrArg Prod.fst e
   rw [List.pairwise_map,List.pairwise_iff_getElem] at hU
   rw [← h2.1.1] at e
   rcases Nat.lt_or_gt_of_ne hne with h | h
   ·exact (hU k i hl hi h).1 e.symm
   ·exact (hU i k hi hl h).1 e
 ·rename_i hat
  refine .inr ⟨hy,fun e=>?_⟩
  have:=List.findIdx?_eq_none_iff.1 hat y hy
  have e1:y.se=x.se:=congrArg Prod.fst e
  have e2:y.ca=x.ca:=congrArg (fun z=>z.2.1) e
  have e3:y.fl=x.fl:=congrArg (fun z=>z.2.2) e
  simp [isT,e1,e2,e3] at this
theorem tickV_key (x:CarV):key (tickV c l x now).1=key l:=by
 unfold tickV; (repeat' split) <;> rfl
theorem hearV_key (x:CarV) (m:MsgV):key (hearV c l x now m).1=key l:=by
 unfold hearV; (repeat' split) <;> rfl
end
section
variable {K:KV}
theorem end_now (K:KV) (s:Int):(Co.endK K s).G.now=K.G.now:=by unfold Co.endK; split; exact (Gr.give_w _).2; rfl
theorem set_now (K:KV) (l:LeaseV) (o:Bool):(setK K l o).G.now=K.G.now:=by
 unfold setK; split
 ·exact end_now _ _
 ·exact (Gr.aim_w _ _ _).2
theorem end_ne (h:UQ K) (s:Int):∀ y∈(Co.endK K s).L,y∈K.L∧y.se≠s:=by
 intro y hy
 unfold Co.endK at hy
 split at hy
 ·change y∈endL K.L s at hy
  rw [end_filter h.l] at hy
  have:=List.mem_filter.1 hy
  exact ⟨this.1,by simpa using this.2⟩
 ·rename_i hn
  refine ⟨hy,fun e=>?_⟩
  have:=find_none (p:=isS s) (ls:=K.L) (by simpa [hasL,atP] using hn) y hy
  simp [isS,e] at this
def EI (c:CfgV) (K:KV):Prop:=∀ l∈K.L,LI c K.G.now l
section
variable {c:CfgV} {n T m:Nat}
theorem EI.sub {K':KV} (h:EI c K) (hn:K'.G.now=K.G.now) (hs:∀ y∈K'.L,y∈K.L):EI c K':=fun l hl=>by rw [hn]; exact h l (hs l hl)
theorem EI.set (hc:K.G.c=c) (hU:UQ K) (h:EI c K) {l:LeaseV} (hl:LI c K.G.now l) (o:Bool):EI c (setK K l o):=by
 intro y hy
 rw [set_now]
 unfold setK at hy
 split at hy
 ·exact h y (end_ne hU _ y hy).1
 ·change y∈setL K.G.c K.L l at hy
  rw [hc] at hy
  rcases set_all hU.l hl.gd y hy with rfl | hy
  ·exact hl
  ·exact h y hy.1
theorem EI.hear (hc:K.G.c=c) (hU:UQ K) (hn:0≤K.G.now∧K.G.now≤1000000) (h:EI c K) (s:Int) (x:MsgV):EI c (hearK K s x):=by
 unfold hearK; split
 ·rename_i hL
  refine EI.set hc hU h ?_ _
  unfold hearR
  rw [hc]
  exact (h _ (has_mem hL).1).hear hn _ _
 ·exact h
theorem EI.fold {now:Int} (hn:0≤now∧now≤1000000):∀ (rest:List LeaseV) (x:KV×List EvV),x.1.G.now=now→x.1.G.c=c→UQ x.1→(∀ y∈rest,Bn c y)→(∀ y∈x.1.L,y∈rest∨LI c now y)→∀ y∈(rest.foldl stepK x).1.L,LI c now y
 | [],x,_,_,_,_,h=>fun y hy=>(h y hy).resolve_left (by simp)
 | l::r,x,h1,h2,h3,h4,h5=>by
  rw [List.foldl_cons]
  have hs:(stepK x l).1=setK x.1 (stepR x.1 l).1 (stepR x.1 l).2.2:=rfl
  refine EI.fold hn r (stepK x l) (by rw [hs,set_now]; exact h1) (by rw [hs,setK_c]; exact h2) (by rw [hs]; exact h3.set _ _) (fun y hy=>h4 y (List.mem_cons_of_mem _ hy)) ?_
  intro y hy
  rw [hs] at hy
  have hk:key (stepR x.1 l).1=key l:=by unfold stepR; exact tickV_key _
  cases ho:(stepR x.1 l).2.2 with
  | true =>
   rw [ho] at hy
   unfold setK at hy
   rw [if_pos rfl] at hy
   obtain ⟨hy1,hy2⟩:=end_ne h3 _ y hy
   rcases h5 y hy1 with h | h
   ·rcases List.mem_cons.1 h with rfl | h
    ·exact absurd (congrArg Prod.fst hk).symm hy2
    ·exact .inl h
   ·exact .inr h
  | false =>
   have hl:LI c now (stepR x.1 l).1:=by
    unfold stepR at ho ⊢
    rw [h1,h2] at ho ⊢
    exact (h4 l (List.mem_cons_self ..)).tick hn _ ho
   rw [ho] at hy
   unfold setK at hy
   rw [if_neg (by decide)] at hy
   change y∈setL x.1.G.c x.1.L _ at hy
   rw [h2] at hy
   rcases set_all h3.l hl.gd y hy with rfl | ⟨hy1,hy2⟩
   ·exact .inr hl
   ·rcases h5 y hy1 with h | h
    ·rcases List.mem_cons.1 h with rfl | h
     ·exact absurd hk.symm hy2
     ·exact .inl h
    ·exact .inr h
theorem EI.grant (hc:K.G.c=c) (hn:0≤K.G.now∧K.G.now≤1000000) (h:EI c K):EI c (grantK K):=by
 unfold grantK; split
 ·exact h
 ·rename_i a ha
  intro y hy
  have hnow:(grK K a).G.now=K.G.now:=(Gr.take_w _ _).2
  rw [hnow]
  change y∈Le.putL _ _ _ at hy
  unfold Le.putL at hy
  split at hy
  ·rename_i he
   rcases List.mem_append.1 hy with hy | hy
   ·exact h y hy
   ·rw [List.mem_singleton] at hy
    subst hy
    have ht:=Ri.tr_lo c
    have ht2:=Ri.tr_hi c
    have e:=cl_add hn (b:=trV c) (by omega)
    have hg:goodB c (grL K a)=true:=by
     unfold Le.putE at he
     split at he
     ·rename_i hg; rw [hc] at hg; exact hg
     ·cases he
    have hun:(grL K a).un=K.G.now+trV c:=by show cl (cl K.G.now+cl (trV K.G.c))=_; rw [hc,e]
    refine ⟨⟨?_, ?_,hg,hn⟩,by rw [hun]; omega⟩
    ·show (0:Int)≤0∧0≤rn c.re
     unfold rn; (repeat' split) <;> omega
    ·rw [hun]
     show K.G.now+trV c≤K.G.now+trV c+sp c.ho*0
     omega
  ·exact h y hy
end
end
structure PI (c:CfgV) (n T:Nat) (K:KV):Prop where
 k:KI c n T T K
 u:UQ K
 e:EI c K
 t:K.G.now≤T
section
variable {c:CfgV} {n T:Nat} {K:KV}
theorem PI.new (c:CfgV):PI c 0 0 (newK c):=⟨KI.new c,UQ.new c,(fun l hl=>by cases hl),(by show (0:Int)≤0; omega)⟩
theorem PI.more {n' T':Nat} (h:PI c n T K) (h1:n≤n') (h2:T≤T'):PI c n' T' K:=⟨h.k.more h1 h2 h2,h.u,h.e,by have:=h.t; omega⟩
theorem hear_now (K:KV) (s:Int) (x:MsgV):(hearK K s x).G.now=K.G.now:=by unfold hearK; split; exact set_now _ _ _; rfl
theorem obS_pi {x:KV×List EvV} (hT:T≤1000000) (h:PI c n T x.1) (l:LeaseV):PI c n T (obStep x l).1:=by
 have ld:∀ v,PI c n T (ldK x.1 l v):=fun v=>⟨KI.ld h.k l v,h.u.grp _,EI.sub h.e (Gr.load_w _ _).2 (fun _ hy=>hy),by show (loadR x.1.G l.ca v).1.now≤T; rw [(Gr.load_w _ _).2]; exact h.t⟩
 have hr:∀ v m,PI c n T (hearK (ldK x.1 l v) l.se m):=fun v m=>⟨(ld v).k.hear _ _,(ld v).u.hear _ _,EI.hear (ld v).k.g.1 (ld v).u ⟨(ld v).k.now.1,by have:=(ld v).t; omega⟩ (ld v).e _ _,by rw [hear_now]; exact (ld v).t⟩
 unfold obStep; split
 ·exact hr _ _
 ·split
  ·exact hr _ _
  ·exact h
theorem PI.ob (hT:T≤1000000) (h:PI c n T K) (k:Nat):PI c n T (obF K k).1:=by
 have key:∀ (ls:List LeaseV) (x:KV×List EvV),PI c n T x.1→PI c n T (ls.foldl obStep x).1:=by
  intro ls
  induction ls with
  | nil=>intro x h; exact h
  | cons l r ih=>intro x h; rw [List.foldl_cons]; exact ih _ (obS_pi hT h l)
 exact key _ _ h
theorem PI.do_ (h:PI c n T K) (hT:T≤1000000) (o:KopV):PI c (n+1) T (doK K o):=by
 have hk:=KI.do_ h.k o
 have hu:=h.u.do_ o
 have hn:0≤K.G.now∧K.G.now≤1000000:=⟨h.k.now.1,by have:=h.t; omega⟩
 refine ⟨hk,hu, ?_, ?_⟩
 ·unfold doK
  split
  ·exact h.e
  split
  ·exact EI.hear h.k.g.1 h.u hn h.e _ _
  split
  ·exact EI.sub h.e (end_now K o.q.se) (fun y hy=>(end_ne h.u _ y hy).1)
  split
  ·exact (PI.ob hT h _).e
  ·exact EI.sub h.e (gdo_w _ _).1 (fun _ hy=>hy)
 ·unfold doK
  split
  ·exact h.t
  split
  ·rw [hear_now]; exact h.t
  split
  ·show (Co.endK K o.q.se).G.now≤T; rw [end_now]; exact h.t
  split
  ·exact (PI.ob hT h _).t
  ·show (gdo K.G o).now≤T; rw [(gdo_w _ _).1]; exact h.t
theorem fold_now (K:KV) (k:Nat):(foldK K k).1.G.now=(tkK1 K).G.now:=by
 have key:∀ (ls:List LeaseV) (x:KV×List EvV),(ls.foldl stepK x).1.G.now=x.1.G.now:=by
  intro ls
  induction ls with
  | nil=>intro x; rfl
  | cons l r ih=>intro x; rw [List.foldl_cons,ih]; exact set_now _ _ _
 exact key _ _
theorem grant_now (K:KV):(grantK K).G.now=K.G.now:=by unfold grantK; split; rfl; exact (Gr.take_w _ _).2
theorem tk1_now (K:KV) (h:0≤K.G.now∧K.G.now≤1000000):(tkK1 K).G.now=K.G.now+1:=by
 show cl (cl K.G.now+cl 1)=_
 exact cl_add h (by decide)
theorem PI.tick (h:PI c n T K) (hT:T < 1000000):PI c n (T+1) (tickK K):=by
 have hn:0≤K.G.now∧K.G.now≤1000000:=⟨h.k.now.1,by have:=h.t; omega⟩
 have h1:=tk1_now K hn
 have hf:=fold_now K K.L.length
 have hn2:0≤(tkK1 K).G.now∧(tkK1 K).G.now≤1000000:=by rw [h1]; have:=h.t; omega
 refine ⟨h.k.tick,h.u.tick, ?_, ?_⟩
 ·refine EI.grant ((h.k.fold _).g.1) (by rw [hf]; exact hn2) ?_
  intro y hy
  rw [hf]
  have hL:K.L.take K.L.length=K.L:=List.take_length
  unfold foldK at hy
  rw [hL] at hy
  exact EI.fold hn2 K.L (tkK1 K,[]) rfl h.k.g.1 (h.u.grp _) (fun y hy=>(h.e y hy).toBn) (fun y hy=>.inl hy) y hy
 ·show (grantK _).G.now≤_
  rw [grant_now,hf,h1]
  have:=h.t
  omega
end
end Lc
namespace Lc
open Go.RowKit Ba Mem En Go.Proofs.YtepfmfalebmcnaaGreatDoor.Ty Mo Go.Proofs.YtepfmfalebmcnaaGreatDoor.St Co
open Ri (MsgV tickV hearV trV sp rn mayRe opB aimF)
open Qu (dropL atS btw firstA atF)
open Le (hasL ofL setL setE endL zeroL atP isS isT isP goodB)
open Fl (cn)
open Gr (GrV loadR one giveR aimR takeR giveC tickG hasF)
open Ct (tkV)
structure SM (x y:CarV):Prop where
 mo:y.mo=x.mo
 ta:y.ta=x.ta
 ho:y.ho=x.ho
 ds:y.ds=x.ds
 un:y.un=x.un
theorem SM.op {x y:CarV} (h:SM x y) (f:Int):opB y f=opB x f:=by unfold opB; rw [h.ds,h.un]
def SG (G G':GrV):Prop:=G'.cars.length=G.cars.length∧∀ (i:Nat) (x:CarV),G.cars[i]?=some x→∃ y,G'.cars[i]?=some y∧SM x y
theorem SG.refl (G:GrV):SG G G:=⟨rfl,fun i x h=>⟨x,h,rfl,rfl,rfl,rfl,rfl⟩⟩
theorem SG.one {G:GrV} (i:Int) (f:CarV→CarV×Int) (hf:∀ x,SM x (f x).1):SG G (Gr.one G i f).1 :=
 ⟨Gr.one_same.2.2.2,fun k x h=>⟨_,Gr.one_at h,by split; exact hf x; exact ⟨rfl,rfl,rfl,rfl,rfl⟩⟩⟩
theorem gdo_sg (G:GrV) (o:KopV):SG G (gdo G o):=by
 unfold gdo; split
 ·unfold Gr.doR
  split
  ·unfold Gr.hallR; split
   ·split <;> exact ⟨rfl,fun i x h=>⟨x,h,rfl,rfl,rfl,rfl,rfl⟩⟩
   ·exact SG.refl _
  split
  ·unfold Gr.pressR; split
   ·exact SG.one _ _ (fun x=>by show SM x (Gr.pressX _ x); unfold Gr.pressX; split <;> exact ⟨rfl,rfl,rfl,rfl,rfl⟩)
   ·exact SG.refl _
  split
  ·exact SG.one _ _ (fun x=>⟨rfl,rfl,rfl,rfl,rfl⟩)
  split
  ·exact SG.one _ _ (fun x=>⟨rfl,rfl,rfl,rfl,rfl⟩)
  split
  ·unfold Gr.faultR; split
   ·split
    ·have:=SG.one (G:=G) o.a (fun x=>(Gr.fltX x,0)) (fun x=>⟨rfl,rfl,rfl,rfl,rfl⟩)
     exact ⟨this.1,this.2⟩
    ·exact SG.refl _
   ·exact SG.one _ _ (fun x=>⟨rfl,rfl,rfl,rfl,rfl⟩)
  omega
 ·exact SG.refl _
structure HB (rest:List LeaseV) (x:CarV) (l:LeaseV):Prop where
 mo:x.mo=1
 ta:x.ta=aimF l
 ho:x.ho=true
 op:(l∈rest→x.br=false)→(l.ph=2∨l.ph=4)→opB x (aimF l)=true
structure CI (rest:List LeaseV) (K:KV):Prop where
 a:∀ l∈K.L,∃ x,K.G.cars[l.ca.toNat]?=some x∧HB rest x l
 b:∀ (i:Nat) x,K.G.cars[i]?=some x→x.mo=1→∃ l∈K.L,l.ca=(i:Int)
 m:∃ (i:Nat) (x:CarV),K.G.cars[i]?=some x∧x.mo=0
 q:∀ a∈K.Q,∀ l∈K.L,a.se≠l.se
 f:∀ f,(cn K.L f:Int)≤btw K.G.c.qo 1 8
section
variable {K:KV} {rest:List LeaseV} {c:CfgV} {n T m:Nat}
theorem pair_of {α:Type} {R:α→α→Prop} (hs:∀ a b,R a b→R b a):∀ {ls:List α},ls.Pairwise R→∀ a∈ls,∀ b∈ls,a=b∨R a b
 | [],_,a,ha,_,_=>by cases ha
 | x::r,h,a,ha,b,hb=>by
  rw [List.pairwise_cons] at h
  rcases List.mem_cons.1 ha with e1 | e1
  ·rcases List.mem_cons.1 hb with e2 | e2
   ·exact .inl (e1.trans e2.symm)
   ·exact .inr (e1 ▸ h.1 b e2)
  ·rcases List.mem_cons.1 hb with e2 | e2
   ·exact .inr (e2 ▸ hs _ _ (h.1 a e1))
   ·exact pair_of hs h.2 a e1 b e2
theorem UQ.two (h:UQ K) {l y:LeaseV} (hl:l∈K.L) (hy:y∈K.L):l=y∨(l.se≠y.se∧l.ca≠y.ca):=by
 have:=h.l
 rw [List.pairwise_map] at this
 exact pair_of (R:=fun a b=>KR (key a) (key b)) (fun a b h=>⟨fun e=>h.1 e.symm,fun e=>h.2 e.symm⟩) this l hl y hy
theorem CI.new (c:CfgV):CI [] (newK c):=by
 have hz:∀ (i:Nat) x,(newK c).G.cars[i]?=some x→x.mo=0:=fun i x h=>by
  have:=List.eq_of_mem_replicate (show x∈List.replicate (Gr.ncars c) Gr.zeroX from List.mem_of_getElem? h)
  rw [this]; rfl
 have hb:=Gr.ncars_bd c
 refine ⟨fun l hl=>(by cases hl),fun i x h h1=>(by rw [hz i x h] at h1; cases h1), ?_,fun a ha=>(by cases ha),fun f=>?_⟩
 ·obtain ⟨x,hx⟩:∃ x,(newK c).G.cars[0]?=some x:=⟨_,List.getElem?_eq_getElem (by show 0 < (List.replicate (Gr.ncars c) Gr.zeroX).length; rw [List.length_replicate]; omega)⟩
  exact ⟨0,x,hx,hz 0 x hx⟩
 ·show ((0:Nat):Int)≤_
  unfold btw; (repeat' split) <;> omega
theorem CI.grp {G':GrV} (h:CI [] K) (hs:SG K.G G') (hc:G'.c=K.G.c):CI [] { K with G:=G' }:=by
 have back:∀ (i:Nat) y,G'.cars[i]?=some y→∃ x,K.G.cars[i]?=some x∧SM x y:=fun i y hy=>by
  have hi:i < K.G.cars.length:=by rw [← hs.1]; exact (List.getElem?_eq_some_iff.1 hy).1
  obtain ⟨y',h1,h2⟩:=hs.2 i _ (List.getElem?_eq_getElem hi)
  rw [h1] at hy
  exact ⟨_,List.getElem?_eq_getElem hi,Option.some.inj hy ▸ h2⟩
 refine ⟨fun l hl=>?_,fun i y hy hm=>?_, ?_,h.q,fun f=>by show _≤btw G'.c.qo 1 8; rw [hc]; exact h.f f⟩
 ·obtain ⟨x,hx,hb⟩:=h.a l hl
  obtain ⟨y,hy,hm⟩:=hs.2 _ x hx
  exact ⟨y,hy,hm.mo.trans hb.mo,hm.ta.trans hb.ta,hm.ho.trans hb.ho,fun _ hp=>by rw [hm.op]; exact hb.op (fun h=>by cases h) hp⟩
 ·obtain ⟨x,hx,hm2⟩:=back i y hy
  exact h.b i x hx (hm2.mo ▸ hm)
 ·obtain ⟨i,x,hx,h0⟩:=h.m
  obtain ⟨y,hy,hm⟩:=hs.2 i x hx
  exact ⟨i,y,hy,hm.mo.trans h0⟩
theorem cn_sub {ls ls':List LeaseV} (h:ls'.Sublist ls) (f:Int):cn ls' f≤cn ls f:=h.countP_le
theorem CI.end_ (hi:∀ l∈K.L,0≤l.ca) (hU:UQ K) (h:CI rest K) (s:Int) {r:List LeaseV} (hr:∀ y∈K.L,y.se≠s→y∈rest→y∈r):CI r (Co.endK K s):=by
 have ne:=end_ne hU s
 unfold Co.endK at ne ⊢
 split
 ·rename_i hL
  rw [if_pos hL] at ne
  obtain ⟨hm,hse⟩:=has_mem hL
  refine ⟨fun l hl=>?_,fun i y hy hmo=>?_, ?_,fun a ha l hl=>h.q a ha l (ne l hl).1,fun f=>?_⟩
  ·obtain ⟨h1,h2⟩:=ne l hl
   obtain ⟨x,hx,hb⟩:=h.a l h1
   have hne:¬ ((l.ca.toNat:Nat):Int)=(ofL K.L s).ca:=by
    rcases hU.two h1 hm with e | e
    ·exact absurd (e ▸ hse) h2
    ·have:=hi l h1; have:=e.2; omega
   refine ⟨x,by have:=Gr.one_at (i:=(ofL K.L s).ca) (f:=fun x=>(Gr.givX K.G.c x,Gr.aimE x)) hx; rw [if_neg hne] at this; exact this,hb.mo,hb.ta,hb.ho,fun hw hp=>hb.op (fun hin=>hw (hr l h1 h2 hin)) hp⟩
  ·have hlen:(giveR K.G (ofL K.L s).ca).1.cars.length=K.G.cars.length:=Gr.one_same.2.2.2
   have hil:i < K.G.cars.length:=by rw [← hlen]; exact (List.getElem?_eq_some_iff.1 hy).1
   have hx:=List.getElem?_eq_getElem hil
   have hy2:=Gr.one_at (i:=(ofL K.L s).ca) (f:=fun x=>(Gr.givX K.G.c x,Gr.aimE x)) hx
   have hy3:(giveR K.G (ofL K.L s).ca).1.cars[i]?=_:=hy2
   have hy':(giveR K.G (ofL K.L s).ca).1.cars[i]?=some y:=hy
   rw [hy'] at hy3
   have e:=Option.some.inj hy3
   by_cases hic:(i:Int)=(ofL K.L s).ca
   ·rw [if_pos hic] at e
    exfalso
    rw [e] at hmo
    change (Gr.givX K.G.c K.G.cars[i]).mo=1 at hmo
    unfold Gr.givX at hmo
    split at hmo
    ·cases hmo
    ·contradiction
   ·rw [if_neg hic] at e
    obtain ⟨l,hl,hca⟩:=h.b i _ hx (e ▸ hmo)
    refine ⟨l, ?_,hca⟩
    show l∈endL K.L s
    rw [end_filter hU.l]
    refine List.mem_filter.2 ⟨hl, ?_⟩
    have:l.se≠s:=fun e2=>by
     rcases hU.two hl hm with e3 | e3
     ·exact hic (by rw [← hca,e3])
     ·exact e3.1 (e2.trans hse.symm)
    simpa using this
  ·obtain ⟨i,x,hx,h0⟩:=h.m
   refine ⟨i,_,Gr.one_at (i:=(ofL K.L s).ca) (f:=fun x=>(Gr.givX K.G.c x,Gr.aimE x)) hx, ?_⟩
   split
   ·show (Gr.givX K.G.c x).mo=0
    unfold Gr.givX; split
    ·rfl
    ·exact h0
   ·exact h0
  ·show (cn (endL K.L s) f:Int)≤btw (giveR K.G _).1.c.qo 1 8
   rw [give_c]
   have:=cn_sub (end_sub K.L s) f
   have:=h.f f
   omega
 ·rename_i hL
  rw [if_neg hL] at ne
  exact ⟨fun l hl=>by
   obtain ⟨x,hx,hb⟩:=h.a l hl
   exact ⟨x,hx,hb.mo,hb.ta,hb.ho,fun hw hp=>hb.op (fun hin=>hw (hr l hl (ne l hl).2 hin)) hp⟩,h.b,h.m,h.q,h.f⟩
theorem cn_key {ls ls':List LeaseV} (h:ls'.map key=ls.map key) (f:Int):cn ls' f=cn ls f:=by
 have e:∀ zs:List LeaseV,cn zs f=(zs.map key).countP (fun k=>k.2.2 == f):=fun zs=>by
  unfold Fl.cn; rw [List.countP_map]; rfl
 rw [e,e,h]
theorem CI.set (hi:∀ l∈K.L,0≤l.ca) (hU:UQ K) (h:CI rest K) {l0 l:LeaseV} (h0:l0∈K.L) (hk:key l=key l0) (hg:goodB K.G.c l=true) {r:List LeaseV} (hr:∀ y∈K.L,key y≠key l→y∈rest→y∈r)
  (hop:∀ x,K.G.cars[l.ca.toNat]?=some x→HB rest x l0→(l∈r→x.br=false)→(l.ph=2∨l.ph=4)→opB x (aimF l)=true):CI r (setK K l false):=by
 have hca:l.ca=l0.ca:=congrArg (fun z=>z.2.1) hk
 have hfr:hasF K.G.c (aimF l)=true:=by
  have hm:Fl.mayB K.G.c (Le.askOf l)=true:=by unfold goodB at hg; simp only [Bool.and_eq_true] at hg; exact hg.1.1.1.1
  have:=may_fm hm
  unfold hasF aimF
  split
  ·exact decide_eq_true this.1
  ·exact decide_eq_true this.2
 have hat:∀ (k:Nat) x,K.G.cars[k]?=some x→(aimR K.G l.ca (aimF l) true).1.cars[k]?=some (if (k:Int)=l.ca then Gr.aimX (aimF l) true x else x):=fun k x hx=>by
  unfold aimR; rw [if_pos hfr]
  exact Gr.one_at hx
 have hlen:(aimR K.G l.ca (aimF l) true).1.cars.length=K.G.cars.length:=by unfold aimR; rw [if_pos hfr]; exact Gr.one_same.2.2.2
 have ham:∀ x,(Gr.aimX (aimF l) true x).mo=x.mo:=fun x=>by unfold Gr.aimX; split <;> rfl
 unfold setK
 rw [if_neg (by decide)]
 refine ⟨fun y hy=>?_,fun i y hy hmo=>?_, ?_,fun a ha y hy=>?_,fun f=>?_⟩
 ·rcases set_all hU.l hg y hy with rfl | ⟨h1,h2⟩
  ·obtain ⟨x,hx,hb⟩:=h.a l0 h0
   rw [← hca] at hx
   refine ⟨_,hat _ x hx, ?_⟩
   rw [if_pos (by have:=hi l0 h0; omega)]
   have e:Gr.aimX (aimF y) true x={ x with ta:=aimF y,ho:=true }:=by unfold Gr.aimX; rw [if_pos hb.mo]
   rw [e]
   exact ⟨hb.mo,rfl,rfl,fun hw hp=>hop x hx hb hw hp⟩
  ·obtain ⟨x,hx,hb⟩:=h.a y h1
   refine ⟨_,hat _ x hx, ?_⟩
   rw [if_neg (by
    rcases hU.two h1 h0 with e | e
    ·exact absurd (e ▸ hk.symm) h2
    ·have:=hi y h1; have:=e.2; omega)]
   exact ⟨hb.mo,hb.ta,hb.ho,fun hw hp=>hb.op (fun hin=>hw (hr y h1 h2 hin)) hp⟩
 ·have hil:i < K.G.cars.length:=by rw [← hlen]; exact (List.getElem?_eq_some_iff.1 hy).1
  have hx:=List.getElem?_eq_getElem hil
  have hy2:=hat i _ hx
  have hy':(aimR K.G l.ca (aimF l) true).1.cars[i]?=some y:=hy
  rw [hy'] at hy2
  have e:=Option.some.inj hy2
  have hm:(K.G.cars[i]).mo=1:=by
   rw [e] at hmo
   split at hmo
   ·rw [ham] at hmo; exact hmo
   ·exact hmo
  obtain ⟨z,hz,hzc⟩:=h.b i _ hx hm
  have:key z∈(setL K.G.c K.L l).map key:=by rw [set_key]; exact List.mem_map.2 ⟨z,hz,rfl⟩
  obtain ⟨z2,hz2,hk2⟩:=List.mem_map.1 this
  exact ⟨z2,hz2,by have:z2.ca=z.ca:=congrArg (fun z=>z.2.1) hk2; rw [this]; exact hzc⟩
 ·obtain ⟨i,x,hx,hm0⟩:=h.m
  refine ⟨i,_,hat i x hx, ?_⟩
  split
  ·rw [ham]; exact hm0
  ·exact hm0
 ·have:key y∈(setL K.G.c K.L l).map key:=List.mem_map.2 ⟨y,hy,rfl⟩
  rw [set_key] at this
  obtain ⟨z,hz,hkz⟩:=List.mem_map.1 this
  have e:z.se=y.se:=congrArg Prod.fst hkz
  rw [← e]; exact h.q a ha z hz
 ·show (cn (setL K.G.c K.L l) f:Int)≤btw (aimR K.G _ _ _).1.c.qo 1 8
  rw [aim_c,cn_key (set_key _ _ _)]
  exact h.f f
end
end Lc
namespace Lc
open Go.RowKit Ba Mem En Go.Proofs.YtepfmfalebmcnaaGreatDoor.Ty Mo Go.Proofs.YtepfmfalebmcnaaGreatDoor.St Co
open Ri (MsgV tickV hearV trV sp rn mayRe opB aimF)
open Qu (dropL atS btw firstA atF)
open Le (hasL ofL setL setE endL zeroL atP isS isT isP goodB)
open Gr (GrV loadR one giveR aimR takeR giveC tickG hasF)
open Ct (tkV)
section
variable {c:CfgV} {l:LeaseV} {now:Int}
theorem hearV_ph (x:CarV) (m:MsgV) (h:(hearV c l x now m).1.ph=2∨(hearV c l x now m).1.ph=4):(hearV c l x now m).1.ph=l.ph∧aimF (hearV c l x now m).1=aimF l:=by
 unfold hearV at h ⊢
 split
 ·rename_i h1
  rw [if_pos h1] at h
  split
  ·rename_i h2
   rw [if_pos h2] at h
   exfalso
   rcases h with h | h <;> cases h
  ·exact ⟨rfl,rfl⟩
 ·split
  ·exact ⟨rfl,rfl⟩
  ·split <;> exact ⟨rfl,rfl⟩
theorem tickV_op (x:CarV) (ho:(tickV c l x now).2.2=false):x.br=false∧((tickV c l x now).1.ph=2∨(tickV c l x now).1.ph=4→((l.ph=2∨l.ph=4)∧aimF (tickV c l x now).1=aimF l)∨opB x (aimF (tickV c l x now).1)=true):=by
 unfold tickV at ho ⊢
 split at ho
 ·cases ho
 rename_i hl
 rw [if_neg hl]
 refine ⟨by cases hb:x.br with | true=>exact absurd (.inl hb) hl | false=>rfl, ?_⟩
 split
 ·rename_i h1; exact fun _=>.inr h1.2
 ·split
  ·rename_i h1; exact fun _=>.inr h1.2
  ·exact fun h=>.inl ⟨h,rfl⟩
theorem good_ca (h:goodB c l=true):0≤l.ca∧l.ca < 8:=by
 unfold goodB at h
 simp only [Bool.and_eq_true,decide_eq_true_eq] at h
 exact ⟨h.1.1.1.2,h.1.1.2⟩
theorem set_keep {ls:List LeaseV} {x y:LeaseV} (hy:y∈ls) (hk:key y≠key x):y∈setL c ls x:=by
 unfold setL; split
 ·split
  ·rename_i k hat
   obtain ⟨hl,h1,_⟩:=Le.atP_some hat
   have h2:=h1 hl
   unfold isT at h2
   simp only [Bool.and_eq_true,beq_iff_eq] at h2
   obtain ⟨i,hi,rfl⟩:=List.getElem_of_mem hy
   have:i≠k:=fun e=>hk (by subst e; unfold key; rw [h2.1.1,h2.1.2,h2.2])
   rw [List.mem_iff_getElem?]
   exact ⟨i,by rw [List.getElem?_set,if_neg (fun e=>this e.symm)]; exact List.getElem?_eq_getElem hi⟩
  ·exact hy
 ·exact hy
end
section
variable {K:KV} {rest:List LeaseV} {c:CfgV} {n T m:Nat}
theorem end_keep (h:UQ K) {s:Int} {y:LeaseV} (hy:y∈K.L) (hs:y.se≠s):y∈(Co.endK K s).L:=by
 unfold Co.endK; split
 ·show y∈endL K.L s
  rw [end_filter h.l]
  exact List.mem_filter.2 ⟨hy,by simpa using hs⟩
 ·exact hy
theorem CI.ans (h:CI [] K) (a:AskV):CI [] (ansK K a):=by
 refine ⟨h.a,h.b,h.m, ?_,h.f⟩
 intro b hb l hl
 change b∈ansQ K a at hb
 unfold ansQ at hb
 split at hb
 ·split at hb
  ·exact h.q b hb l hl
  ·rename_i hn
   rcases put_mem hb with hb | rfl
   ·exact h.q b hb l hl
   ·have:=find_none (p:=isS b.se) (ls:=K.L) (by simpa [hasL,atP] using hn) l hl
    intro e
    simp [isS,e] at this
 ·exact h.q b hb l hl
theorem CI.hear (hP:PI c n T K) (hT:T≤1000000) (h:CI [] K) (s:Int) (x:MsgV):CI [] (hearK K s x):=by
 have hca:∀ l∈K.L,0≤l.ca:=fun l hl=>(hP.k.okl l hl).1
 unfold hearK; split
 ·rename_i hL
  obtain ⟨hm,hse⟩:=has_mem hL
  have hn:0≤K.G.now∧K.G.now≤1000000:=⟨hP.k.now.1,by have:=hP.t; omega⟩
  have hLI:=(hP.e _ hm).hear hn (carAt K (ofL K.L s)) x
  have hk:key (hearR K (ofL K.L s) x).1=key (ofL K.L s):=by unfold hearR; exact hearV_key _ _
  cases ho:(hearR K (ofL K.L s) x).2.2 with
  | true =>
   unfold setK; rw [if_pos rfl]
   exact h.end_ hca hP.u _ (fun _ _ _ hin=>by cases hin)
  | false =>
   refine h.set hca hP.u hm hk (by unfold hearR; rw [hP.k.g.1]; exact hLI.gd) (fun _ _ _ hin=>by cases hin) ?_
   intro y hy hb _ hp
   unfold hearR at hp ⊢
   obtain ⟨e1,e2⟩:=hearV_ph _ _ hp
   rw [e2]
   exact hb.op (fun hin=>by cases hin) (e1 ▸ hp)
 ·exact h
theorem CI.gone (hP:PI c n T K) (h:CI [] K) (s:Int):CI [] (goneK K s):=by
 have e:=h.end_ (fun l hl=>(hP.k.okl l hl).1) hP.u s (r:=[]) (fun _ _ _ hin=>by cases hin)
 exact ⟨e.a,e.b,e.m,fun a ha l hl=>h.q a ((drop_sub _ _).subset ha) l (end_ne hP.u s l hl).1,e.f⟩
theorem CI.obS {x:KV×List EvV} (hT:T≤1000000) (hP:PI c n T x.1) (h:CI [] x.1) (l:LeaseV):CI [] (obStep x l).1:=by
 have ld:∀ v,CI [] (ldK x.1 l v):=fun v=>h.grp (SG.one _ _ (fun x=>⟨rfl,rfl,rfl,rfl,rfl⟩)) (one_c _ _ _)
 have pd:∀ v,PI c n T (ldK x.1 l v):=fun v=>⟨KI.ld hP.k l v,hP.u.grp _,EI.sub hP.e (Gr.load_w _ _).2 (fun _ hy=>hy),by show (loadR x.1.G l.ca v).1.now≤T; rw [(Gr.load_w _ _).2]; exact hP.t⟩
 unfold obStep; split
 ·exact (ld _).hear (pd _) hT _ _
 ·split
  ·exact (ld _).hear (pd _) hT _ _
  ·exact h
theorem CI.ob (hT:T≤1000000) (hP:PI c n T K) (h:CI [] K) (k:Nat):CI [] (obF K k).1:=by
 have key:∀ (ls:List LeaseV) (x:KV×List EvV),PI c n T x.1→CI [] x.1→CI [] (ls.foldl obStep x).1:=by
  intro ls
  induction ls with
  | nil=>intro x _ h; exact h
  | cons l r ih=>intro x hP h; rw [List.foldl_cons]; exact ih _ (obS_pi hT hP l) (CI.obS hT hP h l)
 exact key _ _ hP h
theorem CI.do_ (hT:T≤1000000) (hP:PI c n T K) (h:CI [] K) (o:KopV):CI [] (doK K o):=by
 unfold doK
 split
 ·exact h.ans _
 split
 ·exact h.hear hP hT _ _
 split
 ·exact h.gone hP _
 split
 ·exact CI.ob hT hP h _
 ·exact h.grp (gdo_sg _ _) (gdo_w _ _).2.1
theorem car_of {x:CarV} {l:LeaseV} (h:K.G.cars[l.ca.toNat]?=some x):carAt K l=x:=by
 unfold carAt; rw [List.getD_eq_getElem?_getD,h]; rfl
theorem CI.fold {now:Int} (hn:0≤now∧now≤1000000):∀ (rest:List LeaseV) (x:KV×List EvV),x.1.G.now=now→x.1.G.c=c→UQ x.1→(∀ y∈rest,Bn c y)→(∀ y∈x.1.L,y∈rest∨LI c now y)→(rest.map key).Pairwise KR→(∀ y∈rest,y∈x.1.L)→CI rest x.1→CI [] (rest.foldl stepK x).1
 | [],x,_,_,_,_,_,_,_,h=>h
 | l::r,x,h1,h2,h3,h4,h5,h6,h7,h=>by
  rw [List.foldl_cons]
  rw [List.map_cons,List.pairwise_cons] at h6
  have hs:(stepK x l).1=setK x.1 (stepR x.1 l).1 (stepR x.1 l).2.2:=rfl
  have hk:key (stepR x.1 l).1=key l:=by unfold stepR; exact tickV_key _
  have hse:(stepR x.1 l).1.se=l.se:=congrArg Prod.fst hk
  have hlL:=h7 l (List.mem_cons_self ..)
  have hca:∀ y∈x.1.L,0≤y.ca:=fun y hy=>by
   rcases h5 y hy with e | e
   ·exact (good_ca (h4 y e).gd).1
   ·exact (good_ca e.gd).1
  obtain ⟨x0,hx0,hb0⟩:=h.a l hlL
  have hcar:=car_of hx0
  have hne:∀ y∈r,y.se≠l.se:=fun y hy e=>(h6.1 _ (List.mem_map.2 ⟨y,hy,rfl⟩)).1 e.symm
  have h5':∀ y∈(stepK x l).1.L,y∈r∨LI c now y:=by
   intro y hy
   rw [hs] at hy
   cases ho:(stepR x.1 l).2.2 with
   | true =>
    rw [ho] at hy
    unfold setK at hy
    rw [if_pos rfl] at hy
    obtain ⟨hy1,hy2⟩:=end_ne h3 _ y hy
    rcases h5 y hy1 with h | h
    ·rcases List.mem_cons.1 h with rfl | h
     ·exact absurd hse.symm hy2
     ·exact .inl h
    ·exact .inr h
   | false =>
    have hl:LI c now (stepR x.1 l).1:=by
     unfold stepR at ho ⊢
     rw [h1,h2] at ho ⊢
     exact (h4 l (List.mem_cons_self ..)).tick hn _ ho
    rw [ho] at hy
    unfold setK at hy
    rw [if_neg (by decide)] at hy
    change y∈setL x.1.G.c x.1.L _ at hy
    rw [h2] at hy
    rcases set_all h3.l hl.gd y hy with rfl | ⟨hy1,hy2⟩
    ·exact .inr hl
    ·rcases h5 y hy1 with h | h
     ·rcases List.mem_cons.1 h with rfl | h
      ·exact absurd hk.symm hy2
      ·exact .inl h
     ·exact .inr h
  refine CI.fold hn r (stepK x l) (by rw [hs,set_now]; exact h1) (by rw [hs,setK_c]; exact h2) (by rw [hs]; exact h3.set _ _) (fun y hy=>h4 y (List.mem_cons_of_mem _ hy)) h5' h6.2 ?_ ?_
  ·intro y hy
   have hyL:=h7 y (List.mem_cons_of_mem _ hy)
   rw [hs]
   unfold setK; split
   ·exact end_keep h3 hyL (by rw [hse]; exact hne y hy)
   ·exact set_keep hyL (fun e=>hne y hy (by have:y.se=(stepR x.1 l).1.se:=congrArg Prod.fst e; rw [this,hse]))
  ·rw [hs]
   cases ho:(stepR x.1 l).2.2 with
   | true =>
    unfold setK; rw [if_pos rfl]
    exact h.end_ hca h3 _ (fun y _ hy2 hin=>by
     rcases List.mem_cons.1 hin with rfl | hin
     ·exact absurd hse.symm hy2
     ·exact hin)
   | false =>
    have hgd:LI c now (stepR x.1 l).1:=by
     have ho':=ho
     unfold stepR at ho' ⊢
     rw [h1,h2] at ho' ⊢
     exact (h4 l (List.mem_cons_self ..)).tick hn _ ho'
    refine h.set hca h3 hlL hk (by rw [h2]; exact hgd.gd) (fun y _ hy2 hin=>by
     rcases List.mem_cons.1 hin with rfl | hin
     ·exact absurd hk.symm hy2
     ·exact hin) ?_
    intro y hy hb _ hp
    have hcae:(stepR x.1 l).1.ca=l.ca:=congrArg (fun z=>z.2.1) hk
    rw [hcae,hx0] at hy
    have hy:=Option.some.inj hy
    subst hy
    unfold stepR at ho hp ⊢
    rw [hcar] at ho hp ⊢
    obtain ⟨hbr,hop⟩:=tickV_op _ ho
    rcases hop hp with ⟨e1,e2⟩|e
    ·rw [e2]; exact hb.op (fun _=>hbr) e1
    ·exact e
end
end Lc
namespace Lc
open Go.RowKit Ba Mem En Go.Proofs.YtepfmfalebmcnaaGreatDoor.Ty Mo Go.Proofs.YtepfmfalebmcnaaGreatDoor.St Co
open Ri (opB aimF)
open Qu (dropL atS btw firstA atF okF atI)
open Le (atP isP goodB)
open Fl (freeB)
open Gr (GrV takeR tickG hasF idB)
open Ct (tkV tkX tkR tkO tkK ldX ldR ldO ldK ldT)
theorem tkV_flags (c:CfgV) (y:CarV):(tkV c y).mo=y.mo∧(tkV c y).ta=y.ta∧(tkV c y).ho=y.ho∧(tkV c y).br=y.br:=by
 obtain ⟨_,_,_,e4,e5,e6,_,e8⟩:=Ct.tk_same c y
 exact ⟨e5,e6,e8,e4⟩
theorem tkV_stays (c:CfgV) (y:CarV) (hm:y.mo=1) (hh:y.ho=true) (hb:y.br=false) (ho:opB y y.ta=true):opB (tkV c y) y.ta=true:=by
 unfold opB at ho
 simp only [Bool.and_eq_true,beq_iff_eq] at ho
 obtain ⟨⟨h1,h2⟩,h3⟩:=ho
 have ht:ldT y=true:=by
  unfold ldT
  refine decide_eq_true ?_
  unfold lvN at h2
  rw [if_pos h1] at h2
  unfold lvB at h1
  have:=of_decide_eq_true h1
  unfold tw
  rw [if_neg (by omega),if_neg (by omega)]
 have eX:tkX c y=y:=by unfold tkX; rw [if_neg (by rw [hb]; decide),if_pos hm]; unfold ldX; rw [if_neg (by rw [h3]; exact fun h=>absurd h.1 (by decide))]
 have eR:tkR y=0:=by unfold tkR; rw [if_neg (by rw [hb]; decide),if_pos hm]; unfold ldR; rw [if_neg (by rw [h3]; exact fun h=>absurd h.1 (by decide))]
 have eO:tkO y=false:=by unfold tkO; rw [if_neg (by rw [hb]; decide),if_pos hm]; unfold ldO; rw [if_neg (by rw [h3]; decide),h3]; simp
 have eK:tkK c y=false:=by unfold tkK; rw [if_neg (by rw [hb]; decide),if_pos hm]; unfold Ct.ldK; rw [ht,hh]; simp
 have e:tkV c y=Pl.stepV c y 0 false false:=by unfold tkV; rw [eX,eR,eO,eK]
 have eds:(Pl.stepV c y 0 false false).ds=2:=by
  show Pl.dS1 c y false false=2
  unfold Pl.dS1 Pl.dS0 Pl.toldS
  rw [if_neg (by rw [hb]; decide),if_neg (by simp),if_neg (by simp),h3]
  unfold Do.tS
  rw [if_neg (by omega),if_neg (by omega),if_neg (by omega),if_neg (by omega)]
 have eun:(Pl.stepV c y 0 false false).un=y.un:=by
  show Pl.un1 c y 0 false false=y.un
  unfold Pl.un1 Pl.goesB
  rw [if_neg (by rw [h3]; simp)]
 rw [e]
 unfold opB
 rw [eds,eun]
 simp [h1,h2]
section
variable {K:KV} {c:CfgV} {n T m:Nat}
theorem near_sm {x y:CarV} (h0:Gr.Near x y):SM x y∧y.br=x.br:=by
 have h:y={ x with su:=y.su,sd:=y.sd }:=h0
 have e1:=congrArg CarV.mo h
 have e2:=congrArg CarV.ta h
 have e3:=congrArg CarV.ho h
 have e4:=congrArg CarV.ds h
 have e5:=congrArg CarV.un h
 have e6:=congrArg CarV.br h
 exact ⟨⟨e1,e2,e3,e4,e5⟩,e6⟩
theorem CI.tk1 (h:CI [] K):CI K.L (tkK1 K):=by
 have at':∀ (k:Nat) x,K.G.cars[k]?=some x→∃ z,(tickG K.G).cars[k]?=some z∧z.mo=x.mo∧z.ta=x.ta∧z.ho=x.ho∧(z.br=false→x.mo=1→x.ho=true→opB x x.ta=true→opB z x.ta=true):=fun k x hx=>by
  obtain ⟨y,_,hn,hz⟩:=Gr.tick_at hx
  obtain ⟨hs,hbr⟩:=near_sm hn
  obtain ⟨f1,f2,f3,f4⟩:=tkV_flags K.G.c y
  refine ⟨_,hz,f1.trans hs.mo,f2.trans hs.ta,f3.trans hs.ho,fun h1 h2 h3 h4=>?_⟩
  have:=tkV_stays K.G.c y (hs.mo.trans h2) (hs.ho.trans h3) (f4 ▸ h1) (by rw [hs.op,hs.ta]; exact h4)
  rw [hs.ta] at this; exact this
 have back:∀ (i:Nat) z,(tickG K.G).cars[i]?=some z→∃ x,K.G.cars[i]?=some x∧z.mo=x.mo:=fun i z hz=>by
  have hi:i < K.G.cars.length:=by rw [← Gr.tick_len K.G]; exact (List.getElem?_eq_some_iff.1 hz).1
  obtain ⟨z',h1,h2,_⟩:=at' i _ (List.getElem?_eq_getElem hi)
  rw [h1] at hz
  exact ⟨_,List.getElem?_eq_getElem hi,Option.some.inj hz ▸ h2⟩
 refine ⟨fun l hl=>?_,fun i z hz hm=>?_, ?_,h.q,h.f⟩
 ·obtain ⟨x,hx,hb⟩:=h.a l hl
  obtain ⟨z,hz,e1,e2,e3,e4⟩:=at' _ x hx
  refine ⟨z,hz,e1.trans hb.mo,e2.trans hb.ta,e3.trans hb.ho,fun hw hp=>?_⟩
  have:=e4 (hw hl) hb.mo hb.ho (by rw [hb.ta]; exact hb.op (fun h=>by cases h) hp)
  rw [hb.ta] at this; exact this
 ·obtain ⟨x,hx,e⟩:=back i z hz
  exact h.b i x hx (e ▸ hm)
 ·obtain ⟨i,x,hx,h0⟩:=h.m
  obtain ⟨z,hz,e,_⟩:=at' i x hx
  exact ⟨i,z,hz,e.trans h0⟩
theorem near_can (f:Int) (cs:List CarV):∀ k,0≤(nrL f cs k).1→∃ x,cs[(nrL f cs k).1.toNat]?=some x∧canB x=true
 | 0=>fun h=>by exact absurd h (by show ¬ (0:Int) ≤ -1; decide)
 | k+1=>fun h=>by
  unfold nrL at h ⊢
  split at h
  ·exact near_can f cs k h
  ·rename_i x hx
   split at h
   ·rename_i hc
    rw [if_pos hc]
    exact ⟨x,by show cs[((k:Int)).toNat]?=_; rw [Int.toNat_natCast]; exact hx,hc.1⟩
   ·rename_i hc
    rw [if_neg hc]
    exact near_can f cs k h
theorem one_p {α:Type} {p:α→Bool}:∀ {ls:List α},1≤ls.countP p→∃ (i:Nat) (x:α),ls[i]?=some x∧p x=true:=by
 intro ls h
 obtain ⟨x,hx,hp⟩:=List.countP_pos_iff.1 (show 0 < ls.countP p by omega)
 obtain ⟨i,hi⟩:=List.mem_iff_getElem?.1 hx
 exact ⟨i,x,hi,hp⟩
theorem two_p {α:Type} {p:α→Bool}:∀ (ls:List α) (k:Nat),2≤ls.countP p→∃ (i:Nat) (x:α),i≠k∧ls[i]?=some x∧p x=true
 | [],_,h=>by simp at h
 | a::r,0,h=>by
  rw [List.countP_cons] at h
  obtain ⟨i,x,h1,h2⟩:=one_p (ls:=r) (p:=p) (by split at h <;> omega)
  exact ⟨i+1,x,by omega,h1,h2⟩
 | a::r,k+1,h=>by
  rw [List.countP_cons] at h
  by_cases ha:p a=true
  ·exact ⟨0,a,by omega,rfl,ha⟩
  ·rw [if_neg ha] at h
   obtain ⟨i,x,h0,h1,h2⟩:=two_p r k h
   exact ⟨i+1,x,by omega,h1,h2⟩
theorem full_mem (K:KV) {v:Int} (hv:0≤v) (hf:¬ freeB K.G.c K.L v=true):∀ k:Nat,v < (k:Int)→v∈fullL K k
 | 0,h=>by omega
 | k+1,h=>by
  unfold fullL
  by_cases e:v=(k:Int)
  ·subst e; rw [if_neg hf]; simp
  ·have:=full_mem K hv hf k (by omega)
   split
   ·exact this
   ·exact List.mem_append_left _ this
theorem CI.grant (hU:UQ K) (hk:KI c n T m K) (h:CI [] K):CI [] (grantK K):=by
 unfold grantK; split
 ·exact h
 rename_i a ha
 unfold grA at ha
 split at ha
 ·cases ha
 rename_i hpf
 by_cases hat:(atF K.Q (fullL K 8)).isSome=true
 case neg=>rw [if_neg hat] at ha; cases ha
 rw [if_pos hat] at ha
 by_cases hnear:nearI K (firstA K.Q (fullL K 8)).fm < 0
 case pos=>rw [if_pos hnear] at ha; cases ha
 rw [if_neg hnear] at ha
 have ha:=Option.some.inj ha
 -- who it is
 obtain ⟨k,hatk⟩:=Option.isSome_iff_exists.1 hat
 obtain ⟨hkl,hk1,_⟩:=Qu.atF_some hatk
 have hfa:firstA K.Q (fullL K 8)=K.Q[k]:=by unfold firstA; rw [hatk]; simp [List.getD,hkl]
 rw [hfa] at ha hnear
 have haQ:a∈K.Q:=by rw [← ha]; exact List.getElem_mem hkl
 have hfree:(atI (fullL K 8) a.fl).isSome=false:=by rw [← ha]; exact hk1 hkl
 rw [ha] at hnear
 have hmay:=hk.okq a haQ
 have hc:=hk.g.1
 -- its car
 obtain ⟨x0,hx0,hcan⟩:=near_can a.fm K.G.cars K.G.cars.length (by show 0≤nearI K a.fm; omega)
 have hx0:K.G.cars[(nearI K a.fm).toNat]?=some x0:=hx0
 have hid:idB x0=true:=by unfold canB at hcan; simp only [Bool.and_eq_true] at hcan; exact hcan.1.1
 have hmo0:x0.mo=0:=by unfold idB at hid; exact (of_decide_eq_true hid).1
 have hlt:=(List.getElem?_eq_some_iff.1 hx0).1
 have hb8:=Gr.ncars_bd c
 have hlen:=hk.len
 have hfm:=(may_fm hmay).1
 have hhas:hasF K.G.c a.fm=true:=by unfold hasF; rw [hc]; exact decide_eq_true hfm
 have hcat:∀ (i:Nat) x,K.G.cars[i]?=some x→(takeR K.G (nearI K a.fm) a.fm).1.cars[i]?=some (if (i:Int)=nearI K a.fm then Gr.takeX a.fm x else x):=fun i x hx=>by
  unfold takeR; rw [if_pos hhas]; exact Gr.one_at hx
 have hclen:(takeR K.G (nearI K a.fm) a.fm).1.cars.length=K.G.cars.length:=by unfold takeR; rw [if_pos hhas]; exact Gr.one_same.2.2.2
 have hcar:∀ l∈K.L,l.ca≠nearI K a.fm:=fun l hl e=>by
  obtain ⟨x,hx,hb⟩:=h.a l hl
  rw [e,hx0] at hx
  have:=Option.some.inj hx
  have:=hb.mo
  subst x
  omega
 have hse:∀ l∈K.L,l.se≠a.se:=fun l hl e=>h.q a haQ l hl e.symm
 have hfl:0≤a.fl∧a.fl < 8:=by
  have:=hmay
  unfold Fl.mayB Fl.belB at this
  simp only [Bool.and_eq_true,decide_eq_true_eq] at this
  have e:btw c.ft 1 8≤8:=by unfold btw; (repeat' split) <;> omega
  omega
 have hfr:freeB K.G.c K.L a.fl=true:=by
  by_cases e:freeB K.G.c K.L a.fl=true
  ·exact e
  ·exfalso
   have hm:=full_mem K hfl.1 e 8 (by omega)
   have:=find_none hfree a.fl hm
   simp at this
 have hgood:goodB K.G.c (grL K a)=true:=by
  unfold goodB
  rw [hc]
  show (Fl.mayB c a && decide (0≤nearI K a.fm) && decide (nearI K a.fm < 8) && decide ((1:Int)≤1) && decide ((1:Int)≤4))=true
  rw [hmay,decide_eq_true (show 0≤nearI K a.fm by omega),decide_eq_true (show nearI K a.fm < 8 by omega)]
  rfl
 have hput:Le.putE K.G.c K.L (grL K a)=0:=by
  unfold Le.putE
  rw [if_pos hgood,if_neg,if_pos (show freeB K.G.c K.L (grL K a).fl=true from hfr)]
  intro hs
  obtain ⟨j,hj⟩:=Option.isSome_iff_exists.1 hs
  obtain ⟨hjl,hj1,_⟩:=Le.atP_some hj
  have:=hj1 hjl
  unfold isP at this
  simp only [Bool.or_eq_true,beq_iff_eq] at this
  rcases this with e | e
  ·exact hse _ (List.getElem_mem hjl) e
  ·exact hcar _ (List.getElem_mem hjl) e
 have hL:(grK K a).L=K.L++[grL K a]:=by show Le.putL _ _ _=_; unfold Le.putL; rw [if_pos hput]
 refine ⟨fun l hl=>?_,fun i y hy hmo=>?_, ?_,fun b hb l hl=>?_,fun f=>?_⟩
 ·rw [hL] at hl
  rcases List.mem_append.1 hl with hl | hl
  ·obtain ⟨x,hx,hb⟩:=h.a l hl
   refine ⟨_,hcat _ x hx, ?_⟩
   rw [if_neg (by have:=hcar l hl; have:=(hk.okl l hl).1; omega)]
   exact hb
  ·rw [List.mem_singleton] at hl
   subst hl
   refine ⟨_,hcat _ x0 hx0, ?_⟩
   rw [if_pos (show ((grL K a).ca.toNat:Int)=nearI K a.fm by show ((nearI K a.fm).toNat:Int)=_; omega)]
   have e:Gr.takeX a.fm x0={ x0 with mo:=1,ta:=a.fm,ho:=true }:=by unfold Gr.takeX; rw [if_pos hid]
   rw [e]
   exact ⟨rfl,rfl,rfl,fun _ hp=>by rcases hp with hp | hp <;> exact absurd (show (1:Int)=_ from hp) (by decide)⟩
 ·rw [hL]
  have hil:i < K.G.cars.length:=by rw [← hclen]; exact (List.getElem?_eq_some_iff.1 hy).1
  have hx:=List.getElem?_eq_getElem hil
  have hy2:=hcat i _ hx
  have hy':(takeR K.G (nearI K a.fm) a.fm).1.cars[i]?=some y:=hy
  rw [hy'] at hy2
  have e:=Option.some.inj hy2
  by_cases hi:(i:Int)=nearI K a.fm
  ·exact ⟨grL K a,by simp,hi.symm⟩
  ·rw [if_neg hi] at e
   obtain ⟨l,hl,hlc⟩:=h.b i _ hx (e ▸ hmo)
   exact ⟨l,List.mem_append_left _ hl,hlc⟩
 ·have h2:2≤K.G.cars.countP nrmC:=by
   unfold pfB at hpf
   simp only [Bool.or_eq_true,decide_eq_true_eq,not_or] at hpf
   omega
  obtain ⟨i,x,hne,hx,hp⟩:=two_p K.G.cars (nearI K a.fm).toNat h2
  refine ⟨i,_,hcat i x hx, ?_⟩
  rw [if_neg (by omega)]
  unfold nrmC at hp
  simp only [Bool.and_eq_true,beq_iff_eq] at hp
  exact hp.1
 ·rw [hL] at hl
  have hb':b∈dropL K.Q a.se:=hb
  rw [drop_filter hU.q] at hb'
  obtain ⟨h1,h2⟩:=List.mem_filter.1 hb'
  rcases List.mem_append.1 hl with hl | hl
  ·exact h.q b h1 l hl
  ·rw [List.mem_singleton] at hl
   subst hl
   show b.se≠a.se
   simpa using h2
 ·rw [hL]
  show _≤btw (takeR K.G _ _).1.c.qo 1 8
  rw [take_c]
  have e:Fl.cn (K.L++[grL K a]) f=Fl.cn K.L f+if a.fl=f then 1 else 0:=by
   unfold Fl.cn
   rw [List.countP_append,List.countP_cons,List.countP_nil]
   simp only [Nat.zero_add]
   congr 1
   by_cases hf:a.fl=f
   ·rw [if_pos hf,if_pos]; show (a.fl == f)=true; simpa using hf
   ·rw [if_neg hf,if_neg]; show ¬ (a.fl == f)=true; simpa using hf
  rw [e]
  have:=h.f f
  by_cases hf:a.fl=f
  ·rw [if_pos hf]
   unfold freeB at hfr
   have:=of_decide_eq_true hfr
   rw [hf] at this
   omega
  ·rw [if_neg hf]; omega
theorem CI.tick (hP:PI c n T K) (hT:T < 1000000) (h:CI [] K):CI [] (tickK K):=by
 have hn:0≤K.G.now∧K.G.now≤1000000:=⟨hP.k.now.1,by have:=hP.t; omega⟩
 have h1:=tk1_now K hn
 have hn2:0≤(tkK1 K).G.now∧(tkK1 K).G.now≤1000000:=by rw [h1]; have:=hP.t; omega
 refine CI.grant (hP.u.fold _) (hP.k.fold K.L.length) ?_
 unfold foldK
 rw [show K.L.take K.L.length=K.L from List.take_length]
 exact CI.fold hn2 K.L (tkK1 K,[]) rfl hP.k.g.1 (hP.u.grp _) (fun y hy=>(hP.e y hy).toBn) (fun y hy=>.inl hy) hP.u.l (fun y hy=>hy) h.tk1
end
end Lc
namespace Gw
open Go.RowKit Ba Mem En Go.Proofs.YtepfmfalebmcnaaGreatDoor.Ty
open Ri (MsgV)
open Mg (PktV)
open Co (KV KI KT EvV ansK hearK goneK tickK tickE inC newK)
open Lc (PI CI doK KopV)
set_option maxRecDepth 100000
structure JI (c:CfgV) (n T:Nat) (x:Kv):Prop where
 p:PI c n T x.1
 ci:CI [] x.1
 t:TI (64*T:Nat) x
section
variable {c:CfgV} {n T:Nat} {x:Kv}
theorem PI.an {K:KV} (h:PI c n T K) (hT:T≤1000000) (a:AskV):PI c n T (ansK K a):=by
 have h2:=h.do_ hT ⟨1,0,0,a,⟨0,0,0,0⟩⟩
 exact ⟨h.k.ans a,h2.u,h2.e,h2.t⟩
theorem PI.he {K:KV} (h:PI c n T K) (hT:T≤1000000) (s:Int) (m:MsgV):PI c n T (hearK K s m):=by
 have h2:=h.do_ hT ⟨2,0,0,⟨s,0,0,0,0⟩,m⟩
 exact ⟨h.k.hear s m,h2.u,h2.e,h2.t⟩
theorem PI.go {K:KV} (h:PI c n T K) (hT:T≤1000000) (s:Int):PI c n T (goneK K s):=by
 have h2:=h.do_ hT ⟨3,0,0,⟨s,0,0,0,0⟩,⟨0,0,0,0⟩⟩
 exact ⟨h.k.gone s,h2.u,h2.e,h2.t⟩
theorem JI.new (c:CfgV):JI c 0 0 (newK c,fun _=>none):=⟨PI.new c,CI.new c,⟨by simp [newK],by simp [newK],fun i v h=>(by cases h),fun i v h=>(by cases h)⟩⟩
theorem JI.more {n' T':Nat} (h:JI c n T x) (h1:n≤n') (h2:T≤T'):JI c n' T' x:=⟨h.p.more h1 h2,h.ci,h.t.more (by omega)⟩
theorem JI.end_ (h:JI c n T x) (hT:T≤1000000) (i:Int):JI c n T (endV x i):=⟨PI.go h.p hT i,h.ci.gone h.p i,h.t.end_ i⟩
theorem JI.tell1 (h:JI c n T x) (hT:T≤1000000) (e:EvV):JI c n T (tell1 x e):=by
 have ht:=h.t.tell1 e
 unfold Gw.tell1 at ht ⊢
 cases hv:x.2 e.s with
 | none=>exact h
 | some v =>
  rw [hv] at ht
  simp only [] at ht ⊢
  split
  ·rename_i hw
   rw [if_pos hw] at ht
   exact ⟨h.p,h.ci,ht⟩
  ·exact h.end_ hT _
theorem JI.tell (h:JI c n T x) (hT:T≤1000000) (es:List EvV):JI c n T (tellF x es):=by
 unfold tellF
 induction es generalizing x with
 | nil=>exact h
 | cons e r ih=>exact ih (h.tell1 hT e)
theorem JI.set (h:JI c n T x) (i:Int) (v:SeV) (h1:v.ls.length≤16) (h2:0≤v.k.st∧v.k.st≤(64*T:Nat)):JI c n T (x.1,setV x.2 i (some v)):=⟨h.p,h.ci,h.t.set i v h1 h2⟩
theorem JI.born (h:JI c n T x) (hT:T≤1000000) (e i:Int) (m:MsgV):JI c n T (bornK c x e i m) :=
 JI.tell1 (h.set i _ (by simp [newV]) (by simp [newV]; omega)) hT _
theorem JI.wel (h:JI c n T x) (hT:T≤1000000) (ep i:Int) (m:MsgV):JI c n T (welK c x ep i m).1:=by
 unfold welK
 cases x.2 i with
 | none=>exact h.born hT _ _ _
 | some v =>
  simp only []
  split
  ·exact h
  ·exact (h.end_ hT i).born hT _ _ _
theorem KI.qlen {m:Nat} {K:KV} (h:KI c n T m K):K.Q.length≤1000:=by have:=h.lq; omega
theorem JI.said (h:JI c n T x) (hT:T≤10000) (s f:Int) (m:MsgV):JI c n T (saidK x.1 s f m,x.2):=by
 have hT2:T≤1000000:=by omega
 unfold saidK
 split
 ·have h2:=PI.an h.p hT2 ⟨s,f,m.a,m.b,m.c⟩
  exact ⟨h2,h.ci.ans _,⟨KI.qlen h2.k,by have:=h2.k.ll; show (ansK x.1 _).L.length≤10000; omega,h.t.s,h.t.t⟩⟩
 ·split
  ·have h2:=PI.he h.p hT2 s m
   exact ⟨h2,h.ci.hear h.p hT2 s m,⟨KI.qlen h2.k,by have:=h2.k.ll; show (hearK x.1 _ _).L.length≤10000; omega,h.t.s,h.t.t⟩⟩
  ·exact h
theorem JI.come (h:JI c n T x) (hT:T≤10000) (ep:Int) (p:PktV):JI c n T (comeK c x ep p).1:=by
 have hT2:T≤1000000:=by omega
 unfold comeK
 split
 ·exact h.wel hT2 _ _ _
 ·cases hv:x.2 p.se with
  | none=>exact h
  | some v =>
   have h1:=h.t.s _ _ hv
   have h2:=h.t.t _ _ hv
   have set:∀ b,JI c n T (x.1,setV x.2 p.se (some (recvS v p x.1.G.now b))):=fun b=>by
    have h3:=recv_len v p x.1.G.now b
    have h4:=recv_st v p x.1.G.now b
    exact h.set p.se _ (by omega) (by omega)
   simp only []
   split
   ·exact JI.tell (JI.said (set true) hT p.se v.h.b (msgP p)) hT2 _
   ·exact set _
theorem JI.cars (h:JI c n T x):x.1.G.cars.length≤10000:=by
 have:=h.p.k.len
 have:=Gr.ncars_bd c
 omega
theorem JI.inc (h:JI c n T x) (s:Int) (hs:Le.hasL x.1.L s=true):inC x.1 (Le.ofL x.1.L s):=h.p.k.inc (h.p.k.okl _ (Co.has_mem hs).1)
theorem JI.sd (h:JI c n T x) (hT:T≤10000) (s f:Int) (m:MsgV):(saidK x.1 s f m).Q.length≤1000∧(saidK x.1 s f m).L.length≤10000:=⟨(h.said hT s f m).t.q,(h.said hT s f m).t.l⟩
end
def runL (c:CfgV) (x:Kv×Int) (ps:List (List Int)):Kv×Int:=ps.foldl (fun x p=>if (Mg.getV p).2=0 then comeK c x.1 x.2 (Mg.getV p).1 else x) x
theorem JI.run {c:CfgV} {n T:Nat} (hT:T≤10000):∀ (ps:List (List Int)) {x:Kv×Int},JI c n T x.1→JI c n T (runL c x ps).1
 | [],x,h=>h
 | p::r,x,h=>by
  show JI c n T (runL c (if (Mg.getV p).2=0 then comeK c x.1 x.2 (Mg.getV p).1 else x) r).1
  refine JI.run hT r ?_
  split
  ·exact h.come hT _ _
  ·exact h
end Gw
namespace Gw
open Go.RowKit Ba Mem En Go.Proofs.YtepfmfalebmcnaaGreatDoor.Ty Mp Tm
open Ri (MsgV)
open Mg (PktV pktC getV)
open Fm (nextF frames frm)
open Fq (SO NX)
open Byt (BV isB)
open Co (KV Pt KW Nr evE EvV evs inC Hold.ob)
set_option maxRecDepth 100000
theorem bv_up {T:List Nat} {w w':World} {A:Option Addr} {n:Nat} {zs:List Int} (u:Upd T w w') (h:BV w A n zs) (hd:∀ g∈rdF A n,g∉T):BV w' A n zs:=by
 obtain ⟨h1,h2,h3,h4⟩:=h
 refine ⟨h1,h2,h3, ?_⟩
 rcases h4 with h4 | ⟨b,off,rfl,hb,hc⟩
 ·exact .inl h4
 ·cases n with
  | zero=>exact .inl rfl
  | succ n=>exact .inr ⟨b,off,rfl,Nat.lt_of_lt_of_le hb u.size,fun j hj=>upd_cell u hb (hd b (by simp [rdF,blkOf])) (hc j hj)⟩
theorem bv_lt {w:World} {A:Option Addr} {n:Nat} {zs:List Int} (h:BV w A n zs):∀ g∈rdF A n,g < w.heap.size:=by
 intro g hg
 obtain ⟨h1,h2,h3,h4⟩:=h
 cases n with
 | zero=>cases hg
 | succ n =>
  rcases h4 with h4 | ⟨b,off,rfl,hb,hc⟩
  ·cases h4
  ·have:g=b:=by simpa [rdF,blkOf] using hg
   omega
def bvO (A:Option Addr) (n:Nat) (zs:List Int):Asr:=⟨rdF A n,false,fun w=>BV w A n zs,fun u hd h=>bv_up u h hd,fun h=>bv_lt h⟩
structure SP (s N:Nat) (xs:List Int) (Ss:List Nat) (A:Option Addr) (c:Nat) (p:List Int) (w:World):Prop where
 st:SO 0 s N xs Ss w
 pl:byteE.At 0 A p.length c p w
 far:∀ g∈Ss,g∉blkOf A
def spO (s N:Nat) (xs:List Int) (Ss:List Nat) (A:Option Addr) (c:Nat) (p:List Int) (rw:Bool):Asr:=⟨Ss++blkOf A,rw,SP s N xs Ss A c p,fun u hd h=>⟨h.st.upd u (fun g hg=>hd g (List.mem_append.2 (.inl hg))),u.own h.pl (fun g hg=>hd g (List.mem_append.2 (.inr hg))),h.far⟩,fun h g hg=>by
 rcases List.mem_append.1 hg with hg | hg
 ·exact h.st.lt g hg
 ·exact own_lt h.pl g hg⟩
theorem so_isB {s N:Nat} {xs:List Int} {Ss:List Nat} {w:World} (h:SO 0 s N xs Ss w):∀ z∈xs,isB z:=by
 obtain ⟨_,A,n,c,tk,zs,_,_,_,hb,_,e,_⟩:=h
 intro z hz
 rw [← e] at hz
 exact hb z (List.mem_of_mem_drop hz)
section
variable {s N:Nat} {xs p:List Int} {Ss:List Nat} {A:Option Addr} {c:Nat} {w:World}
theorem feedP (h:SP s N xs Ss A c p w) {dA:Option Addr} {dn dc:Nat} {zs:List Int} (hb:BV w dA dn zs) (hN:N+dn≤1000000) (hp:A=none) :
  Calls Tryz.prog 98 #[.pointer (some ⟨s,0,none⟩),.slice dA dn dc] w fun e w'=>∃ S',e=.returned (.tuple #[])∧SP s (N+dn) (xs++zs) S' A c p w'∧Upd (Ss++blkOf A) w w'∧∀ g∈S'++blkOf A,g∈Ss++blkOf A∨w.heap.size≤g:=by
 subst hp
 refine (Fq.feedT 0 s N xs Ss dA dn dc zs w h.st hb hN).mono ?_
 rintro e w' ⟨S',rfl,h1,h2,h3⟩
 have e0:blkOf (none:Option Addr)=[]:=rfl
 have e1:∀ L:List Nat,L++blkOf (none:Option Addr)=L:=fun L=>List.append_nil L
 rw [e1]
 refine ⟨S',rfl, ?_⟩
 rw [e1]
 exact ⟨ ⟨h1,h2.own h.pl (by intro g hg; cases hg),by intro g _ hg; cases hg⟩,h2,h3⟩
def popP (l:List Int):List Int:=(nextF l).1.getD []
def popB (l:List Int):Bool:=(nextF l).1.isSome
theorem nextP (h:SP s N xs Ss A c p w) (hN:N≤1000000) :
  Calls Tryz.prog 99 #[.pointer (some ⟨s,0,none⟩)] w fun e w'=>∃ y:List Nat×Option Addr×Nat,e=.returned (.tuple #[.slice y.2.1 (popP xs).length y.2.2,.bool (popB xs)])∧SP s N (nextF xs).2 y.1 y.2.1 y.2.2 (popP xs) w'∧Upd (Ss++blkOf A) w w'∧∀ g∈y.1++blkOf y.2.1,g∈Ss++blkOf A∨w.heap.size≤g:=by
 refine (Fq.nextT 0 s N xs Ss w h.st hN).mono ?_
 rintro e w' ⟨S',h1,h2,h3,h4⟩
 have u:Upd (Ss++blkOf A) w w':=h2.mono (fun g hg _=>List.mem_append.2 (.inl hg))
 unfold popP popB
 cases hn:(nextF xs).1 with
 | none =>
  rw [hn] at h4
  refine ⟨(S',none,0),h4,⟨h1,Ek.nil _ _ _,by intro g _ hg; cases hg⟩,u,fun g hg=>?_⟩
  rcases List.mem_append.1 hg with hg | hg
  ·exact (h3 g hg).imp (fun h=>List.mem_append.2 (.inl h)) id
  ·cases hg
 | some q =>
  rw [hn] at h4
  obtain ⟨A',c',rfl,ho,hf⟩:=h4
  have ho:=byte_own.2 ho
  refine ⟨(S',A',c'),rfl,⟨h1,Ek.base ho (Nat.zero_le _),hf⟩,u,fun g hg=>?_⟩
  rcases List.mem_append.1 hg with hg | hg
  ·exact (h3 g hg).imp (fun h=>List.mem_append.2 (.inl h)) id
  ·exact .inr (Ek.lows ho g hg)
end
structure BJ (c:CfgV) (n T:Nat) (L0:List Int) (R:Kv×Int) (M0:Nat) (ok:Bool) (p l:List Int) (x:Kv×Int) (M:Nat):Prop where
 j:JI c n T x.1
 r:runL c x (if ok then p::(frames l).1 else [])=R
 f:(if ok then (frames l).2 else l)=(frames L0).2
 b:∀ z∈l,isB z
 pb:∀ z∈p,isB z
 m:M+l.length+(if ok then 1 else 0)≤M0
theorem frames_pop {l:List Int} (h:popB l=true):frames l=(popP l::(frames (nextF l).2).1,(frames (nextF l).2).2):=by
 unfold popB at h
 unfold popP
 cases hn:(nextF l).1 with
 | none=>rw [hn] at h; cases h
 | some q=>exact Fm.frames_some l q _ (by rw [← hn])
theorem frames_no {l:List Int} (h:popB l=false):frames l=([],(nextF l).2):=by
 unfold popB at h
 cases hn:(nextF l).1 with
 | none=>exact Fm.frames_none l _ (by rw [← hn])
 | some q=>rw [hn] at h; cases h
theorem pop_isB {l:List Int} (h:∀ z∈l,isB z):(∀ z∈popP l,isB z)∧∀ z∈(nextF l).2,isB z:=by
 refine ⟨?_, ?_⟩
 ·unfold popP
  cases hn:(nextF l).1 with
  | none=>intro z hz; cases hz
  | some q =>
   obtain ⟨_,_,i,hi⟩:=Fm.nextF_some l q (nextF l).2 (by rw [← hn])
   intro z hz
   refine h z (List.mem_of_mem_drop (i:=i) ?_)
   rw [hi]
   refine List.mem_append.2 (.inl ?_)
   unfold Fm.frm Fm.hd
   simp only [Option.getD_some] at hz
   simp [hz]
 ·obtain ⟨i,hi⟩:=Fm.nextF_end l
  intro z hz
  rw [hi] at hz
  exact h z (List.mem_of_mem_drop hz)
theorem pop_len {l:List Int}:(nextF l).2.length+(if popB l then 1 else 0)≤l.length:=by
 unfold popB
 cases hn:(nextF l).1 with
 | none =>
  obtain ⟨i,hi⟩:=Fm.nextF_end l
  rw [hi]; simp
 | some q =>
  have:=Fm.nextF_less l q (nextF l).2 (by rw [← hn])
  simp; omega
theorem BJ.pop {c:CfgV} {n T:Nat} {L0 l:List Int} {R x:Kv×Int} {M0 M:Nat} (hj:JI c n T x.1) (hr:runL c x (frames l).1=R) (hf:(frames l).2=(frames L0).2) (hb:∀ z∈l,isB z) (hm:M+l.length≤M0):BJ c n T L0 R M0 (popB l) (popP l) (nextF l).2 x M:=by
 have h1:=pop_isB hb
 have h2:=pop_len (l:=l)
 cases h:popB l with
 | true =>
  have h3:=frames_pop h
  rw [h3] at hr hf
  rw [h] at h2
  exact ⟨hj,hr,hf,h1.2,h1.1,by simp at h2 ⊢; omega⟩
 | false =>
  have h3:=frames_no h
  rw [h3] at hr hf
  rw [h] at h2
  exact ⟨hj,hr,hf,h1.2,h1.1,by simp at h2 ⊢; omega⟩
theorem get_se {p:List Int} (hb:∀ z∈p,isB z) (h:(getV p).2=0):0≤(getV p).1.se∧(getV p).1.se≤255:=by
 have h1:=(Mg.get_may p hb (getV p).1 (by rw [← h])).1
 have h2:Mg.headB (getV p).1=true:=by
  unfold Mg.mayB at h1
  simp only [Bool.and_eq_true] at h1
  exact h1.1
 have:=(Mg.head_iff _).1 h2
 omega
theorem comeRO {c:CfgV} {n T:Nat} {gq M:Nat} {x:Gp} {ep:Int} {K:KV} {Sk:List Nat} {D:Fam} {w:World} (q:PktV) (hse:0≤q.se∧q.se≤255) (hb:Blk w gq 96 (gwA c x ep)) (hk:KG 0 x.q x.p x.mb M K Sk D w) (hg:gq∉kgF x.mb Sk D) (hj:JI c n T (K,vals D)) (hT:T≤10000) (hM:M < 1000000) :
  Calls Tryz.prog 101 #[.pointer (some ⟨gq,0,none⟩),.agg (pktC q)] w fun e w'=>∃ y:{y:List Nat×Fam // vals y.2=(comeK c (K,vals D) ep q).1.2},e=.returned (.tuple #[])∧Blk w' gq 96 (gwA c x (comeK c (K,vals D) ep q).2)∧KG 0 x.q x.p x.mb (M+1) (comeK c (K,vals D) ep q).1.1 y.1.1 y.1.2 w'∧Upd (gq::kgF x.mb Sk D) w w'∧∀ g∈kgF x.mb y.1.1 y.1.2,g∈kgF x.mb Sk D∨w.heap.size≤g :=
 (comeT q hse hb hk hg hj.t (by omega) hM hj.cars hj.inc (hj.sd hT)).mono (by
  rintro e w' ⟨y,rfl,h1,h2,h3,h4,h5,h6⟩
  refine ⟨⟨y,h3⟩,rfl,h1,h2,h4,fun g hg1=>?_⟩
  rcases h5 g hg1 with hg2 | hg2
  ·rcases List.mem_cons.1 hg2 with e | hg2
   ·rw [e] at hg1; exact absurd hg1 h6
   ·exact .inl hg2
  ·exact .inr hg2)
def BytQ (gq M:Nat) (c:CfgV) (x:Gp) (N:Nat) (S:List Nat) (w:World) (r:Kv×Int) (rest:List Int) (e:Ending) (w':World):Prop :=
 ∃ y:List Nat×Fam×List Nat,e=.returned (.tuple #[.slice none 0 0,.int .i64 0])∧Blk w' gq 96 (gwA c x r.2)∧KG 0 x.q x.p x.mb M r.1.1 y.1 y.2.1 w'∧vals y.2.1=r.1.2∧SO 0 x.s N rest y.2.2 w'∧Upd (gq::S) w w'∧(∀ g∈kgF x.mb y.1 y.2.1++y.2.2,g∈gq::S∨w.heap.size≤g)∧gq∉kgF x.mb y.1 y.2.1∧gq∉y.2.2∧∀ g∈kgF x.mb y.1 y.2.1,g∉y.2.2
attribute [local irreducible] Go.Calls
set_option maxHeartbeats 8000000 in
theorem bytesT {c:CfgV} {n T N gq M:Nat} {x:Gp} {ep sk sa sb:Int} {K:KV} {Sk Ss:List Nat} {D:Fam} {xs zs:List Int} {dA:Option Addr} {dn dc:Nat} {w:World} (hb:Blk w gq 96 (gwA c x ep)) (hk:KG 0 x.q x.p x.mb M K Sk D w) (hs:SO 0 x.s N xs Ss w) (hg:gq∉kgF x.mb Sk D) (hgs:gq∉Ss) (hd:∀ g∈kgF x.mb Sk D,g∉Ss) (hz:BV w dA dn zs) (hz1:∀ g∈rdF dA dn,g∉gq::(kgF x.mb Sk D++Ss)) (hj:JI c n T (K,vals D)) (hT:T≤10000) (hM:M+(xs++zs).length < 1000000) (hN:N+dn≤1000000) :
  Calls Tryz.prog 72 #[.pointer (some ⟨gq,0,none⟩),.agg #[.int .i64 sk,.int .i64 sa,.int .i64 sb,.slice dA dn dc]] w (BytQ gq (M+(xs++zs).length - (frames (xs++zs)).2.length) c x (N+dn) (kgF x.mb Sk D++Ss) w (runL c ((K,vals D),ep) (frames (xs++zs)).1) (frames (xs++zs)).2):=by
 have hp0:SP x.s N xs Ss none 0 [] w:=⟨hs,Ek.nil _ _ _,by intro g _ hg; cases hg⟩
 have e0:Ss++blkOf (none:Option Addr)=Ss:=List.append_nil _
 have hH:∀ nt,Hold ⟨Tryz.prog,tab,gq::(kgF x.mb Sk D++Ss),w,nt,[]⟩ [⟨gq,96,true,0,[],gwS c x ep,[],true⟩] [kgO 0 x.q x.p x.mb M K Sk D true,spO x.s N xs Ss none 0 [] true,bvO dA dn zs] w:=fun nt=>by
  refine Hold.addObj (ob:=[kgO 0 x.q x.p x.mb M K Sk D true,spO x.s N xs Ss none 0 [] true]) (Hold.addObj (ob:=[kgO 0 x.q x.p x.mb M K Sk D true]) (Hold.addObj (ob:=[]) (Hold.addRow (m:=[]) (Hold.nil _ tab _ _ w) ⟨gq,96,true,0,[],gwS c x ep,[],true⟩ hb (fun _=>.inl (List.mem_cons_self ..)) (by intro q hq; cases hq) (by intro A hA; cases hA)) _ hk (fun _ g hg=>.inl (List.mem_cons_of_mem _ (List.mem_append.2 (.inl hg)))) (by intro r hr _; simp only [List.nil_append,List.mem_singleton] at hr; subst hr; exact hg) (by intro A hA; cases hA)) (spO x.s N xs Ss none 0 [] true) hp0 (fun _ g hg=>.inl (List.mem_cons_of_mem _ (List.mem_append.2 (.inr (e0 ▸ hg))))) (by intro r hr _ hm; simp only [List.nil_append,List.mem_singleton] at hr; subst hr; exact hgs (e0 ▸ hm)) (by intro A hA _ g hg hg2; rw [List.mem_singleton] at hA; subst hA; exact hd g hg (e0 ▸ hg2))) (bvO dA dn zs) hz (by intro k; cases k) (by intro r hr _ hm; simp only [List.nil_append,List.mem_singleton] at hr; subst hr; exact hz1 _ hm (List.mem_cons_self ..)) (by
   intro A hA _ g hg hg2
   simp only [List.mem_cons,List.mem_nil_iff,or_false] at hA
   rcases hA with rfl | rfl
   ·exact hz1 g hg2 (List.mem_cons_of_mem _ (List.mem_append.2 (.inl hg)))
   ·exact hz1 g hg2 (List.mem_cons_of_mem _ (List.mem_append.2 (.inr (e0 ▸ hg)))))
 have hxb:=so_isB hs
 have hzb:=hz.2.2.1
 have hlb:∀ z∈xs++zs,isB z:=fun z h=>(List.mem_append.1 h).elim (hxb z) (hzb z)
 have hst:=BJ.pop (c:=c) (M:=M) (M0:=M+(xs++zs).length) (L0:=xs++zs) (x:=((K,vals D),ep)) hj rfl rfl hlb (Nat.le_refl _)
 refine entH tab_ok (hH _) [.p 0 0,.a [.i .i64 sk,.i .i64 sa,.i .i64 sb,.v (.slice dA dn dc)]] Tryz.func72 Tryz.ntmps72 rfl rfl ?_
 repeat' (first | refine gs_ ?_|((conv=>whnf); first | intro b | refine b3_ (fun h=>?_) (fun h=>?_)|refine callO (f:=98) (A:=spO x.s N xs Ss none 0 [] true) 1 (fun _:List Nat=>.t []) (fun S'=>spO x.s (N+dn) (xs++zs) S' none 0 [] true) (fun w hH hA=>feedP hA (Hold.ob hH (A:=bvO dA dn zs) 2 rfl) hN rfl) (fun S'=>?_)|refine callO (f:=99) (A:=spO x.s (N+dn) (xs++zs) S' none 0 [] true) 1 (fun y:List Nat×Option Addr×Nat=>.t [.v (.slice y.2.1 (popP (xs++zs)).length y.2.2),.b (popB (xs++zs))]) (fun y=>spO x.s (N+dn) (nextF (xs++zs)).2 y.1 y.2.1 y.2.2 (popP (xs++zs)) true) (fun w hH hA=>nextP hA hN) (fun y=>?_)|refine fin_s ?_))
 conv=>whnf
 refine lp ⟨tab_ok⟩ (ι:={v:(Bool×List Int×List Int)×(Option Addr×Nat×List Nat)×(KV×List Nat×Fam×Int×Nat) // BJ c n T (xs++zs) (runL c ((K,vals D),ep) (frames (xs++zs)).1) (M+(xs++zs).length) v.1.1 v.1.2.1 v.1.2.2 ((v.2.2.1,vals v.2.2.2.2.1),v.2.2.2.2.2.1) v.2.2.2.2.2.2}) (fun v=>match v with | ⟨((ok,p,l),(A1,c1,S1),(K1,Sk1,D1,ep1,M1)),_⟩=>⟨[(0,.p 0 0),(6,.v (.slice A1 p.length c1)),(7,.b ok)],[⟨gq,96,true,0,[],gwS c x ep1,[],true⟩],[kgO 0 x.q x.p x.mb M1 K1 Sk1 D1 true,spO x.s (N+dn) l S1 A1 c1 p true,bvO dA dn zs]⟩) (fun v=>v.1.1.2.2.length+(if v.1.1.1 then 1 else 0)) ⟨((popB (xs++zs),popP (xs++zs),(nextF (xs++zs)).2),(y.2.1,y.2.2,y.1),(K,Sk,D,ep,M)),hst⟩ (wk ?_) ?_
 ·repeat' (first | exact trivial | rfl | ((conv=>whnf); refine And.intro ?_ ?_))
 rintro ⟨⟨⟨ok,p,l⟩,⟨A1,c1,S1⟩,⟨K1,Sk1,D1,ep1,M1⟩⟩,hj1⟩
 have hj1:BJ c n T (xs++zs) (runL c ((K,vals D),ep) (frames (xs++zs)).1) (M+(xs++zs).length) ok p l ((K1,vals D1),ep1) M1:=hj1
 cases ok with
 | false =>
  repeat' (first | refine gs_ ?_|((conv=>whnf); first | intro b | refine fin fun w' hH=>?_|refine fin_s ?_))
  have hr:runL c ((K,vals D),ep) (frames (xs++zs)).1=((K1,vals D1),ep1):=hj1.r.symm
  have hf:(frames (xs++zs)).2=l:=hj1.f.symm
  have hm1:=hj1.m
  rw [hr,hf]
  have hsp:=Hold.ob hH (A:=spO x.s (N+dn) l S1 A1 c1 p true) 1 rfl
  have d01:DisR (kgO 0 x.q x.p x.mb M1 K1 Sk1 D1 true) (spO x.s (N+dn) l S1 A1 c1 p true):=pair_at (R:=DisR) (fun _ _ h=>h.symm) hH.dis (i:=0) (j:=1) rfl rfl (by decide)
  refine ⟨(Sk1,D1,S1),rfl,by have:=hH.row 0 _ rfl rfl; rw [rowA_nil rfl rfl] at this; exact this,(Hold.ob hH (A:=kgO 0 x.q x.p x.mb M1 K1 Sk1 D1 true) 0 rfl).more (by simp only [Bool.false_eq_true,if_false] at hm1; omega),rfl,SP.st hsp,hH.upd,fun g hg=>?_,hH.far _ (List.mem_of_getElem? (i:=0) rfl) 0 _ rfl rfl,fun hm=>hH.far _ (List.mem_of_getElem? (i:=1) rfl) 0 _ rfl rfl (List.mem_append.2 (.inl hm)),fun g hg hgs=>d01 (.inl rfl) g hg (List.mem_append.2 (.inl hgs))⟩
  rcases List.mem_append.1 hg with hg | hg
  ·exact hH.own _ (List.mem_of_getElem? (i:=0) rfl) rfl g hg
  ·exact hH.own _ (List.mem_of_getElem? (i:=1) rfl) rfl g (List.mem_append.2 (.inl hg))
 | true =>
  have hjj:=hj1.j
  have hm1:=hj1.m
  simp only [if_true] at hm1
  have hr1:=hj1.r
  have hf1:=hj1.f
  simp only [if_true] at hr1 hf1
  by_cases hz0:(getV p).2=0
  ·have hse:=get_se hj1.pb hz0
   have hx2:∀ z:{z:List Nat×Fam // vals z.2=(comeK c (K1,vals D1) ep1 (getV p).1).1.2},(((comeK c (K1,vals D1) ep1 (getV p).1).1.1,vals z.1.2),(comeK c (K1,vals D1) ep1 (getV p).1).2)=comeK c (K1,vals D1) ep1 (getV p).1:=fun z=>by rw [z.2]
   have hbj:∀ z:{z:List Nat×Fam // vals z.2=(comeK c (K1,vals D1) ep1 (getV p).1).1.2},BJ c n T (xs++zs) (runL c ((K,vals D),ep) (frames (xs++zs)).1) (M+(xs++zs).length) (popB l) (popP l) (nextF l).2 (((comeK c (K1,vals D1) ep1 (getV p).1).1.1,vals z.1.2),(comeK c (K1,vals D1) ep1 (getV p).1).2) (M1+1):=fun z=>by
    rw [hx2 z]
    refine BJ.pop (hjj.come hT _ _) ?_ hf1 hj1.b (by omega)
    rw [← hr1]
    show _=runL c (if (getV p).2=0 then comeK c (K1,vals D1) ep1 (getV p).1 else ((K1,vals D1),ep1)) (frames l).1
    rw [if_pos hz0]
   repeat' (first | refine gs_ ?_|((conv=>whnf); first | intro b | refine callH (f:=100) (.t [.a [.i .i64 (getV p).1.se,.i .i64 (getV p).1.ep,.i .i64 (getV p).1.sq,.i .i64 (getV p).1.ak,.b (getV p).1.has,.i .i64 (getV p).1.ki,.i .i64 (getV p).1.a,.i .i64 (getV p).1.b,.i .i64 (getV p).1.c],.i .i64 (getV p).2]) (fun w hH=>Mg.getT (SP.pl (Hold.ob hH (A:=spO x.s (N+dn) l S1 A1 c1 p true) 1 rfl)) rfl hj1.pb) ?_|refine callRO (f:=101) 0 0 (A:=kgO 0 x.q x.p x.mb M1 K1 Sk1 D1 true) (fun z:{z:List Nat×Fam // vals z.2=(comeK c (K1,vals D1) ep1 (getV p).1).1.2}=>.t []) (fun z=>gwS c x (comeK c (K1,vals D1) ep1 (getV p).1).2) (fun z=>kgO 0 x.q x.p x.mb (M1+1) (comeK c (K1,vals D1) ep1 (getV p).1).1.1 z.1.1 z.1.2 true) (fun w hH hB hA hq=>comeRO (getV p).1 hse hB hA hq hjj hT (by omega)) (fun z=>?_)|refine callO (f:=99) (A:=spO x.s (N+dn) l S1 A1 c1 p true) 1 (fun y:List Nat×Option Addr×Nat=>.t [.v (.slice y.2.1 (popP l).length y.2.2),.b (popB l)]) (fun y=>spO x.s (N+dn) (nextF l).2 y.1 y.2.1 y.2.2 (popP l) true) (fun w hH hA=>nextP hA hN) (fun y=>?_)|refine En.back ⟨((popB l,popP l,(nextF l).2),(y.2.1,y.2.2,y.1),((comeK c (K1,vals D1) ep1 (getV p).1).1.1,z.1.1,z.1.2,(comeK c (K1,vals D1) ep1 (getV p).1).2,M1+1)),hbj z⟩ (wk ?_) ?_|refine fin_s ?_))
   all_goals first | (have hpl:=pop_len (l:=l); show (nextF l).2.length+(if popB l=true then 1 else 0) < l.length+(if true=true then 1 else 0); simp at hpl ⊢; omega)|skip
   all_goals (repeat' (first | exact trivial | rfl | ((conv=>whnf); refine And.intro ?_ ?_)))
  ·have hbj:BJ c n T (xs++zs) (runL c ((K,vals D),ep) (frames (xs++zs)).1) (M+(xs++zs).length) (popB l) (popP l) (nextF l).2 ((K1,vals D1),ep1) M1:=by
    refine BJ.pop hjj ?_ hf1 hj1.b (by omega)
    rw [← hr1]
    show _=runL c (if (getV p).2=0 then comeK c (K1,vals D1) ep1 (getV p).1 else ((K1,vals D1),ep1)) (frames l).1
    rw [if_neg hz0]
   repeat' (first | refine gs_ ?_|((conv=>whnf); first | intro b | refine callH (f:=100) (.t [.a [.i .i64 (getV p).1.se,.i .i64 (getV p).1.ep,.i .i64 (getV p).1.sq,.i .i64 (getV p).1.ak,.b (getV p).1.has,.i .i64 (getV p).1.ki,.i .i64 (getV p).1.a,.i .i64 (getV p).1.b,.i .i64 (getV p).1.c],.i .i64 (getV p).2]) (fun w hH=>Mg.getT (SP.pl (Hold.ob hH (A:=spO x.s (N+dn) l S1 A1 c1 p true) 1 rfl)) rfl hj1.pb) ?_|refine callO (f:=99) (A:=spO x.s (N+dn) l S1 A1 c1 p true) 1 (fun y:List Nat×Option Addr×Nat=>.t [.v (.slice y.2.1 (popP l).length y.2.2),.b (popB l)]) (fun y=>spO x.s (N+dn) (nextF l).2 y.1 y.2.1 y.2.2 (popP l) true) (fun w hH hA=>nextP hA hN) (fun y=>?_)|refine En.back ⟨((popB l,popP l,(nextF l).2),(y.2.1,y.2.2,y.1),(K1,Sk1,D1,ep1,M1)),hbj⟩ (wk ?_) ?_|refine fin_s ?_))
   all_goals first | (have hpl:=pop_len (l:=l); show (nextF l).2.length+(if popB l=true then 1 else 0) < l.length+(if true=true then 1 else 0); simp at hpl ⊢; omega)|skip
   all_goals (repeat' (first | exact trivial | rfl | ((conv=>whnf); refine And.intro ?_ ?_)))
end Gw
namespace Gw
open Go.RowKit Ba Mem En Go.Proofs.YtepfmfalebmcnaaGreatDoor.Ty
open Byt (BV isB)
set_option maxRecDepth 100000
structure StepD where
 k:Int
 a:Int
 b:Int
 A:Option Addr
 n:Nat
 c:Nat
 d:List Int
instance:Inhabited StepD:=⟨⟨0,0,0,none,0,0,[]⟩⟩
def stepC (s:StepD):List Value:=[.int .i64 s.k,.int .i64 s.a,.int .i64 s.b,.slice s.A s.n s.c]
def stepE:Ek StepD:=⟨38,4,stepC,fun _=>rfl,by
 intro a u hu
 simp only [stepC,List.mem_cons,List.not_mem_nil,or_false] at hu
 rcases hu with rfl | rfl | rfl | rfl <;> rfl⟩
structure StepW (s:StepD):Prop where
 k:(Lit.int .i64 s.k).wf=true
 a:(Lit.int .i64 s.a).wf=true
 b:(Lit.int .i64 s.b).wf=true
 l:s.d.length=s.n
 c:s.n≤s.c
 m:s.n≤140737488351232
theorem weights_mem_all {H:Type} {P:Program} {e:TypeId}:∀ {ds:List (DataW H)} {d:DataW H},d∈ds→∀ n∈d.weights P e,n∈DataW.weightsAll P e ds
 | [],_,h,_,_=>by cases h
 | d0::r,d,h,n,hn=>by
  simp only [DataW.weightsAll,List.mem_append]
  rcases List.mem_cons.1 h with rfl | h
  ·exact .inl hn
  ·exact .inr (weights_mem_all h n hn)
section
variable {H:Type} {enc:TypeId×Value→H} {w:World} {base:Nat} {spare:Nat→Bool} {held:Bool}
theorem step_of {fuel:Nat} {cs:List Value} {x:DataW H×List MemPlace} (h:DataW.trod enc Tryz.prog w base spare held fuel 38 cs=some x) (hU:∀ u∈x.1.weights Tryz.prog 38,u≤140737488351232):∃ s:StepD,cs=stepC s∧BV w s.A s.n s.d∧StepW s:=by
 have e1:Tryz.prog.cellsOf 3=1:=by kernel_rfl
 have es:Tryz.prog.cellsOf 29=1:=by kernel_rfl
 have eb:Tryz.prog.bytesOf 5=1:=by kernel_rfl
 obtain ⟨xs,n,rfl,hxe,hl,hx,hf⟩:=DataW.trod_struct Tryz.underlying38 h
 have hl':cs.length=4:=hl.trans (by kernel_rfl)
 match cs,hl' with
 | [a0,a1,a2,a3],_ =>
  have hx':xs.length=4:=hx
  match xs,hx' with
  | [y0,y1,y2,y3],_ =>
   have g0:=hf 0 _ rfl
   have g1:=hf 1 _ rfl
   have g2:=hf 2 _ rfl
   have g3:=hf 3 _ rfl
   simp [e1,es] at g0 g1 g2 g3
   obtain ⟨v0,q0,_,k0⟩:=DataW.trod_int Tryz.underlying3 g0
   obtain ⟨v1,q1,_,k1⟩:=DataW.trod_int Tryz.underlying3 g1
   obtain ⟨v2,q2,_,k2⟩:=DataW.trod_int Tryz.underlying3 g2
   simp at q0 q1 q2
   subst q0 q1 q2
   have hw:∀ u∈DataW.weights Tryz.prog 29 y3.1,u≤140737488351232:=fun u hu=>by
    refine hU u ?_
    rw [hxe]
    simp only [DataW.weights,Tryz.underlying38]
    exact DataW.weights_mem_each (j:=3) (t:=29) (d:=y3.1) rfl rfl u hu
   rcases Go.ChangeShapes.open_ints Tryz.underlying29 Tryz.underlying5 (by kernel_rfl) g3 with ⟨hcs,_⟩ | ⟨x,l2,c,zs,hcs,_,hlc,hm2,hz,hy,hcl,hww⟩
   ·simp at hcs
    subst hcs
    exact ⟨⟨v0,v1,v2,none,0,0,[]⟩,rfl,BV.nil _ _,⟨k0,k1,k2,rfl,by simp,by simp⟩⟩
   ·simp at hcs
    subst hcs
    have hlz:l2≤zs.length:=by rw [hz]; split <;> omega
    have hm3:l2≤140737488351232:=by
     have:=hw _ (by
      rw [show y3=_ from hy]
      simp only [DataW.weights,Tryz.underlying29]
      exact List.mem_cons_self ..)
     simp only [Go.ChangeShapes.lits,List.length_map,List.length_take,List.length_drop,eb] at this
     omega
    exact ⟨⟨v0,v1,v2,some x,l2,c,zs.take l2⟩,rfl,Pa.bv_cells hlz (Nat.le_trans hlc hm2) hcl hww,⟨k0,k1,k2,by show (zs.take l2).length=l2; rw [List.length_take]; omega,hlc,hm3⟩⟩
end
structure StR (a:Option Addr) (len:Nat) (ss:Nat→StepD) (w:World):Prop where
 r:stepE.Rd a len ss w
 d:∀ i,i < len→BV w (ss i).A (ss i).n (ss i).d
def stF (a:Option Addr) (len:Nat) (ss:Nat→StepD):List Nat:=rdF a len++(List.range len).flatMap fun i=>rdF (ss i).A (ss i).n
theorem stF_at {a:Option Addr} {len i:Nat} {ss:Nat→StepD} (hi:i < len):∀ g∈rdF (ss i).A (ss i).n,g∈stF a len ss:=fun g hg=>List.mem_append.2 (.inr (List.mem_flatMap.2 ⟨i,List.mem_range.2 hi,hg⟩))
def stO (a:Option Addr) (len:Nat) (ss:Nat→StepD):Asr:=⟨stF a len ss,false,StR a len ss,fun u hd h=>⟨(rdO stepE a len ss).up u (fun g hg=>hd g (List.mem_append.2 (.inl hg))) h.r,fun i hi=>bv_up u (h.d i hi) (fun g hg=>hd g (stF_at hi g hg))⟩,fun h g hg=>by
 rcases List.mem_append.1 hg with hg | hg
 ·exact (rdO stepE a len ss).lt h.r g hg
 ·obtain ⟨i,hi,hg⟩:=List.mem_flatMap.1 hg
  exact bv_lt (h.d i (List.mem_range.1 hi)) g hg⟩
section
variable {H:Type} {enc:TypeId×Value→H} {w:World} {base:Nat} {spare:Nat→Bool} {held:Bool}
theorem steps_open {fuel:Nat} {a:Option Addr} {len cap:Nat} {x:DataW H×List MemPlace} (h:DataW.trod enc Tryz.prog w base spare held fuel 24 [.slice a len cap]=some x) (hU:∀ u∈x.1.weights Tryz.prog 24,u≤140737488351232):∃ ss,StR a len ss w∧(∀ i,i < len→StepW (ss i))∧len≤9223372036854775807:=by
 have ce:Tryz.prog.cellsOf 38=4:=by kernel_rfl
 rcases Go.Deep.open_slice Tryz.underlying24 h with ⟨hcs,_⟩ | ⟨a',len',cap',m,n,D,Pl,hcs,hb,hlc,hcm,hm,hxe,hx⟩
 ·simp at hcs
  obtain ⟨rfl,rfl,rfl⟩:=hcs
  exact ⟨default,⟨.inl rfl,fun i hi=>by omega⟩,fun i hi=>by omega,by omega⟩
 ·simp at hcs
  obtain ⟨rfl,rfl,rfl⟩:=hcs
  have hlm:len≤m:=by rw [hm]; split <;> omega
  have hw:∀ i,i < len→∀ u∈(D i).weights Tryz.prog 38,u≤140737488351232:=fun i hi u hu=>by
   refine hU u ?_
   rw [hxe]
   simp only [DataW.weights,Tryz.underlying24]
   exact List.mem_cons_of_mem _ (List.mem_append.2 (.inl (weights_mem_all (List.mem_map.2 ⟨i,List.mem_range.2 hi,rfl⟩) u hu)))
  have each:∀ i,i < len→∃ l:StepD,(∀ j v,(stepC l)[j]?=some v→w.cell? ((a'.add (i*4)).add j)=some v)∧BV w l.A l.n l.d∧StepW l:=by
   intro i hi
   obtain ⟨cs',h1,h2⟩:=hx i (by omega)
   rw [ce] at h1
   obtain ⟨_,hlen,hcell⟩:=World.cells?_some h1
   obtain ⟨l,rfl,h3,h4⟩:=step_of h2 (hw i hi)
   refine ⟨l,fun j v hj=>?_,h3,h4⟩
   have hj9:j < 4:=by
    obtain ⟨hlt,_⟩:=List.getElem?_eq_some_iff.1 hj
    simpa [stepC] using hlt
   rw [hcell j hj9,hj]
  obtain ⟨ls,hls⟩:=Go.Deep.choose_lt each
  refine ⟨ls,⟨?_,fun i hi=>(hls i hi).2.1⟩,fun i hi=>(hls i hi).2.2,by unfold maxLen at hcm; omega⟩
  rcases Nat.eq_zero_or_pos len with h0 | h0
  ·exact .inl h0
  ·obtain ⟨b,off,idx⟩:=a'
   have c0:=(hls 0 h0).1 0 _ rfl
   cases idx with
   | none =>
    rw [Go.WideShapes.add_plain,Go.WideShapes.add_plain] at c0
    refine .inr ⟨b,off,rfl,World.block_lt_of_cell? _ _ c0,fun i hi j v hj=>?_⟩
    have:=(hls i hi).1 j v hj
    rw [Go.WideShapes.add_plain,Go.WideShapes.add_plain] at this
    exact this
   | some q =>
    exfalso
    simp [World.cell?,Addr.add] at c0
    split at c0 <;> simp at c0
end
end Gw
namespace Fm
theorem frames_cnt:∀ (n:Nat) (l:List Int),l.length < n→(frames l).1.length+(frames l).2.length≤l.length
 | 0,_,h=>by omega
 | n+1,l,h=>by
  match e:nextF l with
  | (none,rest) =>
   obtain ⟨i,hi⟩:=nextF_end l
   rw [e] at hi
   have hi:rest=l.drop i:=hi
   rw [frames_none l rest e,hi]
   simp
  | (some p,rest) =>
   have hl:=nextF_less l p rest e
   have:=frames_cnt n rest (by omega)
   rw [frames_some l p rest e]
   simp only [List.length_cons]
   omega
theorem frames_le (l:List Int):(frames l).1.length+(frames l).2.length≤l.length:=frames_cnt (l.length+1) l (by omega)
end Fm
namespace Gw
open Go.RowKit Ba Mem En Go.Proofs.YtepfmfalebmcnaaGreatDoor.Ty Mp
open Ri (MsgV)
open Co (KV KI KT EvV evs tickK tickE foldK stepK stepR tkK1 grantE grA goneK Hold.ob)
open Lc (PI CI)
set_option maxRecDepth 100000
theorem may_se {c:CfgV} {a:AskV} (h:Fl.mayB c a=true):0≤a.se∧a.se < 64:=by
 unfold Fl.mayB Fl.belB at h
 simp only [Bool.and_eq_true,decide_eq_true_eq] at h
 have h1:=h.1.1.1.1.1.1
 have h2:Qu.btw c.se 1 64≤64:=by unfold Qu.btw; (repeat' split) <;> omega
 omega
theorem fold_s (ls:List LeaseV):∀ x:KV×List EvV,∀ e∈(ls.foldl stepK x).2,e∈x.2∨∃ l∈ls,e.s=l.se:=by
 induction ls with
 | nil=>intro x e he; exact .inl he
 | cons l r ih =>
  intro x e he
  rw [List.foldl_cons] at he
  rcases ih _ e he with h | ⟨y,hy,h⟩
  ·unfold Co.stepK at h
   rcases List.mem_append.1 h with h | h
   ·exact .inl h
   ·simp only [evs,List.mem_map] at h
    obtain ⟨_,_,rfl⟩:=h
    exact .inr ⟨l,List.mem_cons_self ..,(Co.tickV_ca _ _ _ _).2⟩
  ·exact .inr ⟨y,List.mem_cons_of_mem _ hy,h⟩
theorem fold_Q (K:KV) (k:Nat):(foldK K k).1.Q=K.Q:=by
 unfold Co.foldK
 have:∀ (ls:List LeaseV) (x:KV×List EvV),(ls.foldl stepK x).1.Q=x.1.Q:=by
  intro ls
  induction ls with
  | nil=>intro x; rfl
  | cons l r ih =>
   intro x
   rw [List.foldl_cons,ih]
   show (Co.setK x.1 (stepR x.1 l).1 (stepR x.1 l).2.2).Q=x.1.Q
   unfold Co.setK
   split
   ·exact Co.endK_Q _ _
   ·rfl
 rw [this]; rfl
section
variable {c:CfgV} {n T:Nat} {x:Kv}
theorem PI.evs {K:KV} (h:PI c n T K):∀ e∈tickE K,0≤e.s∧e.s < 64:=by
 intro e he
 rcases List.mem_append.1 he with he | he
 ·rcases fold_s _ _ e he with he | ⟨l,hl,hs⟩
  ·cases he
  ·rw [hs]
   have hg:=(h.e l (List.mem_of_mem_take hl)).gd
   unfold Le.goodB at hg
   simp only [Bool.and_eq_true] at hg
   exact may_se hg.1.1.1.1
 ·unfold Co.grantE at he
  cases ha:grA (foldK K K.L.length).1 with
  | none=>rw [ha] at he; cases he
  | some a =>
   rw [ha] at he
   rw [List.mem_singleton] at he
   rw [he]
   unfold Co.grA at ha
   split at ha
   ·cases ha
   ·split at ha
    ·rename_i hf
     split at ha
     ·cases ha
     ·cases ha
      have hm:=Co.first_mem hf
      exact may_se (h.k.okq _ (fold_Q K K.L.length ▸ hm))
    ·cases ha
theorem PI.evl {K:KV} (h:PI c n T K):(tickE K).length≤T+1:=by
 unfold Co.tickE
 rw [List.length_append]
 have h1:(foldK K K.L.length).2.length≤K.L.length:=by
  have:=Co.fold_ev (K.L.take K.L.length) (tkK1 K,[])
  rw [List.length_take,Nat.min_self] at this
  unfold Co.foldK
  exact Nat.le_trans this (by simp)
 have h2:(grantE (foldK K K.L.length).1).length≤1:=by unfold Co.grantE; split <;> simp
 have:=h.k.ll
 omega
theorem PI.kt {K:KV} (h:PI c n T K) (hn:n≤10000) (hT:T≤10000):KT K:=h.k.kt hn (by omega) hT
theorem JI.tk (h:JI c n T x) (hT:T < 10000):JI c n (T+1) (tickK x.1,x.2):=by
 have hp:=h.p.tick (by omega)
 exact ⟨hp,CI.tick h.p (by omega) h.ci,⟨KI.qlen hp.k,by have:=hp.k.ll; show (tickK x.1).L.length≤10000; omega,h.t.s,(h.t.more (by omega)).t⟩⟩
theorem PJ.tickS {x:Ko} (hp:PI c n T x.1.1) (hc:CI [] x.1.1) (hT:T≤1000000) (i:Int):PI c n T (tickS x i).1.1∧CI [] (tickS x i).1.1:=by
 unfold Gw.tickS
 cases x.1.2 i with
 | none=>exact ⟨hp,hc⟩
 | some v =>
  simp only []
  split
  ·exact ⟨PI.go hp hT i,hc.gone hp i⟩
  ·exact ⟨hp,hc⟩
theorem PJ.tickL (hT:T≤1000000):∀ (ks:List Int) {x:Ko},PI c n T x.1.1→CI [] x.1.1→PI c n T (tickL x ks).1.1∧CI [] (tickL x ks).1.1
 | [],x,hp,hc=>⟨hp,hc⟩
 | k::r,x,hp,hc=>by
  obtain ⟨h1,h2⟩:=PJ.tickS hp hc hT k
  exact PJ.tickL hT r h1 h2
theorem JI.tick (h:JI c n T x) (hT:T < 10000):JI c n (T+1) (tickG x).1:=by
 have h1:=h.tk hT
 have h2:=JI.tell h1 (by omega) (tickE x.1)
 have h3:=PJ.tickL (by omega) (keysL (tellF (tickK x.1,x.2) (tickE x.1)).2) (x:=(tellF (tickK x.1,x.2) (tickE x.1),[])) h2.p h2.ci
 have h0:TI (64*T:Nat) (tickK x.1,x.2):=⟨h1.t.q,h1.t.l,h.t.s,h.t.t⟩
 have h4:=TI.tickL (keysL (tellF (tickK x.1,x.2) (tickE x.1)).2) (x:=(tellF (tickK x.1,x.2) (tickE x.1),[])) (h0.tell (tickE x.1))
 have h5:=keys_len (tellF (tickK x.1,x.2) (tickE x.1)).2
 exact ⟨h3.1,h3.2,h4.more (by omega)⟩
end
end Gw
namespace Gw
open Go.RowKit Ba Mem En Go.Proofs.YtepfmfalebmcnaaGreatDoor.Ty Mp
open Ri (MsgV)
open Co (KV Pt KW Nr NrA toN Hold.ob)
open Gr (doR)
open Lc (hallW pressW loadW2 curtW faultW)
open Et (carsO)
set_option maxRecDepth 100000
attribute [local irreducible] Go.Calls
section
variable {lo gq M:Nat} {c:CfgV} {x:Gp} {ep sk sa sb i:Int} {K:KV} {Sk:List Nat} {D:Fam} {w:World} {dA:Option Addr} {dn dc:Nat}
theorem hallT (hb:Blk w gq 96 (gwA c x ep)) (h:KG lo x.q x.p x.mb M K Sk D w) (hg:gq∉kgF x.mb Sk D) (hw:K.G.waits.length≤10000):Calls Tryz.prog 73 #[.pointer (some ⟨gq,0,none⟩),.agg #[.int .i64 sk,.int .i64 sa,.int .i64 sb,.slice dA dn dc]] w fun e w'=>∃ S',e=.returned (.tuple #[.slice none 0 0,.int .i64 (Gr.hallR K.G sa sb).2])∧KG lo x.q x.p x.mb M { K with G:=(doR K.G 1 sa sb (sb == 1)).1 } S' D w'∧Upd (kgF x.mb Sk D) w w'∧∀ g∈kgF x.mb S' D,g∈kgF x.mb Sk D∨w.heap.size≤g:=by
 refine entH tab_ok (hold_g hb h hg) [.p 0 0,.a [.i .i64 sk,.i .i64 sa,.i .i64 sb,.v (.slice dA dn dc)]] Tryz.func73 Tryz.ntmps73 rfl rfl ?_
 repeat' (first | refine gs_ ?_|((conv=>whnf); first | intro b | refine And.intro ?_ ?_|refine callH (f:=58) (.v (.pointer (some ⟨x.p.g,0,none⟩))) (fun w hH=>groupT (hH.row 0 _ rfl rfl) (Hold.ob hH (A:=kgO lo x.q x.p x.mb M K Sk D true) 0 rfl) hg) ?_|refine callO (f:=102) (A:=kgO lo x.q x.p x.mb M K Sk D true) 0 (fun _:List Nat=>.i .i64 (Gr.hallR K.G sa sb).2) (fun S'=>kgO lo x.q x.p x.mb M { K with G:=(doR K.G 1 sa sb (sb == 1)).1 } S' D true) (fun w hH hA=>KG.core hA (fun hk=>hallW hk hw sa sb)) (fun S'=>?_)|refine fin fun w' hH=>⟨S',rfl,Hold.ob hH (A:=kgO lo x.q x.p x.mb M { K with G:=(doR K.G 1 sa sb (sb == 1)).1 } S' D true) 0 rfl,hH.upd,fun g hg=>hH.own _ (List.mem_of_getElem? (i:=0) rfl) rfl g hg⟩|refine fin_s ?_))
theorem pressT (hb:Blk w gq 96 (gwA c x ep)) (h:KG lo x.q x.p x.mb M K Sk D w) (hg:gq∉kgF x.mb Sk D):Calls Tryz.prog 74 #[.pointer (some ⟨gq,0,none⟩),.agg #[.int .i64 sk,.int .i64 sa,.int .i64 sb,.slice dA dn dc]] w fun e w'=>∃ S',e=.returned (.tuple #[.slice none 0 0,.int .i64 (Gr.pressR K.G sa sb).2])∧KG lo x.q x.p x.mb M { K with G:=(doR K.G 2 sa sb (sb == 1)).1 } S' D w'∧Upd (kgF x.mb Sk D) w w'∧∀ g∈kgF x.mb S' D,g∈kgF x.mb Sk D∨w.heap.size≤g:=by
 refine entH tab_ok (hold_g hb h hg) [.p 0 0,.a [.i .i64 sk,.i .i64 sa,.i .i64 sb,.v (.slice dA dn dc)]] Tryz.func74 Tryz.ntmps74 rfl rfl ?_
 repeat' (first | refine gs_ ?_|((conv=>whnf); first | intro b | refine And.intro ?_ ?_|refine callH (f:=58) (.v (.pointer (some ⟨x.p.g,0,none⟩))) (fun w hH=>groupT (hH.row 0 _ rfl rfl) (Hold.ob hH (A:=kgO lo x.q x.p x.mb M K Sk D true) 0 rfl) hg) ?_|refine callO (f:=103) (A:=kgO lo x.q x.p x.mb M K Sk D true) 0 (fun _:List Nat=>.i .i64 (Gr.pressR K.G sa sb).2) (fun S'=>kgO lo x.q x.p x.mb M { K with G:=(doR K.G 2 sa sb (sb == 1)).1 } S' D true) (fun w hH hA=>KG.core hA (fun hk=>pressW hk sa sb)) (fun S'=>?_)|refine fin fun w' hH=>⟨S',rfl,Hold.ob hH (A:=kgO lo x.q x.p x.mb M { K with G:=(doR K.G 2 sa sb (sb == 1)).1 } S' D true) 0 rfl,hH.upd,fun g hg=>hH.own _ (List.mem_of_getElem? (i:=0) rfl) rfl g hg⟩|refine fin_s ?_))
theorem loadT (hb:Blk w gq 96 (gwA c x ep)) (h:KG lo x.q x.p x.mb M K Sk D w) (hg:gq∉kgF x.mb Sk D):Calls Tryz.prog 75 #[.pointer (some ⟨gq,0,none⟩),.agg #[.int .i64 sk,.int .i64 sa,.int .i64 sb,.slice dA dn dc]] w fun e w'=>∃ S',e=.returned (.tuple #[.slice none 0 0,.int .i64 (Gr.loadR K.G sa sb).2])∧KG lo x.q x.p x.mb M { K with G:=(doR K.G 3 sa sb (sb == 1)).1 } S' D w'∧Upd (kgF x.mb Sk D) w w'∧∀ g∈kgF x.mb S' D,g∈kgF x.mb Sk D∨w.heap.size≤g:=by
 refine entH tab_ok (hold_g hb h hg) [.p 0 0,.a [.i .i64 sk,.i .i64 sa,.i .i64 sb,.v (.slice dA dn dc)]] Tryz.func75 Tryz.ntmps75 rfl rfl ?_
 repeat' (first | refine gs_ ?_|((conv=>whnf); first | intro b | refine And.intro ?_ ?_|refine callH (f:=58) (.v (.pointer (some ⟨x.p.g,0,none⟩))) (fun w hH=>groupT (hH.row 0 _ rfl rfl) (Hold.ob hH (A:=kgO lo x.q x.p x.mb M K Sk D true) 0 rfl) hg) ?_|refine callO (f:=104) (A:=kgO lo x.q x.p x.mb M K Sk D true) 0 (fun _:List Nat=>.i .i64 (Gr.loadR K.G sa sb).2) (fun S'=>kgO lo x.q x.p x.mb M { K with G:=(doR K.G 3 sa sb (sb == 1)).1 } S' D true) (fun w hH hA=>KG.core hA (fun hk=>loadW2 hk sa sb)) (fun S'=>?_)|refine fin fun w' hH=>⟨S',rfl,Hold.ob hH (A:=kgO lo x.q x.p x.mb M { K with G:=(doR K.G 3 sa sb (sb == 1)).1 } S' D true) 0 rfl,hH.upd,fun g hg=>hH.own _ (List.mem_of_getElem? (i:=0) rfl) rfl g hg⟩|refine fin_s ?_))
theorem curtainT (hb:Blk w gq 96 (gwA c x ep)) (h:KG lo x.q x.p x.mb M K Sk D w) (hg:gq∉kgF x.mb Sk D):Calls Tryz.prog 76 #[.pointer (some ⟨gq,0,none⟩),.agg #[.int .i64 sk,.int .i64 sa,.int .i64 sb,.slice dA dn dc]] w fun e w'=>∃ S',e=.returned (.tuple #[.slice none 0 0,.int .i64 (Gr.curtR K.G sa (sb == 1)).2])∧KG lo x.q x.p x.mb M { K with G:=(doR K.G 4 sa sb (sb == 1)).1 } S' D w'∧Upd (kgF x.mb Sk D) w w'∧∀ g∈kgF x.mb S' D,g∈kgF x.mb Sk D∨w.heap.size≤g:=by
 refine entH tab_ok (hold_g hb h hg) [.p 0 0,.a [.i .i64 sk,.i .i64 sa,.i .i64 sb,.v (.slice dA dn dc)]] Tryz.func76 Tryz.ntmps76 rfl rfl ?_
 repeat' (first | refine gs_ ?_|((conv=>whnf); first | intro b | refine And.intro ?_ ?_|refine callH (f:=58) (.v (.pointer (some ⟨x.p.g,0,none⟩))) (fun w hH=>groupT (hH.row 0 _ rfl rfl) (Hold.ob hH (A:=kgO lo x.q x.p x.mb M K Sk D true) 0 rfl) hg) ?_|refine callO (f:=105) (A:=kgO lo x.q x.p x.mb M K Sk D true) 0 (fun _:List Nat=>.i .i64 (Gr.curtR K.G sa (sb == 1)).2) (fun S'=>kgO lo x.q x.p x.mb M { K with G:=(doR K.G 4 sa sb (sb == 1)).1 } S' D true) (fun w hH hA=>KG.core hA (fun hk=>curtW hk sa sb)) (fun S'=>?_)|refine fin fun w' hH=>⟨S',rfl,Hold.ob hH (A:=kgO lo x.q x.p x.mb M { K with G:=(doR K.G 4 sa sb (sb == 1)).1 } S' D true) 0 rfl,hH.upd,fun g hg=>hH.own _ (List.mem_of_getElem? (i:=0) rfl) rfl g hg⟩|refine fin_s ?_))
theorem faultT (hb:Blk w gq 96 (gwA c x ep)) (h:KG lo x.q x.p x.mb M K Sk D w) (hg:gq∉kgF x.mb Sk D) (hw:K.G.waits.length≤10000):Calls Tryz.prog 77 #[.pointer (some ⟨gq,0,none⟩),.agg #[.int .i64 sk,.int .i64 sa,.int .i64 sb,.slice dA dn dc]] w fun e w'=>∃ S',e=.returned (.tuple #[.slice none 0 0,.int .i64 (Gr.faultR K.G sa (sb == 1)).2])∧KG lo x.q x.p x.mb M { K with G:=(doR K.G 5 sa sb (sb == 1)).1 } S' D w'∧Upd (kgF x.mb Sk D) w w'∧∀ g∈kgF x.mb S' D,g∈kgF x.mb Sk D∨w.heap.size≤g:=by
 refine entH tab_ok (hold_g hb h hg) [.p 0 0,.a [.i .i64 sk,.i .i64 sa,.i .i64 sb,.v (.slice dA dn dc)]] Tryz.func77 Tryz.ntmps77 rfl rfl ?_
 repeat' (first | refine gs_ ?_|((conv=>whnf); first | intro b | refine And.intro ?_ ?_|refine callH (f:=58) (.v (.pointer (some ⟨x.p.g,0,none⟩))) (fun w hH=>groupT (hH.row 0 _ rfl rfl) (Hold.ob hH (A:=kgO lo x.q x.p x.mb M K Sk D true) 0 rfl) hg) ?_|refine callO (f:=106) (A:=kgO lo x.q x.p x.mb M K Sk D true) 0 (fun _:List Nat=>.i .i64 (Gr.faultR K.G sa (sb == 1)).2) (fun S'=>kgO lo x.q x.p x.mb M { K with G:=(doR K.G 5 sa sb (sb == 1)).1 } S' D true) (fun w hH hA=>KG.core hA (fun hk=>faultW hk (by omega) sa sb)) (fun S'=>?_)|refine fin fun w' hH=>⟨S',rfl,Hold.ob hH (A:=kgO lo x.q x.p x.mb M { K with G:=(doR K.G 5 sa sb (sb == 1)).1 } S' D true) 0 rfl,hH.upd,fun g hg=>hH.own _ (List.mem_of_getElem? (i:=0) rfl) rfl g hg⟩|refine fin_s ?_))
end
end Gw
end Go.Proofs.YtepfmfalebmcnaaGreatDoor
