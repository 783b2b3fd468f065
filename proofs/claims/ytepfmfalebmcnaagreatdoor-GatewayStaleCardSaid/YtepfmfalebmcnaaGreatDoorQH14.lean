/-
  Wanted: part 14.
  No condition.
-/
import Derived.Test.YtepfmfalebmcnaaGreatDoorQH13
import Derived.Test.YtepfmfalebmcnaaGreatDoorRows
import Derived.Test.YtepfmfalebmcnaaGreatDoorQH0
import Derived.Test.YtepfmfalebmcnaaGreatDoorQH12
import Derived.Deep.Slices
import Derived.ChangeSlices
import Derived.SizedLaws
import Derived.Test.YtepfmfalebmcnaaGreatDoorQH11
set_option linter.all false
namespace Go.Proofs.YtepfmfalebmcnaaGreatDoor
namespace Lc
open Go.RowKit Ba Mem En Go.Proofs.YtepfmfalebmcnaaGreatDoor.Ty Mo Go.Proofs.YtepfmfalebmcnaaGreatDoor.St Co
open Ri (MsgV tickV hearV trV sp rn mayRe opB aimF)
open Qu (dropL atS btw firstA atF)
open Le (hasL ofL setL setE endL zeroL atP isS isT isP goodB)
open Gr (GrV loadR one giveR aimR takeR giveC tickG hasF)
open Ct (tkV)
section
variable {c:CfgV} {l:LeaseV} {now:Int}
theorem hearV_ph (x:CarV) (m:MsgV) (h:(hearV c l x now m).1.ph=2∨(hearV c l x now m).1.ph=4):(hearV c l x now m).1.ph=l.ph∧aimF (hearV c l x now m).1=aimF l:=by
 unfold hearV at h ⊢
 split
 ·rename_i h1
  rw [if_pos h1] at h
  split
  ·rename_i h2
   rw [if_pos h2] at h
   exfalso
   rcases h with h | h <;> cases h
  ·exact ⟨rfl,rfl⟩
 ·split
  ·exact ⟨rfl,rfl⟩
  ·split <;> exact ⟨rfl,rfl⟩
theorem tickV_op (x:CarV) (ho:(tickV c l x now).2.2=false):x.br=false∧((tickV c l x now).1.ph=2∨(tickV c l x now).1.ph=4→((l.ph=2∨l.ph=4)∧aimF (tickV c l x now).1=aimF l)∨opB x (aimF (tickV c l x now).1)=true):=by
 unfold tickV at ho ⊢
 split at ho
 ·cases ho
 rename_i hl
 rw [if_neg hl]
 refine ⟨by cases hb:x.br with | true=>exact absurd (.inl hb) hl | false=>rfl, ?_⟩
 split
 ·rename_i h1; exact fun _=>.inr h1.2
 ·split
  ·rename_i h1; exact fun _=>.inr h1.2
  ·exact fun h=>.inl ⟨h,rfl⟩
theorem good_ca (h:goodB c l=true):0≤l.ca∧l.ca < 8:=by
 unfold goodB at h
 simp only [Bool.and_eq_true,decide_eq_true_eq] at h
 exact ⟨h.1.1.1.2,h.1.1.2⟩
theorem set_keep {ls:List LeaseV} {x y:LeaseV} (hy:y∈ls) (hk:key y≠key x):y∈setL c ls x:=by
 unfold setL; split
 ·split
  ·rename_i k hat
   obtain ⟨hl,h1,_⟩:=Le.atP_some hat
   have h2:=h1 hl
   unfold isT at h2
   simp only [Bool.and_eq_true,beq_iff_eq] at h2
   obtain ⟨i,hi,rfl⟩:=List.getElem_of_mem hy
   have:i≠k:=fun e=>hk (by subst e; unfold key; rw [h2.1.1,h2.1.2,h2.2])
   rw [List.mem_iff_getElem?]
   exact ⟨i,by rw [List.getElem?_set,if_neg (fun e=>this e.symm)]; exact List.getElem?_eq_getElem hi⟩
  ·exact hy
 ·exact hy
end
section
variable {K:KV} {rest:List LeaseV} {c:CfgV} {n T m:Nat}
theorem end_keep (h:UQ K) {s:Int} {y:LeaseV} (hy:y∈K.L) (hs:y.se≠s):y∈(Co.endK K s).L:=by
 unfold Co.endK; split
 ·show y∈endL K.L s
  rw [end_filter h.l]
  exact List.mem_filter.2 ⟨hy,by simpa using hs⟩
 ·exact hy
theorem CI.ans (h:CI [] K) (a:AskV):CI [] (ansK K a):=by
 refine ⟨h.a,h.b,h.m, ?_,h.f⟩
 intro b hb l hl
 change b∈ansQ K a at hb
 unfold ansQ at hb
 split at hb
 ·split at hb
  ·exact h.q b hb l hl
  ·rename_i hn
   rcases put_mem hb with hb | rfl
   ·exact h.q b hb l hl
   ·have:=find_none (p:=isS b.se) (ls:=K.L) (by simpa [hasL,atP] using hn) l hl
    intro e
    simp [isS,e] at this
 ·exact h.q b hb l hl
theorem CI.hear (hP:PI c n T K) (hT:T≤1000000) (h:CI [] K) (s:Int) (x:MsgV):CI [] (hearK K s x):=by
 have hca:∀ l∈K.L,0≤l.ca:=fun l hl=>(hP.k.okl l hl).1
 unfold hearK; split
 ·rename_i hL
  obtain ⟨hm,hse⟩:=has_mem hL
  have hn:0≤K.G.now∧K.G.now≤1000000:=⟨hP.k.now.1,by have:=hP.t; omega⟩
  have hLI:=(hP.e _ hm).hear hn (carAt K (ofL K.L s)) x
  have hk:key (hearR K (ofL K.L s) x).1=key (ofL K.L s):=by unfold hearR; exact hearV_key _ _
  cases ho:(hearR K (ofL K.L s) x).2.2 with
  | true =>
   unfold setK; rw [if_pos rfl]
   exact h.end_ hca hP.u _ (fun _ _ _ hin=>by cases hin)
  | false =>
   refine h.set hca hP.u hm hk (by unfold hearR; rw [hP.k.g.1]; exact hLI.gd) (fun _ _ _ hin=>by cases hin) ?_
   intro y hy hb _ hp
   unfold hearR at hp ⊢
   obtain ⟨e1,e2⟩:=hearV_ph _ _ hp
   rw [e2]
   exact hb.op (fun hin=>by cases hin) (e1 ▸ hp)
 ·exact h
theorem CI.gone (hP:PI c n T K) (h:CI [] K) (s:Int):CI [] (goneK K s):=by
 have e:=h.end_ (fun l hl=>(hP.k.okl l hl).1) hP.u s (r:=[]) (fun _ _ _ hin=>by cases hin)
 exact ⟨e.a,e.b,e.m,fun a ha l hl=>h.q a ((drop_sub _ _).subset ha) l (end_ne hP.u s l hl).1,e.f⟩
theorem CI.obS {x:KV×List EvV} (hT:T≤1000000) (hP:PI c n T x.1) (h:CI [] x.1) (l:LeaseV):CI [] (obStep x l).1:=by
 have ld:∀ v,CI [] (ldK x.1 l v):=fun v=>h.grp (SG.one _ _ (fun x=>⟨rfl,rfl,rfl,rfl,rfl⟩)) (one_c _ _ _)
 have pd:∀ v,PI c n T (ldK x.1 l v):=fun v=>⟨KI.ld hP.k l v,hP.u.grp _,EI.sub hP.e (Gr.load_w _ _).2 (fun _ hy=>hy),by show (loadR x.1.G l.ca v).1.now≤T; rw [(Gr.load_w _ _).2]; exact hP.t⟩
 unfold obStep; split
 ·exact (ld _).hear (pd _) hT _ _
 ·split
  ·exact (ld _).hear (pd _) hT _ _
  ·exact h
theorem CI.ob (hT:T≤1000000) (hP:PI c n T K) (h:CI [] K) (k:Nat):CI [] (obF K k).1:=by
 have key:∀ (ls:List LeaseV) (x:KV×List EvV),PI c n T x.1→CI [] x.1→CI [] (ls.foldl obStep x).1:=by
  intro ls
  induction ls with
  | nil=>intro x _ h; exact h
  | cons l r ih=>intro x hP h; rw [List.foldl_cons]; exact ih _ (obS_pi hT hP l) (CI.obS hT hP h l)
 exact key _ _ hP h
theorem CI.do_ (hT:T≤1000000) (hP:PI c n T K) (h:CI [] K) (o:KopV):CI [] (doK K o):=by
 unfold doK
 split
 ·exact h.ans _
 split
 ·exact h.hear hP hT _ _
 split
 ·exact h.gone hP _
 split
 ·exact CI.ob hT hP h _
 ·exact h.grp (gdo_sg _ _) (gdo_w _ _).2.1
theorem car_of {x:CarV} {l:LeaseV} (h:K.G.cars[l.ca.toNat]?=some x):carAt K l=x:=by
 unfold carAt; rw [List.getD_eq_getElem?_getD,h]; rfl
theorem CI.fold {now:Int} (hn:0≤now∧now≤1000000):∀ (rest:List LeaseV) (x:KV×List EvV),x.1.G.now=now→x.1.G.c=c→UQ x.1→(∀ y∈rest,Bn c y)→(∀ y∈x.1.L,y∈rest∨LI c now y)→(rest.map key).Pairwise KR→(∀ y∈rest,y∈x.1.L)→CI rest x.1→CI [] (rest.foldl stepK x).1
 | [],x,_,_,_,_,_,_,_,h=>h
 | l::r,x,h1,h2,h3,h4,h5,h6,h7,h=>by
  rw [List.foldl_cons]
  rw [List.map_cons,List.pairwise_cons] at h6
  have hs:(stepK x l).1=setK x.1 (stepR x.1 l).1 (stepR x.1 l).2.2:=rfl
  have hk:key (stepR x.1 l).1=key l:=by unfold stepR; exact tickV_key _
  have hse:(stepR x.1 l).1.se=l.se:=congrArg Prod.fst hk
  have hlL:=h7 l (List.mem_cons_self ..)
  have hca:∀ y∈x.1.L,0≤y.ca:=fun y hy=>by
   rcases h5 y hy with e | e
   ·exact (good_ca (h4 y e).gd).1
   ·exact (good_ca e.gd).1
  obtain ⟨x0,hx0,hb0⟩:=h.a l hlL
  have hcar:=car_of hx0
  have hne:∀ y∈r,y.se≠l.se:=fun y hy e=>(h6.1 _ (List.mem_map.2 ⟨y,hy,rfl⟩)).1 e.symm
  have h5':∀ y∈(stepK x l).1.L,y∈r∨LI c now y:=by
   intro y hy
   rw [hs] at hy
   cases ho:(stepR x.1 l).2.2 with
   | true =>
    rw [ho] at hy
    unfold setK at hy
    rw [if_pos rfl] at hy
    obtain ⟨hy1,hy2⟩:=end_ne h3 _ y hy
    rcases h5 y hy1 with h | h
    ·rcases List.mem_cons.1 h with rfl | h
     ·exact absurd hse.symm hy2
     ·exact .inl h
    ·exact .inr h
   | false =>
    have hl:LI c now (stepR x.1 l).1:=by
     unfold stepR at ho ⊢
     rw [h1,h2] at ho ⊢
     exact (h4 l (List.mem_cons_self ..)).tick hn _ ho
    rw [ho] at hy
    unfold setK at hy
    rw [if_neg (by decide)] at hy
    change y∈setL x.1.G.c x.1.L _ at hy
    rw [h2] at hy
    rcases set_all h3.l hl.gd y hy with rfl | ⟨hy1,hy2⟩
    ·exact .inr hl
    ·rcases h5 y hy1 with h | h
     ·rcases List.mem_cons.1 h with rfl | h
      ·exact absurd hk.symm hy2
      ·exact .inl h
     ·exact .inr h
  refine CI.fold hn r (stepK x l) (by rw [hs,set_now]; exact h1) (by rw [hs,setK_c]; exact h2) (by rw [hs]; exact h3.set _ _) (fun y hy=>h4 y (List.mem_cons_of_mem _ hy)) h5' h6.2 ?_ ?_
  ·intro y hy
   have hyL:=h7 y (List.mem_cons_of_mem _ hy)
   rw [hs]
   unfold setK; split
   ·exact end_keep h3 hyL (by rw [hse]; exact hne y hy)
   ·exact set_keep hyL (fun e=>hne y hy (by have:y.se=(stepR x.1 l).1.se:=congrArg Prod.fst e; rw [this,hse]))
  ·rw [hs]
   cases ho:(stepR x.1 l).2.2 with
   | true =>
    unfold setK; rw [if_pos rfl]
    exact h.end_ hca h3 _ (fun y _ hy2 hin=>by
     rcases List.mem_cons.1 hin with rfl | hin
     ·exact absurd hse.symm hy2
     ·exact hin)
   | false =>
    have hgd:LI c now (stepR x.1 l).1:=by
     have ho':=ho
     unfold stepR at ho' ⊢
     rw [h1,h2] at ho' ⊢
     exact (h4 l (List.mem_cons_self ..)).tick hn _ ho'
    refine h.set hca h3 hlL hk (by rw [h2]; exact hgd.gd) (fun y _ hy2 hin=>by
     rcases List.mem_cons.1 hin with rfl | hin
     ·exact absurd hk.symm hy2
     ·exact hin) ?_
    intro y hy hb _ hp
    have hcae:(stepR x.1 l).1.ca=l.ca:=congrArg (fun z=>z.2.1) hk
    rw [hcae,hx0] at hy
    have hy:=Option.some.inj hy
    subst hy
    unfold stepR at ho hp ⊢
    rw [hcar] at ho hp ⊢
    obtain ⟨hbr,hop⟩:=tickV_op _ ho
    rcases hop hp with ⟨e1,e2⟩|e
    ·rw [e2]; exact hb.op (fun _=>hbr) e1
    ·exact e
end
end Lc
namespace Lc
open Go.RowKit Ba Mem En Go.Proofs.YtepfmfalebmcnaaGreatDoor.Ty Mo Go.Proofs.YtepfmfalebmcnaaGreatDoor.St Co
open Ri (opB aimF)
open Qu (dropL atS btw firstA atF okF atI)
open Le (atP isP goodB)
open Fl (freeB)
open Gr (GrV takeR tickG hasF idB)
open Ct (tkV tkX tkR tkO tkK ldX ldR ldO ldK ldT)
theorem tkV_flags (c:CfgV) (y:CarV):(tkV c y).mo=y.mo∧(tkV c y).ta=y.ta∧(tkV c y).ho=y.ho∧(tkV c y).br=y.br:=by
 obtain ⟨_,_,_,e4,e5,e6,_,e8⟩:=Ct.tk_same c y
 exact ⟨e5,e6,e8,e4⟩
theorem tkV_stays (c:CfgV) (y:CarV) (hm:y.mo=1) (hh:y.ho=true) (hb:y.br=false) (ho:opB y y.ta=true):opB (tkV c y) y.ta=true:=by
 unfold opB at ho
 simp only [Bool.and_eq_true,beq_iff_eq] at ho
 obtain ⟨⟨h1,h2⟩,h3⟩:=ho
 have ht:ldT y=true:=by
  unfold ldT
  refine decide_eq_true ?_
  unfold lvN at h2
  rw [if_pos h1] at h2
  unfold lvB at h1
  have:=of_decide_eq_true h1
  unfold tw
  rw [if_neg (by omega),if_neg (by omega)]
 have eX:tkX c y=y:=by unfold tkX; rw [if_neg (by rw [hb]; decide),if_pos hm]; unfold ldX; rw [if_neg (by rw [h3]; exact fun h=>absurd h.1 (by decide))]
 have eR:tkR y=0:=by unfold tkR; rw [if_neg (by rw [hb]; decide),if_pos hm]; unfold ldR; rw [if_neg (by rw [h3]; exact fun h=>absurd h.1 (by decide))]
 have eO:tkO y=false:=by unfold tkO; rw [if_neg (by rw [hb]; decide),if_pos hm]; unfold ldO; rw [if_neg (by rw [h3]; decide),h3]; simp
 have eK:tkK c y=false:=by unfold tkK; rw [if_neg (by rw [hb]; decide),if_pos hm]; unfold Ct.ldK; rw [ht,hh]; simp
 have e:tkV c y=Pl.stepV c y 0 false false:=by unfold tkV; rw [eX,eR,eO,eK]
 have eds:(Pl.stepV c y 0 false false).ds=2:=by
  show Pl.dS1 c y false false=2
  unfold Pl.dS1 Pl.dS0 Pl.toldS
  rw [if_neg (by rw [hb]; decide),if_neg (by simp),if_neg (by simp),h3]
  unfold Do.tS
  rw [if_neg (by omega),if_neg (by omega),if_neg (by omega),if_neg (by omega)]
 have eun:(Pl.stepV c y 0 false false).un=y.un:=by
  show Pl.un1 c y 0 false false=y.un
  unfold Pl.un1 Pl.goesB
  rw [if_neg (by rw [h3]; simp)]
 rw [e]
 unfold opB
 rw [eds,eun]
 simp [h1,h2]
section
variable {K:KV} {c:CfgV} {n T m:Nat}
theorem near_sm {x y:CarV} (h0:Gr.Near x y):SM x y∧y.br=x.br:=by
 have h:y={ x with su:=y.su,sd:=y.sd }:=h0
 have e1:=congrArg CarV.mo h
 have e2:=congrArg CarV.ta h
 have e3:=congrArg CarV.ho h
 have e4:=congrArg CarV.ds h
 have e5:=congrArg CarV.un h
 have e6:=congrArg CarV.br h
 exact ⟨⟨e1,e2,e3,e4,e5⟩,e6⟩
theorem CI.tk1 (h:CI [] K):CI K.L (tkK1 K):=by
 have at':∀ (k:Nat) x,K.G.cars[k]?=some x→∃ z,(tickG K.G).cars[k]?=some z∧z.mo=x.mo∧z.ta=x.ta∧z.ho=x.ho∧(z.br=false→x.mo=1→x.ho=true→opB x x.ta=true→opB z x.ta=true):=fun k x hx=>by
  obtain ⟨y,_,hn,hz⟩:=Gr.tick_at hx
  obtain ⟨hs,hbr⟩:=near_sm hn
  obtain ⟨f1,f2,f3,f4⟩:=tkV_flags K.G.c y
  refine ⟨_,hz,f1.trans hs.mo,f2.trans hs.ta,f3.trans hs.ho,fun h1 h2 h3 h4=>?_⟩
  have:=tkV_stays K.G.c y (hs.mo.trans h2) (hs.ho.trans h3) (f4 ▸ h1) (by rw [hs.op,hs.ta]; exact h4)
  rw [hs.ta] at this; exact this
 have back:∀ (i:Nat) z,(tickG K.G).cars[i]?=some z→∃ x,K.G.cars[i]?=some x∧z.mo=x.mo:=fun i z hz=>by
  have hi:i < K.G.cars.length:=by rw [← Gr.tick_len K.G]; exact (List.getElem?_eq_some_iff.1 hz).1
  obtain ⟨z',h1,h2,_⟩:=at' i _ (List.getElem?_eq_getElem hi)
  rw [h1] at hz
  exact ⟨_,List.getElem?_eq_getElem hi,Option.some.inj hz ▸ h2⟩
 refine ⟨fun l hl=>?_,fun i z hz hm=>?_, ?_,h.q,h.f⟩
 ·obtain ⟨x,hx,hb⟩:=h.a l hl
  obtain ⟨z,hz,e1,e2,e3,e4⟩:=at' _ x hx
  refine ⟨z,hz,e1.trans hb.mo,e2.trans hb.ta,e3.trans hb.ho,fun hw hp=>?_⟩
  have:=e4 (hw hl) hb.mo hb.ho (by rw [hb.ta]; exact hb.op (fun h=>by cases h) hp)
  rw [hb.ta] at this; exact this
 ·obtain ⟨x,hx,e⟩:=back i z hz
  exact h.b i x hx (e ▸ hm)
 ·obtain ⟨i,x,hx,h0⟩:=h.m
  obtain ⟨z,hz,e,_⟩:=at' i x hx
  exact ⟨i,z,hz,e.trans h0⟩
theorem near_can (f:Int) (cs:List CarV):∀ k,0≤(nrL f cs k).1→∃ x,cs[(nrL f cs k).1.toNat]?=some x∧canB x=true
 | 0=>fun h=>by exact absurd h (by show ¬ (0:Int) ≤ -1; decide)
 | k+1=>fun h=>by
  unfold nrL at h ⊢
  split at h
  ·exact near_can f cs k h
  ·rename_i x hx
   split at h
   ·rename_i hc
    rw [if_pos hc]
    exact ⟨x,by show cs[((k:Int)).toNat]?=_; rw [Int.toNat_natCast]; exact hx,hc.1⟩
   ·rename_i hc
    rw [if_neg hc]
    exact near_can f cs k h
theorem one_p {α:Type} {p:α→Bool}:∀ {ls:List α},1≤ls.countP p→∃ (i:Nat) (x:α),ls[i]?=some x∧p x=true:=by
 intro ls h
 obtain ⟨x,hx,hp⟩:=List.countP_pos_iff.1 (show 0 < ls.countP p by omega)
 obtain ⟨i,hi⟩:=List.mem_iff_getElem?.1 hx
 exact ⟨i,x,hi,hp⟩
theorem two_p {α:Type} {p:α→Bool}:∀ (ls:List α) (k:Nat),2≤ls.countP p→∃ (i:Nat) (x:α),i≠k∧ls[i]?=some x∧p x=true
 | [],_,h=>by simp at h
 | a::r,0,h=>by
  rw [List.countP_cons] at h
  obtain ⟨i,x,h1,h2⟩:=one_p (ls:=r) (p:=p) (by split at h <;> omega)
  exact ⟨i+1,x,by omega,h1,h2⟩
 | a::r,k+1,h=>by
  rw [List.countP_cons] at h
  by_cases ha:p a=true
  ·exact ⟨0,a,by omega,rfl,ha⟩
  ·rw [if_neg ha] at h
   obtain ⟨i,x,h0,h1,h2⟩:=two_p r k h
   exact ⟨i+1,x,by omega,h1,h2⟩
theorem full_mem (K:KV) {v:Int} (hv:0≤v) (hf:¬ freeB K.G.c K.L v=true):∀ k:Nat,v < (k:Int)→v∈fullL K k
 | 0,h=>by omega
 | k+1,h=>by
  unfold fullL
  by_cases e:v=(k:Int)
  ·subst e; rw [if_neg hf]; simp
  ·have:=full_mem K hv hf k (by omega)
   split
   ·exact this
   ·exact List.mem_append_left _ this
theorem CI.grant (hU:UQ K) (hk:KI c n T m K) (h:CI [] K):CI [] (grantK K):=by
 unfold grantK; split
 ·exact h
 rename_i a ha
 unfold grA at ha
 split at ha
 ·cases ha
 rename_i hpf
 by_cases hat:(atF K.Q (fullL K 8)).isSome=true
 case neg=>rw [if_neg hat] at ha; cases ha
 rw [if_pos hat] at ha
 by_cases hnear:nearI K (firstA K.Q (fullL K 8)).fm < 0
 case pos=>rw [if_pos hnear] at ha; cases ha
 rw [if_neg hnear] at ha
 have ha:=Option.some.inj ha
 -- who it is
 obtain ⟨k,hatk⟩:=Option.isSome_iff_exists.1 hat
 obtain ⟨hkl,hk1,_⟩:=Qu.atF_some hatk
 have hfa:firstA K.Q (fullL K 8)=K.Q[k]:=by unfold firstA; rw [hatk]; simp [List.getD,hkl]
 rw [hfa] at ha hnear
 have haQ:a∈K.Q:=by rw [← ha]; exact List.getElem_mem hkl
 have hfree:(atI (fullL K 8) a.fl).isSome=false:=by rw [← ha]; exact hk1 hkl
 rw [ha] at hnear
 have hmay:=hk.okq a haQ
 have hc:=hk.g.1
 -- its car
 obtain ⟨x0,hx0,hcan⟩:=near_can a.fm K.G.cars K.G.cars.length (by show 0≤nearI K a.fm; omega)
 have hx0:K.G.cars[(nearI K a.fm).toNat]?=some x0:=hx0
 have hid:idB x0=true:=by unfold canB at hcan; simp only [Bool.and_eq_true] at hcan; exact hcan.1.1
 have hmo0:x0.mo=0:=by unfold idB at hid; exact (of_decide_eq_true hid).1
 have hlt:=(List.getElem?_eq_some_iff.1 hx0).1
 have hb8:=Gr.ncars_bd c
 have hlen:=hk.len
 have hfm:=(may_fm hmay).1
 have hhas:hasF K.G.c a.fm=true:=by unfold hasF; rw [hc]; exact decide_eq_true hfm
 have hcat:∀ (i:Nat) x,K.G.cars[i]?=some x→(takeR K.G (nearI K a.fm) a.fm).1.cars[i]?=some (if (i:Int)=nearI K a.fm then Gr.takeX a.fm x else x):=fun i x hx=>by
  unfold takeR; rw [if_pos hhas]; exact Gr.one_at hx
 have hclen:(takeR K.G (nearI K a.fm) a.fm).1.cars.length=K.G.cars.length:=by unfold takeR; rw [if_pos hhas]; exact Gr.one_same.2.2.2
 have hcar:∀ l∈K.L,l.ca≠nearI K a.fm:=fun l hl e=>by
  obtain ⟨x,hx,hb⟩:=h.a l hl
  rw [e,hx0] at hx
  have:=Option.some.inj hx
  have:=hb.mo
  subst x
  omega
 have hse:∀ l∈K.L,l.se≠a.se:=fun l hl e=>h.q a haQ l hl e.symm
 have hfl:0≤a.fl∧a.fl < 8:=by
  have:=hmay
  unfold Fl.mayB Fl.belB at this
  simp only [Bool.and_eq_true,decide_eq_true_eq] at this
  have e:btw c.ft 1 8≤8:=by unfold btw; (repeat' split) <;> omega
  omega
 have hfr:freeB K.G.c K.L a.fl=true:=by
  by_cases e:freeB K.G.c K.L a.fl=true
  ·exact e
  ·exfalso
   have hm:=full_mem K hfl.1 e 8 (by omega)
   have:=find_none hfree a.fl hm
   simp at this
 have hgood:goodB K.G.c (grL K a)=true:=by
  unfold goodB
  rw [hc]
  show (Fl.mayB c a && decide (0≤nearI K a.fm) && decide (nearI K a.fm < 8) && decide ((1:Int)≤1) && decide ((1:Int)≤4))=true
  rw [hmay,decide_eq_true (show 0≤nearI K a.fm by omega),decide_eq_true (show nearI K a.fm < 8 by omega)]
  rfl
 have hput:Le.putE K.G.c K.L (grL K a)=0:=by
  unfold Le.putE
  rw [if_pos hgood,if_neg,if_pos (show freeB K.G.c K.L (grL K a).fl=true from hfr)]
  intro hs
  obtain ⟨j,hj⟩:=Option.isSome_iff_exists.1 hs
  obtain ⟨hjl,hj1,_⟩:=Le.atP_some hj
  have:=hj1 hjl
  unfold isP at this
  simp only [Bool.or_eq_true,beq_iff_eq] at this
  rcases this with e | e
  ·exact hse _ (List.getElem_mem hjl) e
  ·exact hcar _ (List.getElem_mem hjl) e
 have hL:(grK K a).L=K.L++[grL K a]:=by show Le.putL _ _ _=_; unfold Le.putL; rw [if_pos hput]
 refine ⟨fun l hl=>?_,fun i y hy hmo=>?_, ?_,fun b hb l hl=>?_,fun f=>?_⟩
 ·rw [hL] at hl
  rcases List.mem_append.1 hl with hl | hl
  ·obtain ⟨x,hx,hb⟩:=h.a l hl
   refine ⟨_,hcat _ x hx, ?_⟩
   rw [if_neg (by have:=hcar l hl; have:=(hk.okl l hl).1; omega)]
   exact hb
  ·rw [List.mem_singleton] at hl
   subst hl
   refine ⟨_,hcat _ x0 hx0, ?_⟩
   rw [if_pos (show ((grL K a).ca.toNat:Int)=nearI K a.fm by show ((nearI K a.fm).toNat:Int)=_; omega)]
   have e:Gr.takeX a.fm x0={ x0 with mo:=1,ta:=a.fm,ho:=true }:=by unfold Gr.takeX; rw [if_pos hid]
   rw [e]
   exact ⟨rfl,rfl,rfl,fun _ hp=>by rcases hp with hp | hp <;> exact absurd (show (1:Int)=_ from hp) (by decide)⟩
 ·rw [hL]
  have hil:i < K.G.cars.length:=by rw [← hclen]; exact (List.getElem?_eq_some_iff.1 hy).1
  have hx:=List.getElem?_eq_getElem hil
  have hy2:=hcat i _ hx
  have hy':(takeR K.G (nearI K a.fm) a.fm).1.cars[i]?=some y:=hy
  rw [hy'] at hy2
  have e:=Option.some.inj hy2
  by_cases hi:(i:Int)=nearI K a.fm
  ·exact ⟨grL K a,by simp,hi.symm⟩
  ·rw [if_neg hi] at e
   obtain ⟨l,hl,hlc⟩:=h.b i _ hx (e ▸ hmo)
   exact ⟨l,List.mem_append_left _ hl,hlc⟩
 ·have h2:2≤K.G.cars.countP nrmC:=by
   unfold pfB at hpf
   simp only [Bool.or_eq_true,decide_eq_true_eq,not_or] at hpf
   omega
  obtain ⟨i,x,hne,hx,hp⟩:=two_p K.G.cars (nearI K a.fm).toNat h2
  refine ⟨i,_,hcat i x hx, ?_⟩
  rw [if_neg (by omega)]
  unfold nrmC at hp
  simp only [Bool.and_eq_true,beq_iff_eq] at hp
  exact hp.1
 ·rw [hL] at hl
  have hb':b∈dropL K.Q a.se:=hb
  rw [drop_filter hU.q] at hb'
  obtain ⟨h1,h2⟩:=List.mem_filter.1 hb'
  rcases List.mem_append.1 hl with hl | hl
  ·exact h.q b h1 l hl
  ·rw [List.mem_singleton] at hl
   subst hl
   show b.se≠a.se
   simpa using h2
 ·rw [hL]
  show _≤btw (takeR K.G _ _).1.c.qo 1 8
  rw [take_c]
  have e:Fl.cn (K.L++[grL K a]) f=Fl.cn K.L f+if a.fl=f then 1 else 0:=by
   unfold Fl.cn
   rw [List.countP_append,List.countP_cons,List.countP_nil]
   simp only [Nat.zero_add]
   congr 1
   by_cases hf:a.fl=f
   ·rw [if_pos hf,if_pos]; show (a.fl == f)=true; simpa using hf
   ·rw [if_neg hf,if_neg]; show ¬ (a.fl == f)=true; simpa using hf
  rw [e]
  have:=h.f f
  by_cases hf:a.fl=f
  ·rw [if_pos hf]
   unfold freeB at hfr
   have:=of_decide_eq_true hfr
   rw [hf] at this
   omega
  ·rw [if_neg hf]; omega
theorem CI.tick (hP:PI c n T K) (hT:T < 1000000) (h:CI [] K):CI [] (tickK K):=by
 have hn:0≤K.G.now∧K.G.now≤1000000:=⟨hP.k.now.1,by have:=hP.t; omega⟩
 have h1:=tk1_now K hn
 have hn2:0≤(tkK1 K).G.now∧(tkK1 K).G.now≤1000000:=by rw [h1]; have:=hP.t; omega
 refine CI.grant (hP.u.fold _) (hP.k.fold K.L.length) ?_
 unfold foldK
 rw [show K.L.take K.L.length=K.L from List.take_length]
 exact CI.fold hn2 K.L (tkK1 K,[]) rfl hP.k.g.1 (hP.u.grp _) (fun y hy=>(hP.e y hy).toBn) (fun y hy=>.inl hy) hP.u.l (fun y hy=>hy) h.tk1
end
end Lc
namespace Gw
open Go.RowKit Ba Mem En Go.Proofs.YtepfmfalebmcnaaGreatDoor.Ty
open Ri (MsgV)
open Mg (PktV)
open Co (KV KI KT EvV ansK hearK goneK tickK tickE inC newK)
open Lc (PI CI doK KopV)
set_option maxRecDepth 100000
structure JI (c:CfgV) (n T:Nat) (x:Kv):Prop where
 p:PI c n T x.1
 ci:CI [] x.1
 t:TI (64*T:Nat) x
section
variable {c:CfgV} {n T:Nat} {x:Kv}
theorem PI.an {K:KV} (h:PI c n T K) (hT:T≤1000000) (a:AskV):PI c n T (ansK K a):=by
 have h2:=h.do_ hT ⟨1,0,0,a,⟨0,0,0,0⟩⟩
 exact ⟨h.k.ans a,h2.u,h2.e,h2.t⟩
theorem PI.he {K:KV} (h:PI c n T K) (hT:T≤1000000) (s:Int) (m:MsgV):PI c n T (hearK K s m):=by
 have h2:=h.do_ hT ⟨2,0,0,⟨s,0,0,0,0⟩,m⟩
 exact ⟨h.k.hear s m,h2.u,h2.e,h2.t⟩
theorem PI.go {K:KV} (h:PI c n T K) (hT:T≤1000000) (s:Int):PI c n T (goneK K s):=by
 have h2:=h.do_ hT ⟨3,0,0,⟨s,0,0,0,0⟩,⟨0,0,0,0⟩⟩
 exact ⟨h.k.gone s,h2.u,h2.e,h2.t⟩
theorem JI.new (c:CfgV):JI c 0 0 (newK c,fun _=>none):=⟨PI.new c,CI.new c,⟨by simp [newK],by simp [newK],fun i v h=>(by cases h),fun i v h=>(by cases h)⟩⟩
theorem JI.more {n' T':Nat} (h:JI c n T x) (h1:n≤n') (h2:T≤T'):JI c n' T' x:=⟨h.p.more h1 h2,h.ci,h.t.more (by omega)⟩
theorem JI.end_ (h:JI c n T x) (hT:T≤1000000) (i:Int):JI c n T (endV x i):=⟨PI.go h.p hT i,h.ci.gone h.p i,h.t.end_ i⟩
theorem JI.tell1 (h:JI c n T x) (hT:T≤1000000) (e:EvV):JI c n T (tell1 x e):=by
 have ht:=h.t.tell1 e
 unfold Gw.tell1 at ht ⊢
 cases hv:x.2 e.s with
 | none=>exact h
 | some v =>
  rw [hv] at ht
  simp only [] at ht ⊢
  split
  ·rename_i hw
   rw [if_pos hw] at ht
   exact ⟨h.p,h.ci,ht⟩
  ·exact h.end_ hT _
theorem JI.tell (h:JI c n T x) (hT:T≤1000000) (es:List EvV):JI c n T (tellF x es):=by
 unfold tellF
 induction es generalizing x with
 | nil=>exact h
 | cons e r ih=>exact ih (h.tell1 hT e)
theorem JI.set (h:JI c n T x) (i:Int) (v:SeV) (h1:v.ls.length≤16) (h2:0≤v.k.st∧v.k.st≤(64*T:Nat)):JI c n T (x.1,setV x.2 i (some v)):=⟨h.p,h.ci,h.t.set i v h1 h2⟩
theorem JI.born (h:JI c n T x) (hT:T≤1000000) (e i:Int) (m:MsgV):JI c n T (bornK c x e i m) :=
 JI.tell1 (h.set i _ (by simp [newV]) (by simp [newV]; omega)) hT _
theorem JI.wel (h:JI c n T x) (hT:T≤1000000) (ep i:Int) (m:MsgV):JI c n T (welK c x ep i m).1:=by
 unfold welK
 cases x.2 i with
 | none=>exact h.born hT _ _ _
 | some v =>
  simp only []
  split
  ·exact h
  ·exact (h.end_ hT i).born hT _ _ _
theorem KI.qlen {m:Nat} {K:KV} (h:KI c n T m K):K.Q.length≤1000:=by have:=h.lq; omega
theorem JI.said (h:JI c n T x) (hT:T≤10000) (s f:Int) (m:MsgV):JI c n T (saidK x.1 s f m,x.2):=by
 have hT2:T≤1000000:=by omega
 unfold saidK
 split
 ·have h2:=PI.an h.p hT2 ⟨s,f,m.a,m.b,m.c⟩
  exact ⟨h2,h.ci.ans _,⟨KI.qlen h2.k,by have:=h2.k.ll; show (ansK x.1 _).L.length≤10000; omega,h.t.s,h.t.t⟩⟩
 ·split
  ·have h2:=PI.he h.p hT2 s m
   exact ⟨h2,h.ci.hear h.p hT2 s m,⟨KI.qlen h2.k,by have:=h2.k.ll; show (hearK x.1 _ _).L.length≤10000; omega,h.t.s,h.t.t⟩⟩
  ·exact h
theorem JI.come (h:JI c n T x) (hT:T≤10000) (ep:Int) (p:PktV):JI c n T (comeK c x ep p).1:=by
 have hT2:T≤1000000:=by omega
 unfold comeK
 split
 ·exact h.wel hT2 _ _ _
 ·cases hv:x.2 p.se with
  | none=>exact h
  | some v =>
   have h1:=h.t.s _ _ hv
   have h2:=h.t.t _ _ hv
   have set:∀ b,JI c n T (x.1,setV x.2 p.se (some (recvS v p x.1.G.now b))):=fun b=>by
    have h3:=recv_len v p x.1.G.now b
    have h4:=recv_st v p x.1.G.now b
    exact h.set p.se _ (by omega) (by omega)
   simp only []
   split
   ·exact JI.tell (JI.said (set true) hT p.se v.h.b (msgP p)) hT2 _
   ·exact set _
theorem JI.cars (h:JI c n T x):x.1.G.cars.length≤10000:=by
 have:=h.p.k.len
 have:=Gr.ncars_bd c
 omega
theorem JI.inc (h:JI c n T x) (s:Int) (hs:Le.hasL x.1.L s=true):inC x.1 (Le.ofL x.1.L s):=h.p.k.inc (h.p.k.okl _ (Co.has_mem hs).1)
theorem JI.sd (h:JI c n T x) (hT:T≤10000) (s f:Int) (m:MsgV):(saidK x.1 s f m).Q.length≤1000∧(saidK x.1 s f m).L.length≤10000:=⟨(h.said hT s f m).t.q,(h.said hT s f m).t.l⟩
end
def runL (c:CfgV) (x:Kv×Int) (ps:List (List Int)):Kv×Int:=ps.foldl (fun x p=>if (Mg.getV p).2=0 then comeK c x.1 x.2 (Mg.getV p).1 else x) x
theorem JI.run {c:CfgV} {n T:Nat} (hT:T≤10000):∀ (ps:List (List Int)) {x:Kv×Int},JI c n T x.1→JI c n T (runL c x ps).1
 | [],x,h=>h
 | p::r,x,h=>by
  show JI c n T (runL c (if (Mg.getV p).2=0 then comeK c x.1 x.2 (Mg.getV p).1 else x) r).1
  refine JI.run hT r ?_
  split
  ·exact h.come hT _ _
  ·exact h
end Gw
namespace Gw
open Go.RowKit Ba Mem En Go.Proofs.YtepfmfalebmcnaaGreatDoor.Ty Mp Tm
open Ri (MsgV)
open Mg (PktV pktC getV)
open Fm (nextF frames frm)
open Fq (SO NX)
open Byt (BV isB)
open Co (KV Pt KW Nr evE EvV evs inC Hold.ob)
set_option maxRecDepth 100000
theorem bv_up {T:List Nat} {w w':World} {A:Option Addr} {n:Nat} {zs:List Int} (u:Upd T w w') (h:BV w A n zs) (hd:∀ g∈rdF A n,g∉T):BV w' A n zs:=by
 obtain ⟨h1,h2,h3,h4⟩:=h
 refine ⟨h1,h2,h3, ?_⟩
 rcases h4 with h4 | ⟨b,off,rfl,hb,hc⟩
 ·exact .inl h4
 ·cases n with
  | zero=>exact .inl rfl
  | succ n=>exact .inr ⟨b,off,rfl,Nat.lt_of_lt_of_le hb u.size,fun j hj=>upd_cell u hb (hd b (by simp [rdF,blkOf])) (hc j hj)⟩
theorem bv_lt {w:World} {A:Option Addr} {n:Nat} {zs:List Int} (h:BV w A n zs):∀ g∈rdF A n,g < w.heap.size:=by
 intro g hg
 obtain ⟨h1,h2,h3,h4⟩:=h
 cases n with
 | zero=>cases hg
 | succ n =>
  rcases h4 with h4 | ⟨b,off,rfl,hb,hc⟩
  ·cases h4
  ·have:g=b:=by simpa [rdF,blkOf] using hg
   omega
def bvO (A:Option Addr) (n:Nat) (zs:List Int):Asr:=⟨rdF A n,false,fun w=>BV w A n zs,fun u hd h=>bv_up u h hd,fun h=>bv_lt h⟩
structure SP (s N:Nat) (xs:List Int) (Ss:List Nat) (A:Option Addr) (c:Nat) (p:List Int) (w:World):Prop where
 st:SO 0 s N xs Ss w
 pl:byteE.At 0 A p.length c p w
 far:∀ g∈Ss,g∉blkOf A
def spO (s N:Nat) (xs:List Int) (Ss:List Nat) (A:Option Addr) (c:Nat) (p:List Int) (rw:Bool):Asr:=⟨Ss++blkOf A,rw,SP s N xs Ss A c p,fun u hd h=>⟨h.st.upd u (fun g hg=>hd g (List.mem_append.2 (.inl hg))),u.own h.pl (fun g hg=>hd g (List.mem_append.2 (.inr hg))),h.far⟩,fun h g hg=>by
 rcases List.mem_append.1 hg with hg | hg
 ·exact h.st.lt g hg
 ·exact own_lt h.pl g hg⟩
theorem so_isB {s N:Nat} {xs:List Int} {Ss:List Nat} {w:World} (h:SO 0 s N xs Ss w):∀ z∈xs,isB z:=by
 obtain ⟨_,A,n,c,tk,zs,_,_,_,hb,_,e,_⟩:=h
 intro z hz
 rw [← e] at hz
 exact hb z (List.mem_of_mem_drop hz)
section
variable {s N:Nat} {xs p:List Int} {Ss:List Nat} {A:Option Addr} {c:Nat} {w:World}
theorem feedP (h:SP s N xs Ss A c p w) {dA:Option Addr} {dn dc:Nat} {zs:List Int} (hb:BV w dA dn zs) (hN:N+dn≤1000000) (hp:A=none) :
  Calls Tryz.prog 98 #[.pointer (some ⟨s,0,none⟩),.slice dA dn dc] w fun e w'=>∃ S',e=.returned (.tuple #[])∧SP s (N+dn) (xs++zs) S' A c p w'∧Upd (Ss++blkOf A) w w'∧∀ g∈S'++blkOf A,g∈Ss++blkOf A∨w.heap.size≤g:=by
 subst hp
 refine (Fq.feedT 0 s N xs Ss dA dn dc zs w h.st hb hN).mono ?_
 rintro e w' ⟨S',rfl,h1,h2,h3⟩
 have e0:blkOf (none:Option Addr)=[]:=rfl
 have e1:∀ L:List Nat,L++blkOf (none:Option Addr)=L:=fun L=>List.append_nil L
 rw [e1]
 refine ⟨S',rfl, ?_⟩
 rw [e1]
 exact ⟨ ⟨h1,h2.own h.pl (by intro g hg; cases hg),by intro g _ hg; cases hg⟩,h2,h3⟩
def popP (l:List Int):List Int:=(nextF l).1.getD []
def popB (l:List Int):Bool:=(nextF l).1.isSome
theorem nextP (h:SP s N xs Ss A c p w) (hN:N≤1000000) :
  Calls Tryz.prog 99 #[.pointer (some ⟨s,0,none⟩)] w fun e w'=>∃ y:List Nat×Option Addr×Nat,e=.returned (.tuple #[.slice y.2.1 (popP xs).length y.2.2,.bool (popB xs)])∧SP s N (nextF xs).2 y.1 y.2.1 y.2.2 (popP xs) w'∧Upd (Ss++blkOf A) w w'∧∀ g∈y.1++blkOf y.2.1,g∈Ss++blkOf A∨w.heap.size≤g:=by
 refine (Fq.nextT 0 s N xs Ss w h.st hN).mono ?_
 rintro e w' ⟨S',h1,h2,h3,h4⟩
 have u:Upd (Ss++blkOf A) w w':=h2.mono (fun g hg _=>List.mem_append.2 (.inl hg))
 unfold popP popB
 cases hn:(nextF xs).1 with
 | none =>
  rw [hn] at h4
  refine ⟨(S',none,0),h4,⟨h1,Ek.nil _ _ _,by intro g _ hg; cases hg⟩,u,fun g hg=>?_⟩
  rcases List.mem_append.1 hg with hg | hg
  ·exact (h3 g hg).imp (fun h=>List.mem_append.2 (.inl h)) id
  ·cases hg
 | some q =>
  rw [hn] at h4
  obtain ⟨A',c',rfl,ho,hf⟩:=h4
  have ho:=byte_own.2 ho
  refine ⟨(S',A',c'),rfl,⟨h1,Ek.base ho (Nat.zero_le _),hf⟩,u,fun g hg=>?_⟩
  rcases List.mem_append.1 hg with hg | hg
  ·exact (h3 g hg).imp (fun h=>List.mem_append.2 (.inl h)) id
  ·exact .inr (Ek.lows ho g hg)
end
structure BJ (c:CfgV) (n T:Nat) (L0:List Int) (R:Kv×Int) (M0:Nat) (ok:Bool) (p l:List Int) (x:Kv×Int) (M:Nat):Prop where
 j:JI c n T x.1
 r:runL c x (if ok then p::(frames l).1 else [])=R
 f:(if ok then (frames l).2 else l)=(frames L0).2
 b:∀ z∈l,isB z
 pb:∀ z∈p,isB z
 m:M+l.length+(if ok then 1 else 0)≤M0
theorem frames_pop {l:List Int} (h:popB l=true):frames l=(popP l::(frames (nextF l).2).1,(frames (nextF l).2).2):=by
 unfold popB at h
 unfold popP
 cases hn:(nextF l).1 with
 | none=>rw [hn] at h; cases h
 | some q=>exact Fm.frames_some l q _ (by rw [← hn])
theorem frames_no {l:List Int} (h:popB l=false):frames l=([],(nextF l).2):=by
 unfold popB at h
 cases hn:(nextF l).1 with
 | none=>exact Fm.frames_none l _ (by rw [← hn])
 | some q=>rw [hn] at h; cases h
theorem pop_isB {l:List Int} (h:∀ z∈l,isB z):(∀ z∈popP l,isB z)∧∀ z∈(nextF l).2,isB z:=by
 refine ⟨?_, ?_⟩
 ·unfold popP
  cases hn:(nextF l).1 with
  | none=>intro z hz; cases hz
  | some q =>
   obtain ⟨_,_,i,hi⟩:=Fm.nextF_some l q (nextF l).2 (by rw [← hn])
   intro z hz
   refine h z (List.mem_of_mem_drop (i:=i) ?_)
   rw [hi]
   refine List.mem_append.2 (.inl ?_)
   unfold Fm.frm Fm.hd
   simp only [Option.getD_some] at hz
   simp [hz]
 ·obtain ⟨i,hi⟩:=Fm.nextF_end l
  intro z hz
  rw [hi] at hz
  exact h z (List.mem_of_mem_drop hz)
theorem pop_len {l:List Int}:(nextF l).2.length+(if popB l then 1 else 0)≤l.length:=by
 unfold popB
 cases hn:(nextF l).1 with
 | none =>
  obtain ⟨i,hi⟩:=Fm.nextF_end l
  rw [hi]; simp
 | some q =>
  have:=Fm.nextF_less l q (nextF l).2 (by rw [← hn])
  simp; omega
theorem BJ.pop {c:CfgV} {n T:Nat} {L0 l:List Int} {R x:Kv×Int} {M0 M:Nat} (hj:JI c n T x.1) (hr:runL c x (frames l).1=R) (hf:(frames l).2=(frames L0).2) (hb:∀ z∈l,isB z) (hm:M+l.length≤M0):BJ c n T L0 R M0 (popB l) (popP l) (nextF l).2 x M:=by
 have h1:=pop_isB hb
 have h2:=pop_len (l:=l)
 cases h:popB l with
 | true =>
  have h3:=frames_pop h
  rw [h3] at hr hf
  rw [h] at h2
  exact ⟨hj,hr,hf,h1.2,h1.1,by simp at h2 ⊢; omega⟩
 | false =>
  have h3:=frames_no h
  rw [h3] at hr hf
  rw [h] at h2
  exact ⟨hj,hr,hf,h1.2,h1.1,by simp at h2 ⊢; omega⟩
theorem get_se {p:List Int} (hb:∀ z∈p,isB z) (h:(getV p).2=0):0≤(getV p).1.se∧(getV p).1.se≤255:=by
 have h1:=(Mg.get_may p hb (getV p).1 (by rw [← h])).1
 have h2:Mg.headB (getV p).1=true:=by
  unfold Mg.mayB at h1
  simp only [Bool.and_eq_true] at h1
  exact h1.1
 have:=(Mg.head_iff _).1 h2
 omega
theorem comeRO {c:CfgV} {n T:Nat} {gq M:Nat} {x:Gp} {ep:Int} {K:KV} {Sk:List Nat} {D:Fam} {w:World} (q:PktV) (hse:0≤q.se∧q.se≤255) (hb:Blk w gq 96 (gwA c x ep)) (hk:KG 0 x.q x.p x.mb M K Sk D w) (hg:gq∉kgF x.mb Sk D) (hj:JI c n T (K,vals D)) (hT:T≤10000) (hM:M < 1000000) :
  Calls Tryz.prog 101 #[.pointer (some ⟨gq,0,none⟩),.agg (pktC q)] w fun e w'=>∃ y:{y:List Nat×Fam // vals y.2=(comeK c (K,vals D) ep q).1.2},e=.returned (.tuple #[])∧Blk w' gq 96 (gwA c x (comeK c (K,vals D) ep q).2)∧KG 0 x.q x.p x.mb (M+1) (comeK c (K,vals D) ep q).1.1 y.1.1 y.1.2 w'∧Upd (gq::kgF x.mb Sk D) w w'∧∀ g∈kgF x.mb y.1.1 y.1.2,g∈kgF x.mb Sk D∨w.heap.size≤g :=
 (comeT q hse hb hk hg hj.t (by omega) hM hj.cars hj.inc (hj.sd hT)).mono (by
  rintro e w' ⟨y,rfl,h1,h2,h3,h4,h5,h6⟩
  refine ⟨⟨y,h3⟩,rfl,h1,h2,h4,fun g hg1=>?_⟩
  rcases h5 g hg1 with hg2 | hg2
  ·rcases List.mem_cons.1 hg2 with e | hg2
   ·rw [e] at hg1; exact absurd hg1 h6
   ·exact .inl hg2
  ·exact .inr hg2)
def BytQ (gq M:Nat) (c:CfgV) (x:Gp) (N:Nat) (S:List Nat) (w:World) (r:Kv×Int) (rest:List Int) (e:Ending) (w':World):Prop :=
 ∃ y:List Nat×Fam×List Nat,e=.returned (.tuple #[.slice none 0 0,.int .i64 0])∧Blk w' gq 96 (gwA c x r.2)∧KG 0 x.q x.p x.mb M r.1.1 y.1 y.2.1 w'∧vals y.2.1=r.1.2∧SO 0 x.s N rest y.2.2 w'∧Upd (gq::S) w w'∧(∀ g∈kgF x.mb y.1 y.2.1++y.2.2,g∈gq::S∨w.heap.size≤g)∧gq∉kgF x.mb y.1 y.2.1∧gq∉y.2.2∧∀ g∈kgF x.mb y.1 y.2.1,g∉y.2.2
attribute [local irreducible] Go.Calls
set_option maxHeartbeats 8000000 in
theorem bytesT {c:CfgV} {n T N gq M:Nat} {x:Gp} {ep sk sa sb:Int} {K:KV} {Sk Ss:List Nat} {D:Fam} {xs zs:List Int} {dA:Option Addr} {dn dc:Nat} {w:World} (hb:Blk w gq 96 (gwA c x ep)) (hk:KG 0 x.q x.p x.mb M K Sk D w) (hs:SO 0 x.s N xs Ss w) (hg:gq∉kgF x.mb Sk D) (hgs:gq∉Ss) (hd:∀ g∈kgF x.mb Sk D,g∉Ss) (hz:BV w dA dn zs) (hz1:∀ g∈rdF dA dn,g∉gq::(kgF x.mb Sk D++Ss)) (hj:JI c n T (K,vals D)) (hT:T≤10000) (hM:M+(xs++zs).length < 1000000) (hN:N+dn≤1000000) :
  Calls Tryz.prog 72 #[.pointer (some ⟨gq,0,none⟩),.agg #[.int .i64 sk,.int .i64 sa,.int .i64 sb,.slice dA dn dc]] w (BytQ gq (M+(xs++zs).length - (frames (xs++zs)).2.length) c x (N+dn) (kgF x.mb Sk D++Ss) w (runL c ((K,vals D),ep) (frames (xs++zs)).1) (frames (xs++zs)).2):=by
 have hp0:SP x.s N xs Ss none 0 [] w:=⟨hs,Ek.nil _ _ _,by intro g _ hg; cases hg⟩
 have e0:Ss++blkOf (none:Option Addr)=Ss:=List.append_nil _
 have hH:∀ nt,Hold ⟨Tryz.prog,tab,gq::(kgF x.mb Sk D++Ss),w,nt,[]⟩ [⟨gq,96,true,0,[],gwS c x ep,[],true⟩] [kgO 0 x.q x.p x.mb M K Sk D true,spO x.s N xs Ss none 0 [] true,bvO dA dn zs] w:=fun nt=>by
  refine Hold.addObj (ob:=[kgO 0 x.q x.p x.mb M K Sk D true,spO x.s N xs Ss none 0 [] true]) (Hold.addObj (ob:=[kgO 0 x.q x.p x.mb M K Sk D true]) (Hold.addObj (ob:=[]) (Hold.addRow (m:=[]) (Hold.nil _ tab _ _ w) ⟨gq,96,true,0,[],gwS c x ep,[],true⟩ hb (fun _=>.inl (List.mem_cons_self ..)) (by intro q hq; cases hq) (by intro A hA; cases hA)) _ hk (fun _ g hg=>.inl (List.mem_cons_of_mem _ (List.mem_append.2 (.inl hg)))) (by intro r hr _; simp only [List.nil_append,List.mem_singleton] at hr; subst hr; exact hg) (by intro A hA; cases hA)) (spO x.s N xs Ss none 0 [] true) hp0 (fun _ g hg=>.inl (List.mem_cons_of_mem _ (List.mem_append.2 (.inr (e0 ▸ hg))))) (by intro r hr _ hm; simp only [List.nil_append,List.mem_singleton] at hr; subst hr; exact hgs (e0 ▸ hm)) (by intro A hA _ g hg hg2; rw [List.mem_singleton] at hA; subst hA; exact hd g hg (e0 ▸ hg2))) (bvO dA dn zs) hz (by intro k; cases k) (by intro r hr _ hm; simp only [List.nil_append,List.mem_singleton] at hr; subst hr; exact hz1 _ hm (List.mem_cons_self ..)) (by
   intro A hA _ g hg hg2
   simp only [List.mem_cons,List.mem_nil_iff,or_false] at hA
   rcases hA with rfl | rfl
   ·exact hz1 g hg2 (List.mem_cons_of_mem _ (List.mem_append.2 (.inl hg)))
   ·exact hz1 g hg2 (List.mem_cons_of_mem _ (List.mem_append.2 (.inr (e0 ▸ hg)))))
 have hxb:=so_isB hs
 have hzb:=hz.2.2.1
 have hlb:∀ z∈xs++zs,isB z:=fun z h=>(List.mem_append.1 h).elim (hxb z) (hzb z)
 have hst:=BJ.pop (c:=c) (M:=M) (M0:=M+(xs++zs).length) (L0:=xs++zs) (x:=((K,vals D),ep)) hj rfl rfl hlb (Nat.le_refl _)
 refine entH tab_ok (hH _) [.p 0 0,.a [.i .i64 sk,.i .i64 sa,.i .i64 sb,.v (.slice dA dn dc)]] Tryz.func72 Tryz.ntmps72 rfl rfl ?_
 repeat' (first | refine gs_ ?_|((conv=>whnf); first | intro b | refine b3_ (fun h=>?_) (fun h=>?_)|refine callO (f:=98) (A:=spO x.s N xs Ss none 0 [] true) 1 (fun _:List Nat=>.t []) (fun S'=>spO x.s (N+dn) (xs++zs) S' none 0 [] true) (fun w hH hA=>feedP hA (Hold.ob hH (A:=bvO dA dn zs) 2 rfl) hN rfl) (fun S'=>?_)|refine callO (f:=99) (A:=spO x.s (N+dn) (xs++zs) S' none 0 [] true) 1 (fun y:List Nat×Option Addr×Nat=>.t [.v (.slice y.2.1 (popP (xs++zs)).length y.2.2),.b (popB (xs++zs))]) (fun y=>spO x.s (N+dn) (nextF (xs++zs)).2 y.1 y.2.1 y.2.2 (popP (xs++zs)) true) (fun w hH hA=>nextP hA hN) (fun y=>?_)|refine fin_s ?_))
 conv=>whnf
 refine lp ⟨tab_ok⟩ (ι:={v:(Bool×List Int×List Int)×(Option Addr×Nat×List Nat)×(KV×List Nat×Fam×Int×Nat) // BJ c n T (xs++zs) (runL c ((K,vals D),ep) (frames (xs++zs)).1) (M+(xs++zs).length) v.1.1 v.1.2.1 v.1.2.2 ((v.2.2.1,vals v.2.2.2.2.1),v.2.2.2.2.2.1) v.2.2.2.2.2.2}) (fun v=>match v with | ⟨((ok,p,l),(A1,c1,S1),(K1,Sk1,D1,ep1,M1)),_⟩=>⟨[(0,.p 0 0),(6,.v (.slice A1 p.length c1)),(7,.b ok)],[⟨gq,96,true,0,[],gwS c x ep1,[],true⟩],[kgO 0 x.q x.p x.mb M1 K1 Sk1 D1 true,spO x.s (N+dn) l S1 A1 c1 p true,bvO dA dn zs]⟩) (fun v=>v.1.1.2.2.length+(if v.1.1.1 then 1 else 0)) ⟨((popB (xs++zs),popP (xs++zs),(nextF (xs++zs)).2),(y.2.1,y.2.2,y.1),(K,Sk,D,ep,M)),hst⟩ (wk ?_) ?_
 ·repeat' (first | exact trivial | rfl | ((conv=>whnf); refine And.intro ?_ ?_))
 rintro ⟨⟨⟨ok,p,l⟩,⟨A1,c1,S1⟩,⟨K1,Sk1,D1,ep1,M1⟩⟩,hj1⟩
 have hj1:BJ c n T (xs++zs) (runL c ((K,vals D),ep) (frames (xs++zs)).1) (M+(xs++zs).length) ok p l ((K1,vals D1),ep1) M1:=hj1
 cases ok with
 | false =>
  repeat' (first | refine gs_ ?_|((conv=>whnf); first | intro b | refine fin fun w' hH=>?_|refine fin_s ?_))
  have hr:runL c ((K,vals D),ep) (frames (xs++zs)).1=((K1,vals D1),ep1):=hj1.r.symm
  have hf:(frames (xs++zs)).2=l:=hj1.f.symm
  have hm1:=hj1.m
  rw [hr,hf]
  have hsp:=Hold.ob hH (A:=spO x.s (N+dn) l S1 A1 c1 p true) 1 rfl
  have d01:DisR (kgO 0 x.q x.p x.mb M1 K1 Sk1 D1 true) (spO x.s (N+dn) l S1 A1 c1 p true):=pair_at (R:=DisR) (fun _ _ h=>h.symm) hH.dis (i:=0) (j:=1) rfl rfl (by decide)
  refine ⟨(Sk1,D1,S1),rfl,by have:=hH.row 0 _ rfl rfl; rw [rowA_nil rfl rfl] at this; exact this,(Hold.ob hH (A:=kgO 0 x.q x.p x.mb M1 K1 Sk1 D1 true) 0 rfl).more (by simp only [Bool.false_eq_true,if_false] at hm1; omega),rfl,SP.st hsp,hH.upd,fun g hg=>?_,hH.far _ (List.mem_of_getElem? (i:=0) rfl) 0 _ rfl rfl,fun hm=>hH.far _ (List.mem_of_getElem? (i:=1) rfl) 0 _ rfl rfl (List.mem_append.2 (.inl hm)),fun g hg hgs=>d01 (.inl rfl) g hg (List.mem_append.2 (.inl hgs))⟩
  rcases List.mem_append.1 hg with hg | hg
  ·exact hH.own _ (List.mem_of_getElem? (i:=0) rfl) rfl g hg
  ·exact hH.own _ (List.mem_of_getElem? (i:=1) rfl) rfl g (List.mem_append.2 (.inl hg))
 | true =>
  have hjj:=hj1.j
  have hm1:=hj1.m
  simp only [if_true] at hm1
  have hr1:=hj1.r
  have hf1:=hj1.f
  simp only [if_true] at hr1 hf1
  by_cases hz0:(getV p).2=0
  ·have hse:=get_se hj1.pb hz0
   have hx2:∀ z:{z:List Nat×Fam // vals z.2=(comeK c (K1,vals D1) ep1 (getV p).1).1.2},(((comeK c (K1,vals D1) ep1 (getV p).1).1.1,vals z.1.2),(comeK c (K1,vals D1) ep1 (getV p).1).2)=comeK c (K1,vals D1) ep1 (getV p).1:=fun z=>by rw [z.2]
   have hbj:∀ z:{z:List Nat×Fam // vals z.2=(comeK c (K1,vals D1) ep1 (getV p).1).1.2},BJ c n T (xs++zs) (runL c ((K,vals D),ep) (frames (xs++zs)).1) (M+(xs++zs).length) (popB l) (popP l) (nextF l).2 (((comeK c (K1,vals D1) ep1 (getV p).1).1.1,vals z.1.2),(comeK c (K1,vals D1) ep1 (getV p).1).2) (M1+1):=fun z=>by
    rw [hx2 z]
    refine BJ.pop (hjj.come hT _ _) ?_ hf1 hj1.b (by omega)
    rw [← hr1]
    show _=runL c (if (getV p).2=0 then comeK c (K1,vals D1) ep1 (getV p).1 else ((K1,vals D1),ep1)) (frames l).1
    rw [if_pos hz0]
   repeat' (first | refine gs_ ?_|((conv=>whnf); first | intro b | refine callH (f:=100) (.t [.a [.i .i64 (getV p).1.se,.i .i64 (getV p).1.ep,.i .i64 (getV p).1.sq,.i .i64 (getV p).1.ak,.b (getV p).1.has,.i .i64 (getV p).1.ki,.i .i64 (getV p).1.a,.i .i64 (getV p).1.b,.i .i64 (getV p).1.c],.i .i64 (getV p).2]) (fun w hH=>Mg.getT (SP.pl (Hold.ob hH (A:=spO x.s (N+dn) l S1 A1 c1 p true) 1 rfl)) rfl hj1.pb) ?_|refine callRO (f:=101) 0 0 (A:=kgO 0 x.q x.p x.mb M1 K1 Sk1 D1 true) (fun z:{z:List Nat×Fam // vals z.2=(comeK c (K1,vals D1) ep1 (getV p).1).1.2}=>.t []) (fun z=>gwS c x (comeK c (K1,vals D1) ep1 (getV p).1).2) (fun z=>kgO 0 x.q x.p x.mb (M1+1) (comeK c (K1,vals D1) ep1 (getV p).1).1.1 z.1.1 z.1.2 true) (fun w hH hB hA hq=>comeRO (getV p).1 hse hB hA hq hjj hT (by omega)) (fun z=>?_)|refine callO (f:=99) (A:=spO x.s (N+dn) l S1 A1 c1 p true) 1 (fun y:List Nat×Option Addr×Nat=>.t [.v (.slice y.2.1 (popP l).length y.2.2),.b (popB l)]) (fun y=>spO x.s (N+dn) (nextF l).2 y.1 y.2.1 y.2.2 (popP l) true) (fun w hH hA=>nextP hA hN) (fun y=>?_)|refine En.back ⟨((popB l,popP l,(nextF l).2),(y.2.1,y.2.2,y.1),((comeK c (K1,vals D1) ep1 (getV p).1).1.1,z.1.1,z.1.2,(comeK c (K1,vals D1) ep1 (getV p).1).2,M1+1)),hbj z⟩ (wk ?_) ?_|refine fin_s ?_))
   all_goals first | (have hpl:=pop_len (l:=l); show (nextF l).2.length+(if popB l=true then 1 else 0) < l.length+(if true=true then 1 else 0); simp at hpl ⊢; omega)|skip
   all_goals (repeat' (first | exact trivial | rfl | ((conv=>whnf); refine And.intro ?_ ?_)))
  ·have hbj:BJ c n T (xs++zs) (runL c ((K,vals D),ep) (frames (xs++zs)).1) (M+(xs++zs).length) (popB l) (popP l) (nextF l).2 ((K1,vals D1),ep1) M1:=by
    refine BJ.pop hjj ?_ hf1 hj1.b (by omega)
    rw [← hr1]
    show _=runL c (if (getV p).2=0 then comeK c (K1,vals D1) ep1 (getV p).1 else ((K1,vals D1),ep1)) (frames l).1
    rw [if_neg hz0]
   repeat' (first | refine gs_ ?_|((conv=>whnf); first | intro b | refine callH (f:=100) (.t [.a [.i .i64 (getV p).1.se,.i .i64 (getV p).1.ep,.i .i64 (getV p).1.sq,.i .i64 (getV p).1.ak,.b (getV p).1.has,.i .i64 (getV p).1.ki,.i .i64 (getV p).1.a,.i .i64 (getV p).1.b,.i .i64 (getV p).1.c],.i .i64 (getV p).2]) (fun w hH=>Mg.getT (SP.pl (Hold.ob hH (A:=spO x.s (N+dn) l S1 A1 c1 p true) 1 rfl)) rfl hj1.pb) ?_|refine callO (f:=99) (A:=spO x.s (N+dn) l S1 A1 c1 p true) 1 (fun y:List Nat×Option Addr×Nat=>.t [.v (.slice y.2.1 (popP l).length y.2.2),.b (popB l)]) (fun y=>spO x.s (N+dn) (nextF l).2 y.1 y.2.1 y.2.2 (popP l) true) (fun w hH hA=>nextP hA hN) (fun y=>?_)|refine En.back ⟨((popB l,popP l,(nextF l).2),(y.2.1,y.2.2,y.1),(K1,Sk1,D1,ep1,M1)),hbj⟩ (wk ?_) ?_|refine fin_s ?_))
   all_goals first | (have hpl:=pop_len (l:=l); show (nextF l).2.length+(if popB l=true then 1 else 0) < l.length+(if true=true then 1 else 0); simp at hpl ⊢; omega)|skip
   all_goals (repeat' (first | exact trivial | rfl | ((conv=>whnf); refine And.intro ?_ ?_)))
end Gw
namespace Gw
open Go.RowKit Ba Mem En Go.Proofs.YtepfmfalebmcnaaGreatDoor.Ty
open Byt (BV isB)
set_option maxRecDepth 100000
structure StepD where
 k:Int
 a:Int
 b:Int
 A:Option Addr
 n:Nat
 c:Nat
 d:List Int
instance:Inhabited StepD:=⟨⟨0,0,0,none,0,0,[]⟩⟩
def stepC (s:StepD):List Value:=[.int .i64 s.k,.int .i64 s.a,.int .i64 s.b,.slice s.A s.n s.c]
def stepE:Ek StepD:=⟨38,4,stepC,fun _=>rfl,by
 intro a u hu
 simp only [stepC,List.mem_cons,List.not_mem_nil,or_false] at hu
 rcases hu with rfl | rfl | rfl | rfl <;> rfl⟩
structure StepW (s:StepD):Prop where
 k:(Lit.int .i64 s.k).wf=true
 a:(Lit.int .i64 s.a).wf=true
 b:(Lit.int .i64 s.b).wf=true
 l:s.d.length=s.n
 c:s.n≤s.c
 m:s.n≤140737488351232
theorem weights_mem_all {H:Type} {P:Program} {e:TypeId}:∀ {ds:List (DataW H)} {d:DataW H},d∈ds→∀ n∈d.weights P e,n∈DataW.weightsAll P e ds
 | [],_,h,_,_=>by cases h
 | d0::r,d,h,n,hn=>by
  simp only [DataW.weightsAll,List.mem_append]
  rcases List.mem_cons.1 h with rfl | h
  ·exact .inl hn
  ·exact .inr (weights_mem_all h n hn)
section
variable {H:Type} {enc:TypeId×Value→H} {w:World} {base:Nat} {spare:Nat→Bool} {held:Bool}
theorem step_of {fuel:Nat} {cs:List Value} {x:DataW H×List MemPlace} (h:DataW.trod enc Tryz.prog w base spare held fuel 38 cs=some x) (hU:∀ u∈x.1.weights Tryz.prog 38,u≤140737488351232):∃ s:StepD,cs=stepC s∧BV w s.A s.n s.d∧StepW s:=by
 have e1:Tryz.prog.cellsOf 3=1:=by kernel_rfl
 have es:Tryz.prog.cellsOf 29=1:=by kernel_rfl
 have eb:Tryz.prog.bytesOf 5=1:=by kernel_rfl
 obtain ⟨xs,n,rfl,hxe,hl,hx,hf⟩:=DataW.trod_struct Tryz.underlying38 h
 have hl':cs.length=4:=hl.trans (by kernel_rfl)
 match cs,hl' with
 | [a0,a1,a2,a3],_ =>
  have hx':xs.length=4:=hx
  match xs,hx' with
  | [y0,y1,y2,y3],_ =>
   have g0:=hf 0 _ rfl
   have g1:=hf 1 _ rfl
   have g2:=hf 2 _ rfl
   have g3:=hf 3 _ rfl
   simp [e1,es] at g0 g1 g2 g3
   obtain ⟨v0,q0,_,k0⟩:=DataW.trod_int Tryz.underlying3 g0
   obtain ⟨v1,q1,_,k1⟩:=DataW.trod_int Tryz.underlying3 g1
   obtain ⟨v2,q2,_,k2⟩:=DataW.trod_int Tryz.underlying3 g2
   simp at q0 q1 q2
   subst q0 q1 q2
   have hw:∀ u∈DataW.weights Tryz.prog 29 y3.1,u≤140737488351232:=fun u hu=>by
    refine hU u ?_
    rw [hxe]
    simp only [DataW.weights,Tryz.underlying38]
    exact DataW.weights_mem_each (j:=3) (t:=29) (d:=y3.1) rfl rfl u hu
   rcases Go.ChangeShapes.open_ints Tryz.underlying29 Tryz.underlying5 (by kernel_rfl) g3 with ⟨hcs,_⟩ | ⟨x,l2,c,zs,hcs,_,hlc,hm2,hz,hy,hcl,hww⟩
   ·simp at hcs
    subst hcs
    exact ⟨⟨v0,v1,v2,none,0,0,[]⟩,rfl,BV.nil _ _,⟨k0,k1,k2,rfl,by simp,by simp⟩⟩
   ·simp at hcs
    subst hcs
    have hlz:l2≤zs.length:=by rw [hz]; split <;> omega
    have hm3:l2≤140737488351232:=by
     have:=hw _ (by
      rw [show y3=_ from hy]
      simp only [DataW.weights,Tryz.underlying29]
      exact List.mem_cons_self ..)
     simp only [Go.ChangeShapes.lits,List.length_map,List.length_take,List.length_drop,eb] at this
     omega
    exact ⟨⟨v0,v1,v2,some x,l2,c,zs.take l2⟩,rfl,Pa.bv_cells hlz (Nat.le_trans hlc hm2) hcl hww,⟨k0,k1,k2,by show (zs.take l2).length=l2; rw [List.length_take]; omega,hlc,hm3⟩⟩
end
structure StR (a:Option Addr) (len:Nat) (ss:Nat→StepD) (w:World):Prop where
 r:stepE.Rd a len ss w
 d:∀ i,i < len→BV w (ss i).A (ss i).n (ss i).d
def stF (a:Option Addr) (len:Nat) (ss:Nat→StepD):List Nat:=rdF a len++(List.range len).flatMap fun i=>rdF (ss i).A (ss i).n
theorem stF_at {a:Option Addr} {len i:Nat} {ss:Nat→StepD} (hi:i < len):∀ g∈rdF (ss i).A (ss i).n,g∈stF a len ss:=fun g hg=>List.mem_append.2 (.inr (List.mem_flatMap.2 ⟨i,List.mem_range.2 hi,hg⟩))
def stO (a:Option Addr) (len:Nat) (ss:Nat→StepD):Asr:=⟨stF a len ss,false,StR a len ss,fun u hd h=>⟨(rdO stepE a len ss).up u (fun g hg=>hd g (List.mem_append.2 (.inl hg))) h.r,fun i hi=>bv_up u (h.d i hi) (fun g hg=>hd g (stF_at hi g hg))⟩,fun h g hg=>by
 rcases List.mem_append.1 hg with hg | hg
 ·exact (rdO stepE a len ss).lt h.r g hg
 ·obtain ⟨i,hi,hg⟩:=List.mem_flatMap.1 hg
  exact bv_lt (h.d i (List.mem_range.1 hi)) g hg⟩
section
variable {H:Type} {enc:TypeId×Value→H} {w:World} {base:Nat} {spare:Nat→Bool} {held:Bool}
theorem steps_open {fuel:Nat} {a:Option Addr} {len cap:Nat} {x:DataW H×List MemPlace} (h:DataW.trod enc Tryz.prog w base spare held fuel 24 [.slice a len cap]=some x) (hU:∀ u∈x.1.weights Tryz.prog 24,u≤140737488351232):∃ ss,StR a len ss w∧(∀ i,i < len→StepW (ss i))∧len≤9223372036854775807:=by
 have ce:Tryz.prog.cellsOf 38=4:=by kernel_rfl
 rcases Go.Deep.open_slice Tryz.underlying24 h with ⟨hcs,_⟩ | ⟨a',len',cap',m,n,D,Pl,hcs,hb,hlc,hcm,hm,hxe,hx⟩
 ·simp at hcs
  obtain ⟨rfl,rfl,rfl⟩:=hcs
  exact ⟨default,⟨.inl rfl,fun i hi=>by omega⟩,fun i hi=>by omega,by omega⟩
 ·simp at hcs
  obtain ⟨rfl,rfl,rfl⟩:=hcs
  have hlm:len≤m:=by rw [hm]; split <;> omega
  have hw:∀ i,i < len→∀ u∈(D i).weights Tryz.prog 38,u≤140737488351232:=fun i hi u hu=>by
   refine hU u ?_
   rw [hxe]
   simp only [DataW.weights,Tryz.underlying24]
   exact List.mem_cons_of_mem _ (List.mem_append.2 (.inl (weights_mem_all (List.mem_map.2 ⟨i,List.mem_range.2 hi,rfl⟩) u hu)))
  have each:∀ i,i < len→∃ l:StepD,(∀ j v,(stepC l)[j]?=some v→w.cell? ((a'.add (i*4)).add j)=some v)∧BV w l.A l.n l.d∧StepW l:=by
   intro i hi
   obtain ⟨cs',h1,h2⟩:=hx i (by omega)
   rw [ce] at h1
   obtain ⟨_,hlen,hcell⟩:=World.cells?_some h1
   obtain ⟨l,rfl,h3,h4⟩:=step_of h2 (hw i hi)
   refine ⟨l,fun j v hj=>?_,h3,h4⟩
   have hj9:j < 4:=by
    obtain ⟨hlt,_⟩:=List.getElem?_eq_some_iff.1 hj
    simpa [stepC] using hlt
   rw [hcell j hj9,hj]
  obtain ⟨ls,hls⟩:=Go.Deep.choose_lt each
  refine ⟨ls,⟨?_,fun i hi=>(hls i hi).2.1⟩,fun i hi=>(hls i hi).2.2,by unfold maxLen at hcm; omega⟩
  rcases Nat.eq_zero_or_pos len with h0 | h0
  ·exact .inl h0
  ·obtain ⟨b,off,idx⟩:=a'
   have c0:=(hls 0 h0).1 0 _ rfl
   cases idx with
   | none =>
    rw [Go.WideShapes.add_plain,Go.WideShapes.add_plain] at c0
    refine .inr ⟨b,off,rfl,World.block_lt_of_cell? _ _ c0,fun i hi j v hj=>?_⟩
    have:=(hls i hi).1 j v hj
    rw [Go.WideShapes.add_plain,Go.WideShapes.add_plain] at this
    exact this
   | some q =>
    exfalso
    simp [World.cell?,Addr.add] at c0
    split at c0 <;> simp at c0
end
end Gw
namespace Fm
theorem frames_cnt:∀ (n:Nat) (l:List Int),l.length < n→(frames l).1.length+(frames l).2.length≤l.length
 | 0,_,h=>by omega
 | n+1,l,h=>by
  match e:nextF l with
  | (none,rest) =>
   obtain ⟨i,hi⟩:=nextF_end l
   rw [e] at hi
   have hi:rest=l.drop i:=hi
   rw [frames_none l rest e,hi]
   simp
  | (some p,rest) =>
   have hl:=nextF_less l p rest e
   have:=frames_cnt n rest (by omega)
   rw [frames_some l p rest e]
   simp only [List.length_cons]
   omega
theorem frames_le (l:List Int):(frames l).1.length+(frames l).2.length≤l.length:=frames_cnt (l.length+1) l (by omega)
end Fm
namespace Gw
open Go.RowKit Ba Mem En Go.Proofs.YtepfmfalebmcnaaGreatDoor.Ty Mp
open Ri (MsgV)
open Co (KV KI KT EvV evs tickK tickE foldK stepK stepR tkK1 grantE grA goneK Hold.ob)
open Lc (PI CI)
set_option maxRecDepth 100000
theorem may_se {c:CfgV} {a:AskV} (h:Fl.mayB c a=true):0≤a.se∧a.se < 64:=by
 unfold Fl.mayB Fl.belB at h
 simp only [Bool.and_eq_true,decide_eq_true_eq] at h
 have h1:=h.1.1.1.1.1.1
 have h2:Qu.btw c.se 1 64≤64:=by unfold Qu.btw; (repeat' split) <;> omega
 omega
theorem fold_s (ls:List LeaseV):∀ x:KV×List EvV,∀ e∈(ls.foldl stepK x).2,e∈x.2∨∃ l∈ls,e.s=l.se:=by
 induction ls with
 | nil=>intro x e he; exact .inl he
 | cons l r ih =>
  intro x e he
  rw [List.foldl_cons] at he
  rcases ih _ e he with h | ⟨y,hy,h⟩
  ·unfold Co.stepK at h
   rcases List.mem_append.1 h with h | h
   ·exact .inl h
   ·simp only [evs,List.mem_map] at h
    obtain ⟨_,_,rfl⟩:=h
    exact .inr ⟨l,List.mem_cons_self ..,(Co.tickV_ca _ _ _ _).2⟩
  ·exact .inr ⟨y,List.mem_cons_of_mem _ hy,h⟩
theorem fold_Q (K:KV) (k:Nat):(foldK K k).1.Q=K.Q:=by
 unfold Co.foldK
 have:∀ (ls:List LeaseV) (x:KV×List EvV),(ls.foldl stepK x).1.Q=x.1.Q:=by
  intro ls
  induction ls with
  | nil=>intro x; rfl
  | cons l r ih =>
   intro x
   rw [List.foldl_cons,ih]
   show (Co.setK x.1 (stepR x.1 l).1 (stepR x.1 l).2.2).Q=x.1.Q
   unfold Co.setK
   split
   ·exact Co.endK_Q _ _
   ·rfl
 rw [this]; rfl
section
variable {c:CfgV} {n T:Nat} {x:Kv}
theorem PI.evs {K:KV} (h:PI c n T K):∀ e∈tickE K,0≤e.s∧e.s < 64:=by
 intro e he
 rcases List.mem_append.1 he with he | he
 ·rcases fold_s _ _ e he with he | ⟨l,hl,hs⟩
  ·cases he
  ·rw [hs]
   have hg:=(h.e l (List.mem_of_mem_take hl)).gd
   unfold Le.goodB at hg
   simp only [Bool.and_eq_true] at hg
   exact may_se hg.1.1.1.1
 ·unfold Co.grantE at he
  cases ha:grA (foldK K K.L.length).1 with
  | none=>rw [ha] at he; cases he
  | some a =>
   rw [ha] at he
   rw [List.mem_singleton] at he
   rw [he]
   unfold Co.grA at ha
   split at ha
   ·cases ha
   ·split at ha
    ·rename_i hf
     split at ha
     ·cases ha
     ·cases ha
      have hm:=Co.first_mem hf
      exact may_se (h.k.okq _ (fold_Q K K.L.length ▸ hm))
    ·cases ha
theorem PI.evl {K:KV} (h:PI c n T K):(tickE K).length≤T+1:=by
 unfold Co.tickE
 rw [List.length_append]
 have h1:(foldK K K.L.length).2.length≤K.L.length:=by
  have:=Co.fold_ev (K.L.take K.L.length) (tkK1 K,[])
  rw [List.length_take,Nat.min_self] at this
  unfold Co.foldK
  exact Nat.le_trans this (by simp)
 have h2:(grantE (foldK K K.L.length).1).length≤1:=by unfold Co.grantE; split <;> simp
 have:=h.k.ll
 omega
theorem PI.kt {K:KV} (h:PI c n T K) (hn:n≤10000) (hT:T≤10000):KT K:=h.k.kt hn (by omega) hT
theorem JI.tk (h:JI c n T x) (hT:T < 10000):JI c n (T+1) (tickK x.1,x.2):=by
 have hp:=h.p.tick (by omega)
 exact ⟨hp,CI.tick h.p (by omega) h.ci,⟨KI.qlen hp.k,by have:=hp.k.ll; show (tickK x.1).L.length≤10000; omega,h.t.s,(h.t.more (by omega)).t⟩⟩
theorem PJ.tickS {x:Ko} (hp:PI c n T x.1.1) (hc:CI [] x.1.1) (hT:T≤1000000) (i:Int):PI c n T (tickS x i).1.1∧CI [] (tickS x i).1.1:=by
 unfold Gw.tickS
 cases x.1.2 i with
 | none=>exact ⟨hp,hc⟩
 | some v =>
  simp only []
  split
  ·exact ⟨PI.go hp hT i,hc.gone hp i⟩
  ·exact ⟨hp,hc⟩
theorem PJ.tickL (hT:T≤1000000):∀ (ks:List Int) {x:Ko},PI c n T x.1.1→CI [] x.1.1→PI c n T (tickL x ks).1.1∧CI [] (tickL x ks).1.1
 | [],x,hp,hc=>⟨hp,hc⟩
 | k::r,x,hp,hc=>by
  obtain ⟨h1,h2⟩:=PJ.tickS hp hc hT k
  exact PJ.tickL hT r h1 h2
theorem JI.tick (h:JI c n T x) (hT:T < 10000):JI c n (T+1) (tickG x).1:=by
 have h1:=h.tk hT
 have h2:=JI.tell h1 (by omega) (tickE x.1)
 have h3:=PJ.tickL (by omega) (keysL (tellF (tickK x.1,x.2) (tickE x.1)).2) (x:=(tellF (tickK x.1,x.2) (tickE x.1),[])) h2.p h2.ci
 have h0:TI (64*T:Nat) (tickK x.1,x.2):=⟨h1.t.q,h1.t.l,h.t.s,h.t.t⟩
 have h4:=TI.tickL (keysL (tellF (tickK x.1,x.2) (tickE x.1)).2) (x:=(tellF (tickK x.1,x.2) (tickE x.1),[])) (h0.tell (tickE x.1))
 have h5:=keys_len (tellF (tickK x.1,x.2) (tickE x.1)).2
 exact ⟨h3.1,h3.2,h4.more (by omega)⟩
end
end Gw
namespace Gw
open Go.RowKit Ba Mem En Go.Proofs.YtepfmfalebmcnaaGreatDoor.Ty Mp
open Ri (MsgV)
open Co (KV Pt KW Nr NrA toN Hold.ob)
open Gr (doR)
open Lc (hallW pressW loadW2 curtW faultW)
open Et (carsO)
set_option maxRecDepth 100000
attribute [local irreducible] Go.Calls
section
variable {lo gq M:Nat} {c:CfgV} {x:Gp} {ep sk sa sb i:Int} {K:KV} {Sk:List Nat} {D:Fam} {w:World} {dA:Option Addr} {dn dc:Nat}
theorem hallT (hb:Blk w gq 96 (gwA c x ep)) (h:KG lo x.q x.p x.mb M K Sk D w) (hg:gq∉kgF x.mb Sk D) (hw:K.G.waits.length≤10000):Calls Tryz.prog 73 #[.pointer (some ⟨gq,0,none⟩),.agg #[.int .i64 sk,.int .i64 sa,.int .i64 sb,.slice dA dn dc]] w fun e w'=>∃ S',e=.returned (.tuple #[.slice none 0 0,.int .i64 (Gr.hallR K.G sa sb).2])∧KG lo x.q x.p x.mb M { K with G:=(doR K.G 1 sa sb (sb == 1)).1 } S' D w'∧Upd (kgF x.mb Sk D) w w'∧∀ g∈kgF x.mb S' D,g∈kgF x.mb Sk D∨w.heap.size≤g:=by
 refine entH tab_ok (hold_g hb h hg) [.p 0 0,.a [.i .i64 sk,.i .i64 sa,.i .i64 sb,.v (.slice dA dn dc)]] Tryz.func73 Tryz.ntmps73 rfl rfl ?_
 repeat' (first | refine gs_ ?_|((conv=>whnf); first | intro b | refine And.intro ?_ ?_|refine callH (f:=58) (.v (.pointer (some ⟨x.p.g,0,none⟩))) (fun w hH=>groupT (hH.row 0 _ rfl rfl) (Hold.ob hH (A:=kgO lo x.q x.p x.mb M K Sk D true) 0 rfl) hg) ?_|refine callO (f:=102) (A:=kgO lo x.q x.p x.mb M K Sk D true) 0 (fun _:List Nat=>.i .i64 (Gr.hallR K.G sa sb).2) (fun S'=>kgO lo x.q x.p x.mb M { K with G:=(doR K.G 1 sa sb (sb == 1)).1 } S' D true) (fun w hH hA=>KG.core hA (fun hk=>hallW hk hw sa sb)) (fun S'=>?_)|refine fin fun w' hH=>⟨S',rfl,Hold.ob hH (A:=kgO lo x.q x.p x.mb M { K with G:=(doR K.G 1 sa sb (sb == 1)).1 } S' D true) 0 rfl,hH.upd,fun g hg=>hH.own _ (List.mem_of_getElem? (i:=0) rfl) rfl g hg⟩|refine fin_s ?_))
theorem pressT (hb:Blk w gq 96 (gwA c x ep)) (h:KG lo x.q x.p x.mb M K Sk D w) (hg:gq∉kgF x.mb Sk D):Calls Tryz.prog 74 #[.pointer (some ⟨gq,0,none⟩),.agg #[.int .i64 sk,.int .i64 sa,.int .i64 sb,.slice dA dn dc]] w fun e w'=>∃ S',e=.returned (.tuple #[.slice none 0 0,.int .i64 (Gr.pressR K.G sa sb).2])∧KG lo x.q x.p x.mb M { K with G:=(doR K.G 2 sa sb (sb == 1)).1 } S' D w'∧Upd (kgF x.mb Sk D) w w'∧∀ g∈kgF x.mb S' D,g∈kgF x.mb Sk D∨w.heap.size≤g:=by
 refine entH tab_ok (hold_g hb h hg) [.p 0 0,.a [.i .i64 sk,.i .i64 sa,.i .i64 sb,.v (.slice dA dn dc)]] Tryz.func74 Tryz.ntmps74 rfl rfl ?_
 repeat' (first | refine gs_ ?_|((conv=>whnf); first | intro b | refine And.intro ?_ ?_|refine callH (f:=58) (.v (.pointer (some ⟨x.p.g,0,none⟩))) (fun w hH=>groupT (hH.row 0 _ rfl rfl) (Hold.ob hH (A:=kgO lo x.q x.p x.mb M K Sk D true) 0 rfl) hg) ?_|refine callO (f:=103) (A:=kgO lo x.q x.p x.mb M K Sk D true) 0 (fun _:List Nat=>.i .i64 (Gr.pressR K.G sa sb).2) (fun S'=>kgO lo x.q x.p x.mb M { K with G:=(doR K.G 2 sa sb (sb == 1)).1 } S' D true) (fun w hH hA=>KG.core hA (fun hk=>pressW hk sa sb)) (fun S'=>?_)|refine fin fun w' hH=>⟨S',rfl,Hold.ob hH (A:=kgO lo x.q x.p x.mb M { K with G:=(doR K.G 2 sa sb (sb == 1)).1 } S' D true) 0 rfl,hH.upd,fun g hg=>hH.own _ (List.mem_of_getElem? (i:=0) rfl) rfl g hg⟩|refine fin_s ?_))
theorem loadT (hb:Blk w gq 96 (gwA c x ep)) (h:KG lo x.q x.p x.mb M K Sk D w) (hg:gq∉kgF x.mb Sk D):Calls Tryz.prog 75 #[.pointer (some ⟨gq,0,none⟩),.agg #[.int .i64 sk,.int .i64 sa,.int .i64 sb,.slice dA dn dc]] w fun e w'=>∃ S',e=.returned (.tuple #[.slice none 0 0,.int .i64 (Gr.loadR K.G sa sb).2])∧KG lo x.q x.p x.mb M { K with G:=(doR K.G 3 sa sb (sb == 1)).1 } S' D w'∧Upd (kgF x.mb Sk D) w w'∧∀ g∈kgF x.mb S' D,g∈kgF x.mb Sk D∨w.heap.size≤g:=by
 refine entH tab_ok (hold_g hb h hg) [.p 0 0,.a [.i .i64 sk,.i .i64 sa,.i .i64 sb,.v (.slice dA dn dc)]] Tryz.func75 Tryz.ntmps75 rfl rfl ?_
 repeat' (first | refine gs_ ?_|((conv=>whnf); first | intro b | refine And.intro ?_ ?_|refine callH (f:=58) (.v (.pointer (some ⟨x.p.g,0,none⟩))) (fun w hH=>groupT (hH.row 0 _ rfl rfl) (Hold.ob hH (A:=kgO lo x.q x.p x.mb M K Sk D true) 0 rfl) hg) ?_|refine callO (f:=104) (A:=kgO lo x.q x.p x.mb M K Sk D true) 0 (fun _:List Nat=>.i .i64 (Gr.loadR K.G sa sb).2) (fun S'=>kgO lo x.q x.p x.mb M { K with G:=(doR K.G 3 sa sb (sb == 1)).1 } S' D true) (fun w hH hA=>KG.core hA (fun hk=>loadW2 hk sa sb)) (fun S'=>?_)|refine fin fun w' hH=>⟨S',rfl,Hold.ob hH (A:=kgO lo x.q x.p x.mb M { K with G:=(doR K.G 3 sa sb (sb == 1)).1 } S' D true) 0 rfl,hH.upd,fun g hg=>hH.own _ (List.mem_of_getElem? (i:=0) rfl) rfl g hg⟩|refine fin_s ?_))
theorem curtainT (hb:Blk w gq 96 (gwA c x ep)) (h:KG lo x.q x.p x.mb M K Sk D w) (hg:gq∉kgF x.mb Sk D):Calls Tryz.prog 76 #[.pointer (some ⟨gq,0,none⟩),.agg #[.int .i64 sk,.int .i64 sa,.int .i64 sb,.slice dA dn dc]] w fun e w'=>∃ S',e=.returned (.tuple #[.slice none 0 0,.int .i64 (Gr.curtR K.G sa (sb == 1)).2])∧KG lo x.q x.p x.mb M { K with G:=(doR K.G 4 sa sb (sb == 1)).1 } S' D w'∧Upd (kgF x.mb Sk D) w w'∧∀ g∈kgF x.mb S' D,g∈kgF x.mb Sk D∨w.heap.size≤g:=by
 refine entH tab_ok (hold_g hb h hg) [.p 0 0,.a [.i .i64 sk,.i .i64 sa,.i .i64 sb,.v (.slice dA dn dc)]] Tryz.func76 Tryz.ntmps76 rfl rfl ?_
 repeat' (first | refine gs_ ?_|((conv=>whnf); first | intro b | refine And.intro ?_ ?_|refine callH (f:=58) (.v (.pointer (some ⟨x.p.g,0,none⟩))) (fun w hH=>groupT (hH.row 0 _ rfl rfl) (Hold.ob hH (A:=kgO lo x.q x.p x.mb M K Sk D true) 0 rfl) hg) ?_|refine callO (f:=105) (A:=kgO lo x.q x.p x.mb M K Sk D true) 0 (fun _:List Nat=>.i .i64 (Gr.curtR K.G sa (sb == 1)).2) (fun S'=>kgO lo x.q x.p x.mb M { K with G:=(doR K.G 4 sa sb (sb == 1)).1 } S' D true) (fun w hH hA=>KG.core hA (fun hk=>curtW hk sa sb)) (fun S'=>?_)|refine fin fun w' hH=>⟨S',rfl,Hold.ob hH (A:=kgO lo x.q x.p x.mb M { K with G:=(doR K.G 4 sa sb (sb == 1)).1 } S' D true) 0 rfl,hH.upd,fun g hg=>hH.own _ (List.mem_of_getElem? (i:=0) rfl) rfl g hg⟩|refine fin_s ?_))
theorem faultT (hb:Blk w gq 96 (gwA c x ep)) (h:KG lo x.q x.p x.mb M K Sk D w) (hg:gq∉kgF x.mb Sk D) (hw:K.G.waits.length≤10000):Calls Tryz.prog 77 #[.pointer (some ⟨gq,0,none⟩),.agg #[.int .i64 sk,.int .i64 sa,.int .i64 sb,.slice dA dn dc]] w fun e w'=>∃ S',e=.returned (.tuple #[.slice none 0 0,.int .i64 (Gr.faultR K.G sa (sb == 1)).2])∧KG lo x.q x.p x.mb M { K with G:=(doR K.G 5 sa sb (sb == 1)).1 } S' D w'∧Upd (kgF x.mb Sk D) w w'∧∀ g∈kgF x.mb S' D,g∈kgF x.mb Sk D∨w.heap.size≤g:=by
 refine entH tab_ok (hold_g hb h hg) [.p 0 0,.a [.i .i64 sk,.i .i64 sa,.i .i64 sb,.v (.slice dA dn dc)]] Tryz.func77 Tryz.ntmps77 rfl rfl ?_
 repeat' (first | refine gs_ ?_|((conv=>whnf); first | intro b | refine And.intro ?_ ?_|refine callH (f:=58) (.v (.pointer (some ⟨x.p.g,0,none⟩))) (fun w hH=>groupT (hH.row 0 _ rfl rfl) (Hold.ob hH (A:=kgO lo x.q x.p x.mb M K Sk D true) 0 rfl) hg) ?_|refine callO (f:=106) (A:=kgO lo x.q x.p x.mb M K Sk D true) 0 (fun _:List Nat=>.i .i64 (Gr.faultR K.G sa (sb == 1)).2) (fun S'=>kgO lo x.q x.p x.mb M { K with G:=(doR K.G 5 sa sb (sb == 1)).1 } S' D true) (fun w hH hA=>KG.core hA (fun hk=>faultW hk (by omega) sa sb)) (fun S'=>?_)|refine fin fun w' hH=>⟨S',rfl,Hold.ob hH (A:=kgO lo x.q x.p x.mb M { K with G:=(doR K.G 5 sa sb (sb == 1)).1 } S' D true) 0 rfl,hH.upd,fun g hg=>hH.own _ (List.mem_of_getElem? (i:=0) rfl) rfl g hg⟩|refine fin_s ?_))
end
end Gw
namespace Gw
open Go.RowKit Ba Mem En Go.Proofs.YtepfmfalebmcnaaGreatDoor.Ty Mp
open Co (KV Pt KW Nr NgA toNCg Hold.ob)
open Et (carsO)
set_option maxRecDepth 100000
structure ViewV where
 un:Int
 ds:Int
 mo:Int
 wy:Int
 lo:Int
def viewC (v:ViewV):List Value:=[.int .i64 v.un,.int .i64 v.ds,.int .i64 v.mo,.int .i64 v.wy,.int .i64 v.lo]
def viewE:Ek ViewV:=⟨62,5,viewC,fun _=>rfl,fun a u hu=>by
 simp only [viewC,List.mem_cons,List.mem_nil_iff,or_false] at hu
 rcases hu with rfl | rfl | rfl | rfl | rfl <;> rfl⟩
def viewOf (x:CarV):ViewV:=⟨x.un,x.ds,if x.br=true then 2 else x.mo,x.wy,x.lo⟩
def epochV (V:Int→Option SeV) (i:Int):Int:=match V i with | none=>0 | some v=>v.k.ep
attribute [local irreducible] Go.Calls
section
variable {lo gq M:Nat} {c:CfgV} {x:Gp} {ep i:Int} {K:KV} {Sk:List Nat} {D:Fam} {w:World}
theorem epochT (hb:Blk w gq 96 (gwA c x ep)) (h:KG lo x.q x.p x.mb M K Sk D w) (hg:gq∉kgF x.mb Sk D) (hi:(Lit.int .i64 i).wf=true):Calls Tryz.prog 23 #[.pointer (some ⟨gq,0,none⟩),.int .i64 i] w fun e w'=>e=.returned (.int .i64 (epochV (vals D) i))∧Since w w':=by
 unfold epochV
 cases hd:D i with
 | none =>
  have hp:ptrs D i=none:=by unfold ptrs; rw [hd]; rfl
  have hv:vals D i=none:=by unfold vals; rw [hd]; rfl
  rw [hv]
  refine entH tab_ok (hold_gr hb h hg) [.p 0 0,.i .i64 i] Tryz.func23 Tryz.ntmps23 rfl rfl ?_
  repeat' (first | refine gs_ ?_|((conv=>whnf); first | intro b | refine oplk (b:=x.mb) (n:=M) (m:=ptrs D) (k:=3) (e:=100) 0 (.pointer none) (.v (.pointer none)) (by rfl) (by rfl) (by rfl) (by rfl) (fun w h=>kg_mp h) (by kernel_rfl) (by kernel_rfl) (fun w=>rfl) hi (by rw [hp]; rfl) ?_|refine fin_s ?_))
  all_goals rfl
 | some d =>
  have hp:ptrs D i=some (.pointer (some ⟨d.b,0,none⟩)):=by unfold ptrs; rw [hd]; rfl
  have hv:vals D i=some d.v:=by unfold vals; rw [hd]; rfl
  rw [hv]
  refine entH tab_ok (hold_gr hb h hg) [.p 0 0,.i .i64 i] Tryz.func23 Tryz.ntmps23 rfl rfl ?_
  repeat' (first | refine gs_ ?_|((conv=>whnf); first | intro b | refine oplk (b:=x.mb) (n:=M) (m:=ptrs D) (k:=3) (e:=100) 0 (.pointer none) (.v (.pointer (some ⟨d.b,0,none⟩))) (by rfl) (by rfl) (by rfl) (by rfl) (fun w h=>kg_mp h) (by kernel_rfl) (by kernel_rfl) (fun w=>rfl) hi (by rw [hp]; rfl) ?_|refine opnv (by rfl) (by rfl) ?_|refine punv (by rfl) (by rfl) ?_|refine fv_ ?_|refine uf_ ?_|refine opxc (g:=d.b) (off:=0+0) (.v (.pointer (some ⟨d.q,0,none⟩))) (fun w hH=>(Hold.ob hH (A:=kgO lo x.q x.p x.mb M K Sk D false) 0 rfl).f.cell hd) ⟨tab_ok⟩ (by rfl) (by rfl) (by show Addr.add ⟨d.b,0,none⟩ 0=_; rw [Go.WideShapes.add_plain]) ?_|refine callH (f:=52) (.i .i64 d.v.k.ep) (fun w hH=>by obtain ⟨A1,c1,B1⟩:=(Hold.ob hH (A:=kgO lo x.q x.p x.mb M K Sk D false) 0 rfl).f.look hd; exact Ln.epochT B1) ?_|refine fin_s ?_))
  all_goals rfl
set_option maxHeartbeats 2000000 in
theorem viewsT (hb:Blk w gq 96 (gwA c x ep)) (h:KG lo x.q x.p x.mb M K Sk D w) (hg:gq∉kgF x.mb Sk D) (h0:0 < K.G.cars.length) (h1:K.G.cars.length≤10000):Calls Tryz.prog 32 #[.pointer (some ⟨gq,0,none⟩)] w fun e w'=>∃ A' c',e=.returned (.slice A' K.G.cars.length c')∧viewE.At w.heap.size A' K.G.cars.length c' (K.G.cars.map viewOf) w'∧Since w w':=by
 refine entH tab_ok (Hold.addObj (hold_gr hb h hg) (rwO viewE w.heap.size none 0 0 [] true) (Ek.nil _ _ _) (by intro _ g hg; cases hg) (by intro r _ _ hg; cases hg) (by intro A hA _ g hg hg2; cases hg2)) [.p 0 0] Tryz.func32 Tryz.ntmps32 rfl rfl ?_
 repeat' (first | refine gs_ ?_|((conv=>whnf); first | intro b | refine b3_ (fun h=>?_) (fun h=>?_)|refine callH (f:=58) (.v (.pointer (some ⟨x.p.g,0,none⟩))) (fun w hH=>groupT (hH.row 0 _ rfl rfl) (Hold.ob hH (A:=kgO lo x.q x.p x.mb M K Sk D false) 0 rfl) hg) ?_|refine callN (f:=59) (ι:=NgA w.heap.size) (fun y=>.v (.slice (some ⟨y.1.2.1,0,none⟩) K.G.cars.length y.1.2.2)) (fun y=>carsO y.1.1 (some ⟨y.1.2.1,0,none⟩) K.G.cars.length y.1.2.2 K.G.cars true) (fun w1 hH=>toNCg h0 (by obtain ⟨S0,_,hbd⟩:=(Hold.ob hH (A:=kgO lo x.q x.p x.mb M K Sk D false) 0 rfl).k.rd; exact hbd.cars h1) hH.upd.size) (fun y=>?_)|refine fin_s ?_))
 conv=>whnf
 refine lp ⟨tab_ok⟩ (ι:={v:(Nat×Option Addr×Nat)×List ViewV // v.1.1≤K.G.cars.length∧(K.G.cars.take v.1.1).map viewOf=v.2}) (fun v=>match v with | ⟨((k,A2,c2),vs),_⟩=>⟨[(3,.v (.slice A2 k c2)),(11,.v (.slice (some ⟨y.1.2.1,0,none⟩) K.G.cars.length y.1.2.2)),(12,.i .i64 K.G.cars.length),(13,.i .i64 (k:Int))],[⟨gq,96,true,0,[],gwS c x ep,[],false⟩],[kgO lo x.q x.p x.mb M K Sk D false,rwO viewE w.heap.size A2 k c2 vs true,carsO y.1.1 (some ⟨y.1.2.1,0,none⟩) K.G.cars.length y.1.2.2 K.G.cars true]⟩) (fun v=>K.G.cars.length - v.1.1.1) ⟨((0,none,0),[]),Nat.zero_le _,rfl⟩ (wk ?_) ?_
 ·repeat' (first | exact trivial | rfl | ((conv=>whnf); refine And.intro ?_ ?_))
 rintro ⟨⟨⟨k,A2,c2⟩,vs⟩,hk,he⟩
 have hk:k≤K.G.cars.length:=hk
 have he:(K.G.cars.take k).map viewOf=vs:=he
 by_cases hlt:k < K.G.cars.length
 ·obtain ⟨z,hz⟩:∃ z,K.G.cars[k]?=some z:=⟨_,List.getElem?_eq_getElem hlt⟩
  have he2:(K.G.cars.take (k+1)).map viewOf=vs++[viewOf z]:=by
   obtain ⟨hkl,rfl⟩:=List.getElem?_eq_some_iff.1 hz
   rw [List.take_succ_eq_append_getElem hkl,List.map_append,← he]; rfl
  cases hbr:z.br with
  | true =>
   have hvw:viewOf z=⟨z.un,z.ds,2,z.wy,z.lo⟩:=by unfold viewOf; rw [hbr]; rfl
   rw [hvw] at he2
   repeat' (first | refine gs_ ?_|((conv=>whnf); first | intro b | refine bto ?_|refine bfo ?_|refine wr_i ?_|refine br_t (by exact hbr) ?_|refine iv_ ?_|refine opix (g:=y.1.2.1) (off:=0+k*15) (sCar z) (fun w hH=>Et.car_at (Hold.ob hH (A:=carsO y.1.1 (some ⟨y.1.2.1,0,none⟩) K.G.cars.length y.1.2.2 K.G.cars true) 2 rfl) hz) ⟨tab_ok⟩ (by rfl) (by rfl) (by show Addr.add ⟨y.1.2.1,0,none⟩ (k*15)=_; rw [Go.WideShapes.add_plain]) ?_|refine opb1 (e:=62) ⟨tab_ok⟩ [.i .i64 z.un,.i .i64 z.ds,.i .i64 2,.i .i64 z.wy,.i .i64 z.lo] (by rfl) (by rfl) ?_|refine opap 1 3 (e:=62) (lo:=w.heap.size) (size:=5) (bytes:=40) (z:=.agg #[.int .i64 0,.int .i64 0,.int .i64 0,.int .i64 0,.int .i64 0]) (A:=rwO viewE w.heap.size A2 k c2 vs true) (vals:=rowsOf viewC vs) (cells:=viewC ⟨z.un,z.ds,2,z.wy,z.lo⟩) (zs:=rowsOf viewC (vs++[(⟨z.un,z.ds,2,z.wy,z.lo⟩:ViewV)])) (n2:=k+1) (fun A' c'=>rwO viewE w.heap.size A' (k+1) c' (vs++[(⟨z.un,z.ds,2,z.wy,z.lo⟩:ViewV)]) true) (by rfl) (by rfl) (by rfl) (by rfl) rfl rfl (fun w h=>h) (fun A' c' w h=>h) (fun _ _=>rfl) (by rfl) (by rfl) (by rfl) (by rfl) Tryz.underlying58 (by kernel_rfl) rfl (by decide) (by decide) (viewE.one _) (by omega) (fun w hH=>hH.upd.size) rfl (by rw [rowsOf_append,rowsOf_one]) (fun A' c'=>?_)|refine En.back ⟨((k+1,A',c'),vs++[(⟨z.un,z.ds,2,z.wy,z.lo⟩:ViewV)]),by show k+1≤_; omega,he2⟩ (wk ?_) ?_|refine fin_s ?_))
   all_goals first | (show K.G.cars.length - (k+1) < K.G.cars.length - k; omega)|skip
   all_goals (repeat' (first | exact trivial | rfl | ((conv=>whnf); refine And.intro ?_ ?_)))
  | false =>
   have hvw:viewOf z=⟨z.un,z.ds,z.mo,z.wy,z.lo⟩:=by unfold viewOf; rw [hbr]; rfl
   rw [hvw] at he2
   repeat' (first | refine gs_ ?_|((conv=>whnf); first | intro b | refine bto ?_|refine bfo ?_|refine wr_i ?_|refine br_f (by exact hbr) ?_|refine iv_ ?_|refine opix (g:=y.1.2.1) (off:=0+k*15) (sCar z) (fun w hH=>Et.car_at (Hold.ob hH (A:=carsO y.1.1 (some ⟨y.1.2.1,0,none⟩) K.G.cars.length y.1.2.2 K.G.cars true) 2 rfl) hz) ⟨tab_ok⟩ (by rfl) (by rfl) (by show Addr.add ⟨y.1.2.1,0,none⟩ (k*15)=_; rw [Go.WideShapes.add_plain]) ?_|refine opb1 (e:=62) ⟨tab_ok⟩ [.i .i64 z.un,.i .i64 z.ds,.i .i64 z.mo,.i .i64 z.wy,.i .i64 z.lo] (by rfl) (by rfl) ?_|refine opap 1 3 (e:=62) (lo:=w.heap.size) (size:=5) (bytes:=40) (z:=.agg #[.int .i64 0,.int .i64 0,.int .i64 0,.int .i64 0,.int .i64 0]) (A:=rwO viewE w.heap.size A2 k c2 vs true) (vals:=rowsOf viewC vs) (cells:=viewC ⟨z.un,z.ds,z.mo,z.wy,z.lo⟩) (zs:=rowsOf viewC (vs++[(⟨z.un,z.ds,z.mo,z.wy,z.lo⟩:ViewV)])) (n2:=k+1) (fun A' c'=>rwO viewE w.heap.size A' (k+1) c' (vs++[(⟨z.un,z.ds,z.mo,z.wy,z.lo⟩:ViewV)]) true) (by rfl) (by rfl) (by rfl) (by rfl) rfl rfl (fun w h=>h) (fun A' c' w h=>h) (fun _ _=>rfl) (by rfl) (by rfl) (by rfl) (by rfl) Tryz.underlying58 (by kernel_rfl) rfl (by decide) (by decide) (viewE.one _) (by omega) (fun w hH=>hH.upd.size) rfl (by rw [rowsOf_append,rowsOf_one]) (fun A' c'=>?_)|refine En.back ⟨((k+1,A',c'),vs++[(⟨z.un,z.ds,z.mo,z.wy,z.lo⟩:ViewV)]),by show k+1≤_; omega,he2⟩ (wk ?_) ?_|refine fin_s ?_))
   all_goals first | (show K.G.cars.length - (k+1) < K.G.cars.length - k; omega)|skip
   all_goals (repeat' (first | exact trivial | rfl | ((conv=>whnf); refine And.intro ?_ ?_)))
 ·obtain rfl:k=K.G.cars.length:=by omega
  repeat' (first | refine gs_ ?_|((conv=>whnf); first | intro b | refine bto ?_|refine bfo ?_|refine wr_i ?_|refine fin fun w' hH=>?_|refine fin_s ?_))
  rw [List.take_length] at he
  rw [he]
  exact ⟨A2,c2,rfl,Hold.ob hH (A:=rwO viewE w.heap.size A2 K.G.cars.length c2 vs true) 1 rfl,hH.upd.since⟩
end
end Gw
namespace En
open Go.RowKit Ba Mem Mp
theorem wp_mapins {P:Program} {k e:TypeId} {w:World} {b n:Nat} {m:Int→Option Value} {o:Oper} {a:Act} {K:Act→World→Prop} {Q:Exit→Act→World→Prop} (mm x v:Operand) (ty:TypeId) (ho:o.op=.insert ty mm x v) (hk:P.underlying k=some (.int .i64)) (ht:P.underlying ty=some (.map k e)) (h:MapF P k w b n m) (hn:n < 1000000) (hm:a.eval mm=.map (some b)) {i:Int} (hx:a.eval x=.int .i64 i) (hw:(Lit.int .i64 i).wf=true) {u:Value} (hv:a.eval v=u)
  (hK:∀ w',MapF P k w' b (n+1) (Mp.setK m i (some u))→Upd [b] w w'→K (a.put o.dst undef) w'):o.wp P a w K Q:=by
 obtain ⟨D,h1,h2,h3⟩:=h
 obtain ⟨w',hrun,r1,r2⟩:=h1.update (Go.Maps.int_keyed hk) ht (by unfold maxLen; omega) (Go.Maps.keyOf_int_mk hk hw) (val:=u) (d:=.held u) (ps:=[]) rfl
 unfold Oper.wp
 simp [execOp,ho,hm,hx,hv,hrun,Result.andThen]
 refine hK w' ⟨D.put (.int .i64 i) (.held u),r1,h2.put _ _,fun y hy z=>?_⟩ (grown_upd r2)
 unfold Mp.setK
 by_cases e:y=i
 ·subst e; rw [if_pos rfl,Go.Maps.atKey_put_same h2 (key_lit y)]
 ·rw [if_neg e,Go.Maps.atKey_put_other (ne_lit e),h3 y hy z]
section
variable {X:Cx} {s:St} {o:Oper} {K:St→Prop} {A:Asr} {ty k e:TypeId} {mm x y:Operand} {b n:Nat} {m:Int→Option Value} {I:Int}
theorem opin (i:Nat) {u:Value} (B:Asr) (ho:o.op=.insert ty mm x y) (hm:evO mm s.fr=some (.v (.map (some b)))) (hx:evO x s.fr=some (.i .i64 I)) (hy:∀ a:Act,a.eval y=u) (hA:s.ob[i]?=some A) (hrw:A.rw=true) (hM:∀ w,A.st w→MapF X.P k w b n m) (hbF:b∈A.F)
  (hB:∀ w w',Hold X s.m s.ob w→A.st w→MapF X.P k w' b (n+1) (Mp.setK m I (some u))→Upd [b] w w'→B.st w') (hF:∀ g∈B.F,g∈A.F)
  (hk:X.P.underlying k=some (.int .i64)) (ht:X.P.underlying ty=some (.map k e)) (hw:(Lit.int .i64 I).wf=true) (hn:n < 1000000) (h:setO i B s.ob fun ob=>put X.n o.dst (.v undef) ⟨s.fr,s.m,ob⟩ K):OpVC X o s K:=⟨fun a w Q hR=>by
 have hst:=hR.h.obj A (List.mem_of_getElem? hA)
 refine wp_mapins mm x y ty ho hk ht (hM w hst) hn (by rw [(evO_of hR.fr hm).2]; rfl) (by rw [(evO_of hR.fr hx).2]; rfl) hw (u:=u) (hy a) (fun w' hmap hupd=>?_)
 have hH:=hR.h.obj_set hA hrw (hB w w' hR.h hst hmap hupd) (hupd.mono (fun g hg _=>by rw [List.mem_singleton] at hg; subst hg; exact hbF)) (fun g hg=>.inl (hF g hg))
 obtain ⟨s',r1,r2,r3,r4⟩:=put_of (a:=a) (s:=⟨s.fr,s.m,s.ob.set i B⟩) (v:=.v undef) hR.ds hR.sz hR.fr hH rfl (setO_of h)
 exact ⟨s',r1,by rw [r2]; exact Ext.refl _,r4⟩⟩
end
end En
namespace Gw
open Go.RowKit Ba Mem En Go.Proofs.YtepfmfalebmcnaaGreatDoor.Ty Mp
open Co (KV Pt KW newK newW kO BD Hold.ob)
open Fq (SO)
set_option maxRecDepth 100000
def mtab (l:List (Int×Nat)):Int→Option Value:=l.foldl (fun m p=>Mp.setK m p.1 (some (.func (.func p.2) #[] #[]))) (fun _=>none)
def kindL:List (Int×Nat):=[(1,71),(2,72),(3,73),(4,74),(5,75),(6,76),(7,77),(8,78)]
attribute [local irreducible] Go.Calls
theorem kw_base {lo q:Nat} {p:Pt} {K:KV} {S:List Nat} {w:World} (h:KW lo q p K S w):KW 0 q p K S w:=by
 obtain ⟨_,S0,rfl,B,D⟩:=h
 exact ⟨Nat.zero_le _,S0,rfl,B,BD.base D (Nat.zero_le _)⟩
theorem newFin {c:CfgV} {w w':World} {nt bs gq q mb i j:Nat} {p:Pt} {Sk:List Nat} {m:List Row} {ob:List Asr} (hH:Hold ⟨Tryz.prog,tab,[],w,nt,[]⟩ m ob w') (h1:m[1]?=some ⟨bs,93,true,0,[],[.v (.slice none 0 0),.i .i64 0],[],true⟩) {cs2:List SV} (h2:m[2]?=some ⟨gq,96,true,0,[],cs2,[],true⟩) (hc:(denL m cs2).toArray=gwA c ⟨q,p,bs,mb⟩ 0) (hi:ob[i]?=some (kO 0 q p (newK c) Sk true)) (hj:ob[j]?=some (mpO Tryz.prog 3 mb 0 (fun _=>none) true)) (hij:i≠j) :
  ∃ (gq':Nat) (x:Gp) (Sk:List Nat),Ending.returned (.pointer (some ⟨gq,0,none⟩))=Ending.returned (.pointer (some ⟨gq',0,none⟩))∧Blk w' gq' 96 (gwA c x 0)∧KG 0 x.q x.p x.mb 0 (newK c) Sk (fun _=>none) w'∧SO 0 x.s 0 [] [x.s] w'∧Since w w'∧(∀ g∈gq'::(kgF x.mb Sk (fun _=>none)++[x.s]),w.heap.size≤g)∧gq'∉kgF x.mb Sk (fun _=>none)∧gq'∉[x.s]∧∀ g∈kgF x.mb Sk (fun _=>none),g∉[x.s]:=by
 have mi:=List.mem_of_getElem? hi
 have mj:=List.mem_of_getElem? hj
 have r1:=hH.row 1 _ h1 rfl
 rw [rowA_nil rfl rfl] at r1
 have r2:=hH.row 2 _ h2 rfl
 rw [rowA_nil rfl rfl,hc] at r2
 have f1:bs∈([]:List Nat)∨w.heap.size≤bs:=(hH.wf 1 _ h1 rfl).2.2 rfl
 have f2:gq∈([]:List Nat)∨w.heap.size≤gq:=(hH.wf 2 _ h2 rfl).2.2 rfl
 have hne:gq≠bs:=hH.ne 2 1 _ _ h2 h1 rfl rfl (by decide)
 have fam0:famS (fun _=>none)=[]:=by unfold famS; simp
 have hF:kgF mb Sk (fun _=>none)=Sk++[mb]:=by unfold kgF; rw [fam0]
 have dis:DisR (kO 0 q p (newK c) Sk true) (mpO Tryz.prog 3 mb 0 (fun _=>none) true):=pair_at (R:=DisR) (fun _ _ h=>h.symm) hH.dis hi hj hij
 have kF:∀ g∈Sk,g∉mb::famS (fun _=>none):=fun g hg=>by rw [fam0]; exact dis (.inl rfl) g hg
 have low:∀ g∈Sk,w.heap.size≤g:=fun g hg=>(hH.own _ mi rfl g hg).resolve_left (by simp)
 have lowm:w.heap.size≤mb:=(hH.own _ mj rfl mb (List.mem_singleton.2 rfl)).resolve_left (by simp)
 refine ⟨gq,⟨q,p,bs,mb⟩,Sk,rfl,r2,⟨hH.obj _ mi,⟨Nat.zero_le _,hH.obj _ mj,fun i d h=>(by cases h),fun i j d e h=>(by cases h),fun i d h=>(by cases h)⟩,kF⟩,Fq.SO.new r1 (Nat.zero_le _),hH.upd.since,fun g hg=>?_,fun hm=>?_,fun hm=>hne (List.mem_singleton.1 hm),fun g hg hgs=>?_⟩
 ·rcases List.mem_cons.1 hg with rfl | hg
  ·exact f2.resolve_left (by simp)
  ·rw [hF] at hg
   rcases List.mem_append.1 hg with hg | hg
   ·rcases List.mem_append.1 hg with hg | hg
    ·exact low g hg
    ·rw [List.mem_singleton.1 hg]; exact lowm
   ·rw [List.mem_singleton.1 hg]; exact f1.resolve_left (by simp)
 ·rw [hF] at hm
  rcases List.mem_append.1 hm with hm | hm
  ·exact hH.far _ mi 2 _ h2 rfl hm
  ·exact hH.far _ mj 2 _ h2 rfl hm
 ·rw [hF] at hg
  rw [List.mem_singleton.1 hgs] at hg
  rcases List.mem_append.1 hg with hg | hg
  ·exact hH.far _ mi 1 _ h1 rfl hg
  ·exact hH.far _ mj 1 _ h1 rfl hg
theorem newG (c:CfgV) (w:World):Calls Tryz.prog 21 #[(aCfg c)] w fun e w'=>∃ (gq:Nat) (x:Gp) (Sk:List Nat),e=.returned (.pointer (some ⟨gq,0,none⟩))∧Blk w' gq 96 (gwA c x 0)∧KG 0 x.q x.p x.mb 0 (newK c) Sk (fun _=>none) w'∧SO 0 x.s 0 [] [x.s] w'∧Since w w'∧(∀ g∈gq::(kgF x.mb Sk (fun _=>none)++[x.s]),w.heap.size≤g)∧gq∉kgF x.mb Sk (fun _=>none)∧gq∉[x.s]∧∀ g∈kgF x.mb Sk (fun _=>none),g∉[x.s]:=by
 refine ent tab_ok [.a (sCfg c)] Tryz.func21 Tryz.ntmps21 rfl rfl ?_
 repeat' (first | refine gs_ ?_|((conv=>whnf); first | intro b | refine And.intro ?_ ?_|refine callN (f:=50) (ι:=Nat×Pt×List Nat) (fun y=>.v (.pointer (some ⟨y.1,0,none⟩))) (fun y=>kO 0 y.1 y.2.1 (newK c) y.2.2 true) (fun w1 hH=>(newW c w1).mono (by rintro e w' ⟨q,p,S,rfl,h1,h2⟩; exact ⟨(q,p,S),rfl,kw_base h1,h2,h1.low⟩)) (fun y=>?_)|refine opmk 3 (by rfl) (fun mb=>?_)|refine fin fun w' hH=>newFin (i:=0) (j:=1) hH rfl rfl rfl rfl rfl (by decide)|refine fin fun w' hH=>newFin (i:=1) (j:=0) hH rfl rfl rfl rfl rfl (by decide)|refine fin_s ?_))
theorem kindsT (w:World):Calls Tryz.prog 53 #[] w fun e w'=>∃ b:Nat,e=.returned (.map (some b))∧MapF Tryz.prog 3 w' b 8 (mtab kindL)∧Since w w'∧w.heap.size≤b:=by
 refine ent tab_ok [] Tryz.func53 Tryz.ntmps53 rfl rfl ?_
 repeat' (first | refine gs_ ?_|((conv=>whnf); first | intro b | refine opmk 3 (by rfl) (fun mb=>?_)|refine opin (b:=mb) (n:=0) (A:=mpO Tryz.prog 3 mb 0 (fun _=>none) true) (m:=mtab (kindL.take 0)) (I:=1) (k:=3) (e:=104) 0 (u:=.func (.func 71) #[] #[]) (mpO Tryz.prog 3 mb 1 (mtab (kindL.take 1)) true) (by rfl) (by rfl) (by rfl) (fun _=>rfl) (by rfl) rfl (fun w h=>h) (List.mem_singleton.2 rfl) (fun w w' _ h hm u=>hm) (fun g hg=>hg) (by kernel_rfl) (by kernel_rfl) (wf_small (by decide)) (by decide) ?_|refine opin (b:=mb) (n:=1) (A:=mpO Tryz.prog 3 mb 1 (mtab (kindL.take 1)) true) (m:=mtab (kindL.take 1)) (I:=2) (k:=3) (e:=104) 0 (u:=.func (.func 72) #[] #[]) (mpO Tryz.prog 3 mb 2 (mtab (kindL.take 2)) true) (by rfl) (by rfl) (by rfl) (fun _=>rfl) (by rfl) rfl (fun w h=>h) (List.mem_singleton.2 rfl) (fun w w' _ h hm u=>hm) (fun g hg=>hg) (by kernel_rfl) (by kernel_rfl) (wf_small (by decide)) (by decide) ?_|refine opin (b:=mb) (n:=2) (A:=mpO Tryz.prog 3 mb 2 (mtab (kindL.take 2)) true) (m:=mtab (kindL.take 2)) (I:=3) (k:=3) (e:=104) 0 (u:=.func (.func 73) #[] #[]) (mpO Tryz.prog 3 mb 3 (mtab (kindL.take 3)) true) (by rfl) (by rfl) (by rfl) (fun _=>rfl) (by rfl) rfl (fun w h=>h) (List.mem_singleton.2 rfl) (fun w w' _ h hm u=>hm) (fun g hg=>hg) (by kernel_rfl) (by kernel_rfl) (wf_small (by decide)) (by decide) ?_|refine opin (b:=mb) (n:=3) (A:=mpO Tryz.prog 3 mb 3 (mtab (kindL.take 3)) true) (m:=mtab (kindL.take 3)) (I:=4) (k:=3) (e:=104) 0 (u:=.func (.func 74) #[] #[]) (mpO Tryz.prog 3 mb 4 (mtab (kindL.take 4)) true) (by rfl) (by rfl) (by rfl) (fun _=>rfl) (by rfl) rfl (fun w h=>h) (List.mem_singleton.2 rfl) (fun w w' _ h hm u=>hm) (fun g hg=>hg) (by kernel_rfl) (by kernel_rfl) (wf_small (by decide)) (by decide) ?_|refine opin (b:=mb) (n:=4) (A:=mpO Tryz.prog 3 mb 4 (mtab (kindL.take 4)) true) (m:=mtab (kindL.take 4)) (I:=5) (k:=3) (e:=104) 0 (u:=.func (.func 75) #[] #[]) (mpO Tryz.prog 3 mb 5 (mtab (kindL.take 5)) true) (by rfl) (by rfl) (by rfl) (fun _=>rfl) (by rfl) rfl (fun w h=>h) (List.mem_singleton.2 rfl) (fun w w' _ h hm u=>hm) (fun g hg=>hg) (by kernel_rfl) (by kernel_rfl) (wf_small (by decide)) (by decide) ?_|refine opin (b:=mb) (n:=5) (A:=mpO Tryz.prog 3 mb 5 (mtab (kindL.take 5)) true) (m:=mtab (kindL.take 5)) (I:=6) (k:=3) (e:=104) 0 (u:=.func (.func 76) #[] #[]) (mpO Tryz.prog 3 mb 6 (mtab (kindL.take 6)) true) (by rfl) (by rfl) (by rfl) (fun _=>rfl) (by rfl) rfl (fun w h=>h) (List.mem_singleton.2 rfl) (fun w w' _ h hm u=>hm) (fun g hg=>hg) (by kernel_rfl) (by kernel_rfl) (wf_small (by decide)) (by decide) ?_|refine opin (b:=mb) (n:=6) (A:=mpO Tryz.prog 3 mb 6 (mtab (kindL.take 6)) true) (m:=mtab (kindL.take 6)) (I:=7) (k:=3) (e:=104) 0 (u:=.func (.func 77) #[] #[]) (mpO Tryz.prog 3 mb 7 (mtab (kindL.take 7)) true) (by rfl) (by rfl) (by rfl) (fun _=>rfl) (by rfl) rfl (fun w h=>h) (List.mem_singleton.2 rfl) (fun w w' _ h hm u=>hm) (fun g hg=>hg) (by kernel_rfl) (by kernel_rfl) (wf_small (by decide)) (by decide) ?_|refine opin (b:=mb) (n:=7) (A:=mpO Tryz.prog 3 mb 7 (mtab (kindL.take 7)) true) (m:=mtab (kindL.take 7)) (I:=8) (k:=3) (e:=104) 0 (u:=.func (.func 78) #[] #[]) (mpO Tryz.prog 3 mb 8 (mtab (kindL.take 8)) true) (by rfl) (by rfl) (by rfl) (fun _=>rfl) (by rfl) rfl (fun w h=>h) (List.mem_singleton.2 rfl) (fun w w' _ h hm u=>hm) (fun g hg=>hg) (by kernel_rfl) (by kernel_rfl) (wf_small (by decide)) (by decide) ?_|refine fin fun w' hH=>⟨mb,rfl,Hold.ob hH (A:=mpO Tryz.prog 3 mb 8 (mtab kindL) true) 0 rfl,hH.upd.since,(hH.own _ (List.mem_of_getElem? (i:=0) rfl) rfl mb (List.mem_singleton.2 rfl)).resolve_left (by simp)⟩|refine fin_s ?_))
end Gw
namespace Gw
open Go.RowKit Ba Mem En Go.Proofs.YtepfmfalebmcnaaGreatDoor.Ty Mp
open Fm (nextF frames frm)
open Fq (SO)
open Byt (BV isB)
open Co (KV Pt KW newK Hold.ob)
open Gr (doR)
set_option maxRecDepth 100000
structure GWt (gq:Nat) (c:CfgV) (x:Gp) (M N:Nat) (K:KV) (ep:Int) (xs:List Int) (Sk:List Nat) (D:Fam) (Ss:List Nat) (w:World):Prop where
 b:Blk w gq 96 (gwA c x ep)
 k:KG 0 x.q x.p x.mb M K Sk D w
 s:SO 0 x.s N xs Ss w
 g1:gq∉kgF x.mb Sk D
 g2:gq∉Ss
 d:∀ g∈kgF x.mb Sk D,g∉Ss
def gwF (gq:Nat) (x:Gp) (Sk:List Nat) (D:Fam) (Ss:List Nat):List Nat:=gq::(kgF x.mb Sk D++Ss)
section
variable {gq M N:Nat} {c:CfgV} {x:Gp} {ep sk sa sb:Int} {K K':KV} {xs:List Int} {Sk Sk' Ss T:List Nat} {D D':Fam} {w w':World} {dA:Option Addr} {dn dc:Nat}
theorem GWt.upd (u:Upd T w w') (h:GWt gq c x M N K ep xs Sk D Ss w) (hT:∀ g∈gwF gq x Sk D Ss,g∉T):GWt gq c x M N K ep xs Sk D Ss w' :=
 ⟨u.blk h.b (hT _ (List.mem_cons_self ..)),h.k.upd u (fun g hg=>hT g (List.mem_cons_of_mem _ (List.mem_append.2 (.inl hg)))),h.s.upd u (fun g hg=>hT g (List.mem_cons_of_mem _ (List.mem_append.2 (.inr hg)))),h.g1,h.g2,h.d⟩
theorem GWt.lt (h:GWt gq c x M N K ep xs Sk D Ss w):∀ g∈gwF gq x Sk D Ss,g < w.heap.size:=by
 intro g hg
 rcases List.mem_cons.1 hg with rfl | hg
 ·exact h.b.lt
 rcases List.mem_append.1 hg with hg | hg
 ·exact h.k.lt g hg
 ·exact h.s.lt g hg
theorem GWt.kg (h:GWt gq c x M N K ep xs Sk D Ss w) (hk:KG 0 x.q x.p x.mb M K' Sk' D' w') (u:Upd (kgF x.mb Sk D) w w') (hF:∀ g∈kgF x.mb Sk' D',g∈kgF x.mb Sk D∨w.heap.size≤g) :
  GWt gq c x M N K' ep xs Sk' D' Ss w'∧Upd (gwF gq x Sk D Ss) w w'∧∀ g∈gwF gq x Sk' D' Ss,g∈gwF gq x Sk D Ss∨w.heap.size≤g:=by
 have far:∀ g,g < w.heap.size→g∉kgF x.mb Sk D→g∉kgF x.mb Sk' D':=fun g hlt hg hm=>(hF g hm).elim hg (fun h=>by omega)
 refine ⟨⟨u.blk h.b h.g1,hk,h.s.upd u (fun g hg hgk=>h.d g hgk hg),far gq h.b.lt h.g1,h.g2,fun g hg hgs=>far g (h.s.lt g hgs) (fun hk=>h.d g hk hgs) hg⟩,u.mono (fun g hg _=>List.mem_cons_of_mem _ (List.mem_append.2 (.inl hg))),fun g hg=>?_⟩
 rcases List.mem_cons.1 hg with rfl | hg
 ·exact .inl (List.mem_cons_self ..)
 rcases List.mem_append.1 hg with hg | hg
 ·exact (hF g hg).imp (fun hg=>List.mem_cons_of_mem _ (List.mem_append.2 (.inl hg))) id
 ·exact .inl (List.mem_cons_of_mem _ (List.mem_append.2 (.inr hg)))
end
def gwO (gq:Nat) (c:CfgV) (x:Gp) (M N:Nat) (K:KV) (ep:Int) (xs:List Int) (Sk:List Nat) (D:Fam) (Ss:List Nat) (rw:Bool):Asr:=⟨gwF gq x Sk D Ss,rw,GWt gq c x M N K ep xs Sk D Ss,fun u hd h=>h.upd u hd,fun h=>h.lt⟩
theorem hold_w {gq M N nt:Nat} {c:CfgV} {x:Gp} {ep:Int} {K:KV} {xs:List Int} {Sk Ss:List Nat} {D:Fam} {w:World} (h:GWt gq c x M N K ep xs Sk D Ss w):Hold ⟨Tryz.prog,tab,gwF gq x Sk D Ss,w,nt,[]⟩ [] [gwO gq c x M N K ep xs Sk D Ss true] w :=
 Hold.addObj (Hold.nil _ tab _ _ w) (gwO gq c x M N K ep xs Sk D Ss true) h (fun _ g hg=>.inl hg) (by intro r hr; cases hr) (by intro A hA; cases hA)
theorem kind_no {sk:Int} (h:¬ (1≤sk∧sk≤8)):mtab kindL sk=none:=by
 unfold mtab kindL
 simp only [List.foldl_cons,List.foldl_nil,Mp.setK]
 rw [if_neg (by omega),if_neg (by omega),if_neg (by omega),if_neg (by omega),if_neg (by omega),if_neg (by omega),if_neg (by omega),if_neg (by omega)]
attribute [local irreducible] Go.Calls
section
variable {gq M N:Nat} {c:CfgV} {x:Gp} {ep sk sa sb:Int} {K K':KV} {xs:List Int} {Sk Sk' Ss T:List Nat} {D D':Fam} {w w':World} {dA:Option Addr} {dn dc:Nat}
theorem doNo (h:GWt gq c x M N K ep xs Sk D Ss w) (hk:(Lit.int .i64 sk).wf=true) (hn:¬ (1≤sk∧sk≤8)) :
  Calls Tryz.prog 24 #[.pointer (some ⟨gq,0,none⟩),.agg #[.int .i64 sk,.int .i64 sa,.int .i64 sb,.slice dA dn dc]] w fun e w'=>e=.returned (.tuple #[.slice none 0 0,.int .i64 1])∧Since w w':=by
 have hm:=kind_no hn
 refine ent tab_ok [.v (.pointer (some ⟨gq,0,none⟩)),.a [.i .i64 sk,.i .i64 sa,.i .i64 sb,.v (.slice dA dn dc)]] Tryz.func24 Tryz.ntmps24 rfl rfl ?_
 repeat' (first | refine gs_ ?_|((conv=>whnf); first | intro b0 | refine And.intro ?_ ?_|refine callN (f:=53) (ι:=Nat) (fun b=>.v (.map (some b))) (fun b=>mpO Tryz.prog 3 b 8 (mtab kindL) true) (fun w1 hH=>(kindsT w1).mono (by rintro e w' ⟨b,rfl,h1,h2,h3⟩; exact ⟨b,rfl,h1,h2,fun g hg=>by rw [List.mem_singleton.1 hg]; exact h3⟩)) (fun b=>?_)|refine oplo (b:=b) (n:=8) (m:=mtab kindL) (k:=3) (e:=104) 0 _ (.v _) false (by rfl) (by rfl) (by rfl) (by rfl) (fun w h=>h) (by kernel_rfl) (by kernel_rfl) (fun w=>rfl) hk (by rw [hm]; rfl) (by rw [hm]; rfl) ?_|refine fin_s ?_))
 all_goals rfl
end
end Gw
end Go.Proofs.YtepfmfalebmcnaaGreatDoor
