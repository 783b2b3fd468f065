/-
  Wanted: part 14.
  No condition.
-/
import Derived.Test.YtpiiblkiddcgcaaGreatPK13
import Derived.Test.YtpiiblkiddcgcaaGreatPK9
import Derived.Test.YtpiiblkiddcgcaaGreatRows
import Derived.Test.YtpiiblkiddcgcaaGreatPK0
import Derived.Deep.Slices
import Derived.Test.YtpiiblkiddcgcaaGreatPK11
set_option linter.all false
namespace Go.Proofs.YtpiiblkiddcgcaaGreat
namespace En
open Go.RowKit Ba Mem
section
variable {X:Cx} {m:List Row} {ob:List Asr} {w w':World} {s:St}
theorem callRON {ι:Type} {f:FuncId} {vs:List SV} {K:SV→St→Prop} (j i:Nat) {r:Row} {A:Asr} (v:ι→SV) (cs:ι→List SV) (B C:ι→Asr)
  (hc:∀ w,Hold X s.m s.ob w→Blk w r.g r.t (denL s.m r.cs).toArray→A.st w→r.g∉A.F→Calls X.P f (denL s.m vs).toArray w fun e w'=>∃ x,e=.returned (den s.m (v x))∧Blk w' r.g r.t (denL s.m (cs x)).toArray∧(B x).st w'∧(C x).st w'∧Upd (r.g::A.F) w w'∧(∀ g∈(B x).F,g∈A.F∨w.heap.size≤g)∧∀ g∈(C x).F,w.heap.size≤g∧g∉(B x).F)
  (h:∀ x,setR j (fun r K=>K ⟨r.g,r.t,r.live,r.off,r.pre,cs x,r.suf,r.rw⟩) s.m fun m=>setO i (B x) s.ob fun ob=>appO ob (C x) fun ob=>K (v x) ⟨s.fr,m,ob⟩)
  (hr:s.m[j]?=some r:=by rfl) (hl:(r.live && r.rw && r.pre.isEmpty && r.suf.isEmpty)=true:=by rfl) (hA:s.ob[i]?=some A:=by rfl) (hrw:A.rw=true:=by rfl)
  (he:entChk X.P f=true:=by kernel_rfl) (hv:∀ x,(okV s.m.length (v x) && okL s.m.length (cs x))=true:=by intro x; rfl):CallVC X f vs s K:=by
 simp only [Bool.and_eq_true,List.isEmpty_iff] at hl
 obtain ⟨⟨⟨h1,hrw1⟩,h2⟩,h3⟩:=hl
 have hmem:=List.mem_of_getElem? hA
 refine ⟨entC he,fun w hH=>(hc w hH (by have:=hH.row j r hr h1; rwa [rowA_nil h2 h3] at this) (hH.obj A hmem) (hH.far A hmem j r hr h1)).mono ?_⟩
 rintro e w' ⟨x,rfl,hb,hB,hCs,hu,hF,hCF⟩
 have hvx:=hv x
 simp only [Bool.and_eq_true] at hvx
 obtain ⟨r',hr',hx⟩:=setR_of (h x)
 rw [hr] at hr'; cases hr'
 have hE:=Ext.set hr (cs x)
 obtain ⟨w1,w2,w3⟩:=hH.wf j r hr h1
 have hrA:=hH.far A hmem j r hr h1
 have hdis:∀ (k:Nat) (C:Asr),s.ob[k]?=some C→k≠i→∀ g∈C.F,g∉A.F:=fun k C hC hne=>pair_at (R:=DisR) (fun _ _ h=>h.symm) hH.dis hC hA hne (.inr hrw)
 have hBr:r.g∉(B x).F:=fun hg=>by
  rcases hF _ hg with h | h
  ·exact hrA h
  ·have:=(hH.row j r hr h1).lt; omega
 have hX:Hold X (s.m.set j ⟨r.g,r.t,r.live,r.off,r.pre,cs x,r.suf,r.rw⟩) (s.ob.set i (B x)) w':=by
  refine ⟨hH.upd.comp hu (fun g hg=>?_),fun k q hk hq=>?_,fun k q hk hq=>?_,fun a b q q' ha hb' hq hq' hne=>?_,fun C hC=>?_,fun C hC k q hk hq=>?_,fun C hC hr' g hg=>?_,pair_of fun a b C D hne hC hD=>?_⟩
  ·rcases List.mem_cons.1 hg with rfl | hg
   ·exact w3 hrw1
   ·exact hH.own A hmem hrw g hg
  ·rcases getElem?_set_or hk with ⟨rfl,rfl⟩ | ⟨hne,hk⟩
   ·rw [rowA_ext hE hvx.2,rowA_nil (r:=⟨r.g,r.t,r.live,r.off,r.pre,cs x,r.suf,r.rw⟩) h2 h3]; exact hb
   ·rw [rowA_ext hE (hH.wf k q hk hq).1]
    refine hu.blk (hH.row k q hk hq) (fun hm=>?_)
    rcases List.mem_cons.1 hm with hm | hm
    ·exact hH.ne k j q r hk hr hq h1 (Ne.symm hne) hm
    ·exact hH.far A hmem k q hk hq hm
  ·rw [List.length_set]
   rcases getElem?_set_or hk with ⟨rfl,rfl⟩ | ⟨hne,hk⟩
   ·exact ⟨hvx.2,w2,w3⟩
   ·exact hH.wf k q hk hq
  ·rcases getElem?_set_or ha with ⟨rfl,rfl⟩ | ⟨hn1,ha⟩ <;> rcases getElem?_set_or hb' with ⟨rfl,rfl⟩ | ⟨hn2,hb'⟩
   ·exact absurd rfl hne
   ·exact hH.ne j b r q' hr hb' h1 hq' hne
   ·exact hH.ne a j q r ha hr hq h1 hne
   ·exact hH.ne a b q q' ha hb' hq hq' hne
  ·rcases mem_set_or hC with rfl | ⟨k,hne,hC⟩
   ·exact hB
   ·refine C.up hu (fun g hg hgT=>?_) (hH.obj C (List.mem_of_getElem? hC))
    rcases List.mem_cons.1 hgT with rfl | hgT
    ·exact hH.far C (List.mem_of_getElem? hC) j r hr h1 hg
    ·exact hdis k C hC hne g hg hgT
  ·have key:∀ (k:Nat) (q:Row),s.m[k]?=some q→q.live=true→q.g∉C.F:=fun k q hk hq=>by
    rcases mem_set_or hC with rfl | ⟨k',hne,hC⟩
    ·intro hg
     rcases hF _ hg with h | h
     ·exact hH.far A hmem k q hk hq h
     ·have:=(hH.row k q hk hq).lt; omega
    ·exact hH.far C (List.mem_of_getElem? hC) k q hk hq
   rcases getElem?_set_or hk with ⟨rfl,rfl⟩ | ⟨hne,hk⟩
   ·exact key j r hr h1
   ·exact key k q hk hq
  ·rcases mem_set_or hC with rfl | ⟨k,hne,hC⟩
   ·rcases hF _ hg with h | h
    ·exact hH.own A hmem hrw g h
    ·exact .inr (Nat.le_trans hH.upd.size h)
   ·exact hH.own C (List.mem_of_getElem? hC) hr' g hg
  ·have far:∀ (k:Nat) (C:Asr),s.ob[k]?=some C→k≠i→∀ g∈C.F,g∉(B x).F:=fun k C hC hne g hg hgB=>by
    rcases hF g hgB with h | h
    ·exact hdis k C hC hne g hg h
    ·have:=C.lt (hH.obj C (List.mem_of_getElem? hC)) g hg; omega
   rcases getElem?_set_or hC with ⟨rfl,rfl⟩ | ⟨n1,hC2⟩ <;> rcases getElem?_set_or hD with ⟨rfl,rfl⟩ | ⟨n2,hD2⟩
   ·exact absurd rfl hne
   ·exact fun _ g hg hgD=>far b D hD2 (Ne.symm n2) g hgD hg
   ·exact fun _=>far a C hC2 (Ne.symm n1)
   ·exact pair_at (R:=DisR) (fun _ _ h=>h.symm) hH.dis hC2 hD2 hne
 refine ⟨v x,_,_,by rw [den_ext hE _ hvx.1],by rw [List.length_set]; exact hvx.1,hE, ?_,appO_of (setO_of hx)⟩
 refine Hold.addObj hX (C x) hCs (fun _ g hg=>.inr (Nat.le_trans hH.upd.size (hCF g hg).1)) (fun q hq hl hg=>?_) (fun D hD _ g hg hgC=>?_)
 ·have h5:=(hCF _ hg).1
  obtain ⟨k,hk⟩:=List.mem_iff_getElem?.1 hq
  rcases getElem?_set_or hk with ⟨rfl,rfl⟩ | ⟨hne,hk⟩
  ·have:=(hH.row j r hr h1).lt; exact absurd this (Nat.not_lt.2 h5)
  ·have:=(hH.row k q hk hl).lt; omega
 ·rcases mem_set_or hD with rfl | ⟨k,hne,hD⟩
  ·exact (hCF g hgC).2 hg
  ·have:=D.lt (hH.obj D (List.mem_of_getElem? hD)) g hg; have:=(hCF g hgC).1; omega
end
end En
namespace Rk
open Go.RowKit Ba Mem En Go.Proofs.YtpiiblkiddcgcaaGreat.Ty Mo Go.Proofs.YtpiiblkiddcgcaaGreat.St Co
open Gr (GrV carL waitL waitsO pairO grpA takeR giveR idB)
open Et (carsO)
open Rg (RO RP FP)
open Qu (askE atS firstA atF dropL atI btw)
open Le (isS atP isP goodB)
open Fl (leaE freeB)
open Ri (tickV)
open Tm (cl)
open Lc (key KR UQ Bn LI CI PI tickV_key set_now find_none near_can)
section
variable {lo:Nat} {p:XP} {K:KV} {E:List EvV} {T:List Nat} {w w':World}
theorem CO.upd (k:Upd T w w') (h:CO lo p K E w) (hT:∀ g∈FX p,g∉T):CO lo p K E w':=by
 have ho:=h.out true
 have st:∀ A∈xoO lo K E p true,A.st w':=fun A hA=>A.up k (fun g hg=>hT g ((ho A hA).2.2.2 g hg)) (ho A hA).1
 obtain ⟨h0,hB,⟨hg0,hGB,_,_⟩,_⟩:=h
 have s0:=st (xo0 lo K p true) (List.mem_cons_self ..)
 exact ⟨h0,k.blk hB (hT _ (List.mem_cons_self ..)),⟨hg0,k.blk hGB (hT _ (List.mem_cons_of_mem _ (List.mem_cons_self ..))),s0.1,s0.2⟩,st (rwO askE lo p.AQ K.Q.length p.cQ K.Q true) (by simp),st (rwO leaE lo p.AL K.L.length p.cL K.L true) (by simp),st (rwO evE lo p.AE E.length p.cE E true) (by simp)⟩
theorem FX_mem {P:Nat→Prop} (h0:P p.q) (h1:P p.g) (h2:∀ g∈blkOf p.P.A1,P g) (h3:∀ g∈blkOf p.P.A2,P g) (h4:∀ g∈blkOf p.AQ,P g) (h5:∀ g∈blkOf p.AL,P g) (h6:∀ g∈blkOf p.AE,P g):∀ g∈FX p,P g:=by
 intro g hg
 rcases List.mem_cons.1 hg with rfl | hg
 ·exact h0
 rcases List.mem_cons.1 hg with rfl | hg
 ·exact h1
 rcases List.mem_append.1 hg with hg | hg
 ·exact (List.mem_append.1 hg).elim (h2 g) (h3 g)
 rcases List.mem_append.1 hg with hg | hg
 ·exact h4 g hg
 rcases List.mem_append.1 hg with hg | hg
 ·exact h5 g hg
 rcases List.mem_append.1 hg with hg | hg
 ·exact h6 g hg
 ·cases hg
theorem CO.lt (h:CO lo p K E w):∀ g∈FX p,g < w.heap.size:=by
 obtain ⟨h0,hB,⟨hg0,hGB,hC,hW⟩,hQ,hL,hE⟩:=h
 exact FX_mem hB.lt hGB.lt (own_lt hC) (own_lt hW) (own_lt hQ) (own_lt hL) (own_lt hE)
theorem CO.low (h:CO lo p K E w):∀ g∈FX p,lo≤g:=by
 obtain ⟨h0,hB,⟨hg0,hGB,hC,hW⟩,hQ,hL,hE⟩:=h
 exact FX_mem h0 hg0 (own_low hC) (own_low hW) (own_low hQ) (own_low hL) (own_low hE)
end
def coO (lo q g:Nat) (x:XP) (K:KV) (E:List EvV) (rw:Bool):Asr:=⟨FX { x with q:=q,g:=g },rw,CO lo { x with q:=q,g:=g } K E,fun k h hs=>hs.upd k h,fun h=>h.lt⟩
structure TJ (c:CfgV) (o:Int) (n T m M:Nat) (R:KV×List EvV) (i:Nat) (x:KV×List EvV):Prop where
 k:KI c n T m x.1
 u:UQ x.1
 nw:x.1.G.now=o+1
 b:∀ y∈x.1.L.drop i,LI c o y
 r:(x.1.L.drop i).foldl stepK x=R
 il:i≤x.1.L.length
 e:x.2.length+(x.1.L.length - i)≤M
section
variable {c:CfgV} {o:Int} {n T m M:Nat} {R:KV×List EvV}
theorem aft_i {K:KV} {i:Nat} {l0 l:LeaseV} (hi:i < K.L.length) (b:Bool):(if b=true then i else i+1)≤(aftK K i l0 l b).L.length:=by
 cases b with
 | true =>
  rw [aft_t,if_pos rfl]
  show i≤(K.L.eraseIdx i).length
  rw [List.length_eraseIdx_of_lt hi]; omega
 | false =>
  rw [aft_f,if_neg (by decide)]
  show i+1≤(K.L.set i l).length
  rw [List.length_set]; omega
theorem TJ.next {i:Nat} {x:KV×List EvV} {l:LeaseV} (hn:0≤o∧o < 1000000) (h:TJ c o n T m M R i x) (hx:x.1.L[i]?=some l):TJ c o n T m M R (if (stepR x.1 l).2.2=true then i else i+1) (aftK x.1 i l (stepR x.1 l).1 (stepR x.1 l).2.2,x.2++evs (stepR x.1 l).1.se (stepR x.1 l).2.1.toList):=by
 obtain ⟨hi,hxe⟩:=List.getElem?_eq_some_iff.1 hx
 have hd:x.1.L.drop i=l::x.1.L.drop (i+1):=by rw [List.drop_eq_getElem_cons hi,hxe]
 have hb:=h.b l (by rw [hd]; exact List.mem_cons_self ..)
 have hk:key (stepR x.1 l).1=key l:=by unfold stepR; exact tickV_key _
 simp only [key,Prod.mk.injEq] at hk
 have hs:aftK x.1 i l (stepR x.1 l).1 (stepR x.1 l).2.2=setK x.1 (stepR x.1 l).1 (stepR x.1 l).2.2:=by
  refine aft_same (s:=l.se) (at_uq h.u hx) hx hk.1 hk.2.1.symm hk.2.2.symm _ (fun ho=>?_)
  unfold stepR at ho ⊢
  rw [h.k.g.1] at ho ⊢
  exact (hb.toBn.tick (now:=x.1.G.now) (by rw [h.nw]; omega) (carAt x.1 l) ho).gd
 have hD:=aft_drop (l0:=l) (l:=(stepR x.1 l).1) hi (stepR x.1 l).2.2
 have hL:=aft_len (l0:=l) (l:=(stepR x.1 l).1) hi (stepR x.1 l).2.2
 have hI:=aft_i (l0:=l) (l:=(stepR x.1 l).1) hi (stepR x.1 l).2.2
 have he:=h.e
 have hr:=h.r
 rw [hd,List.foldl_cons] at hr
 have hev:(evs (stepR x.1 l).1.se (stepR x.1 l).2.1.toList).length≤1:=by rw [Lc.evs_len]; cases (stepR x.1 l).2.1 <;> simp
 refine ⟨?_, ?_, ?_, ?_, ?_,hI, ?_⟩
 ·show KI c n T m (aftK _ _ _ _ _)
  rw [hs]
  refine h.k.set _ _ ?_
  unfold stepR
  rw [(tickV_ca _ _ _ _).1]
  exact h.k.okl l (List.mem_of_getElem? hx)
 ·show UQ (aftK _ _ _ _ _)
  rw [hs]; exact h.u.set _ _
 ·show (aftK _ _ _ _ _).G.now=_
  rw [hs,set_now]; exact h.nw
 ·show ∀ y∈(aftK _ _ _ _ _).L.drop _,LI c o y
  rw [hD]
  exact fun y hy=>h.b y (by rw [hd]; exact List.mem_cons_of_mem _ hy)
 ·show ((aftK _ _ _ _ _).L.drop _).foldl stepK _=R
  rw [hD,hs]; exact hr
 ·show (x.2++_).length+((aftK _ _ _ _ _).L.length - _)≤M
  rw [hL,List.length_append]; omega
theorem TJ.new {K:KV} (hP:PI c n T K) (hT:T < 1000000):TJ c K.G.now n (T+1) T K.L.length (foldK K K.L.length) 0 (tkK1 K,[]):=by
 have hn:0≤K.G.now∧K.G.now≤1000000:=⟨hP.k.now.1,by have:=hP.t; omega⟩
 refine ⟨hP.k.tk1,hP.u.grp _,Lc.tk1_now K hn,fun y hy=>hP.e y (List.mem_of_mem_drop hy), ?_,Nat.zero_le _,by show 0+(K.L.length - 0)≤_; omega⟩
 unfold foldK
 rw [show K.L.take K.L.length=K.L from List.take_length]
 rfl
theorem TJ.end_ {i:Nat} {x:KV×List EvV} (h:TJ c o n T m M R i x) (hi:¬ i < x.1.L.length):x=R:=by
 have:=h.r
 rw [List.drop_eq_nil_of_le (by omega)] at this
 exact this
theorem LI.cl {l:LeaseV} (h:LI c o l) (hn:0≤o∧o≤1000000):cl l.un=l.un:=by
 have h1:=h.lt
 have h2:=h.bound
 have h3:=h.un
 have hp:=Lc.good_ph h.gd
 have hs:=Ri.sp_lo c.ho
 have hs2:=Ri.sp_hi c.ho
 have ht:=Ri.tr_lo c
 have ht2:=Ri.tr_hi c
 have hr:=Lc.rn_hi c.re
 have hb:Lc.bp c l.ph≤2*Ri.trV c+2*Ri.sp c.ho:=by unfold Lc.bp; (repeat' split) <;> omega
 have hm:Ri.sp c.ho*l.re≤1000*1000:=Int.mul_le_mul (by omega) (by have:=h.re; omega) h.re.1 (by decide)
 have hg:=h.gr
 exact Tm.cl_id _ (by omega) (by omega)
theorem put_ok {K:KV} {a:AskV} (hU:UQ K) (hk:KI c n T m K) (h:CI [] K) (ha:grA K=some a):Le.putE K.G.c K.L (grL K a)=0:=by
 unfold grA at ha
 split at ha
 ·cases ha
 rename_i hpf
 by_cases hat:(atF K.Q (fullL K 8)).isSome=true
 case neg=>rw [if_neg hat] at ha; cases ha
 rw [if_pos hat] at ha
 by_cases hnear:nearI K (firstA K.Q (fullL K 8)).fm < 0
 case pos=>rw [if_pos hnear] at ha; cases ha
 rw [if_neg hnear] at ha
 have ha:=Option.some.inj ha
 -- who it is
 obtain ⟨k,hatk⟩:=Option.isSome_iff_exists.1 hat
 obtain ⟨hkl,hk1,_⟩:=Qu.atF_some hatk
 have hfa:firstA K.Q (fullL K 8)=K.Q[k]:=by unfold firstA; rw [hatk]; simp [List.getD,hkl]
 rw [hfa] at ha hnear
 have haQ:a∈K.Q:=by rw [← ha]; exact List.getElem_mem hkl
 have hfree:(atI (fullL K 8) a.fl).isSome=false:=by rw [← ha]; exact hk1 hkl
 rw [ha] at hnear
 have hmay:=hk.okq a haQ
 have hc:=hk.g.1
 -- its car
 obtain ⟨x0,hx0,hcan⟩:=near_can a.fm K.G.cars K.G.cars.length (by show 0≤nearI K a.fm; omega)
 have hx0:K.G.cars[(nearI K a.fm).toNat]?=some x0:=hx0
 have hid:idB x0=true:=by unfold canB at hcan; simp only [Bool.and_eq_true] at hcan; exact hcan.1.1
 have hmo0:x0.mo=0:=by unfold idB at hid; exact (of_decide_eq_true hid).1
 have hlt:=(List.getElem?_eq_some_iff.1 hx0).1
 have hb8:=Gr.ncars_bd c
 have hlen:=hk.len
 have hcar:∀ l∈K.L,l.ca≠nearI K a.fm:=fun l hl e=>by
  obtain ⟨x,hx,hb⟩:=h.a l hl
  rw [e,hx0] at hx
  have:=Option.some.inj hx
  have:=hb.mo
  subst x
  omega
 have hse:∀ l∈K.L,l.se≠a.se:=fun l hl e=>h.q a haQ l hl e.symm
 have hfl:0≤a.fl∧a.fl < 8:=by
  have:=hmay
  unfold Fl.mayB Fl.belB at this
  simp only [Bool.and_eq_true,decide_eq_true_eq] at this
  have e:btw c.ft 1 8≤8:=by unfold btw; (repeat' split) <;> omega
  omega
 have hfr:freeB K.G.c K.L a.fl=true:=by
  by_cases e:freeB K.G.c K.L a.fl=true
  ·exact e
  ·exfalso
   have hm:=Lc.full_mem K hfl.1 e 8 (by omega)
   have:=find_none hfree a.fl hm
   simp at this
 have hgood:goodB K.G.c (grL K a)=true:=by
  unfold goodB
  rw [hc]
  show (Fl.mayB c a && decide (0≤nearI K a.fm) && decide (nearI K a.fm < 8) && decide ((1:Int)≤1) && decide ((1:Int)≤4))=true
  rw [hmay,decide_eq_true (show 0≤nearI K a.fm by omega),decide_eq_true (show nearI K a.fm < 8 by omega)]
  rfl
 have hput:Le.putE K.G.c K.L (grL K a)=0:=by
  unfold Le.putE
  rw [if_pos hgood,if_neg,if_pos (show freeB K.G.c K.L (grL K a).fl=true from hfr)]
  intro hs
  obtain ⟨j,hj⟩:=Option.isSome_iff_exists.1 hs
  obtain ⟨hjl,hj1,_⟩:=Le.atP_some hj
  have:=hj1 hjl
  unfold isP at this
  simp only [Bool.or_eq_true,beq_iff_eq] at this
  rcases this with e | e
  ·exact hse _ (List.getElem_mem hjl) e
  ·exact hcar _ (List.getElem_mem hjl) e
 exact hput
theorem at_Q {K:KV} (h:UQ K) {q:Nat} {a:AskV} (hx:K.Q[q]?=some a):atS K.Q a.se=some q:=by
 obtain ⟨hi,hxe⟩:=List.getElem?_eq_some_iff.1 hx
 refine List.findIdx?_eq_some_iff_getElem.2 ⟨hi,by rw [hxe]; simp [Qu.isS],fun j hj=>?_⟩
 have hp:=List.pairwise_iff_getElem.1 h.q j q (by rw [List.length_map]; omega) (by rw [List.length_map]; exact hi) hj
 rw [List.getElem_map,List.getElem_map,hxe] at hp
 simp [Qu.isS,hp]
theorem may_fl {c:CfgV} {a:AskV} (h:Fl.mayB c a=true):0≤a.fl∧a.fl < 8:=by
 unfold Fl.mayB Fl.belB at h
 simp only [Bool.and_eq_true,decide_eq_true_eq] at h
 have e:Qu.btw c.ft 1 8≤8:=by unfold Qu.btw; (repeat' split) <;> omega
 omega
theorem gr_tick {K:KV} (hP:PI c n T K) (hT:T < 1000000) (hC:CI [] K):grR (foldK K K.L.length).1=(tickK K,grantE (foldK K K.L.length).1):=by
 have hn:0≤K.G.now∧K.G.now≤1000000:=⟨hP.k.now.1,by have:=hP.t; omega⟩
 have h1:=Lc.tk1_now K hn
 have hn2:0≤(tkK1 K).G.now∧(tkK1 K).G.now≤1000000:=by rw [h1]; have:=hP.t; omega
 have hk:=hP.k.fold K.L.length
 have hu:=hP.u.fold K.L.length
 have hc:CI [] (foldK K K.L.length).1:=by
  unfold foldK
  rw [show K.L.take K.L.length=K.L from List.take_length]
  exact CI.fold hn2 K.L (tkK1 K,[]) rfl hP.k.g.1 (hP.u.grp _) (fun y hy=>(hP.e y hy).toBn) (fun y hy=>.inl hy) hP.u.l (fun y hy=>hy) hC.tk1
 exact gr_same (fun a ha=>may_fl (hk.okq a ha)) (fun q a hq=>at_Q hu hq) (fun a ha=>put_ok hu hk hc ha)
end
end Rk
namespace Rk
open Go.RowKit Ba Mem En Go.Proofs.YtpiiblkiddcgcaaGreat.Ty Mo Go.Proofs.YtpiiblkiddcgcaaGreat.St Co
open Gr (GrV CarsAt WaitsAt carL waitL waitsO pairO grpA tickP tickG)
open Et (carsO car_at)
open Rg (RO RP FP WQ tickRG)
open Ri (MsgV msgC tickV)
open Qu (askE)
open Le (isS atP oI)
open Fl (leaE)
open Lc (CI PI)
set_option maxRecDepth 100000
theorem tick_cc (G:GrV):(tickG G).c=G.c:=by unfold tickG; rfl
attribute [local irreducible] Go.Calls tickV tickP tickG tickK tickE foldK stepR aftK grR
set_option maxHeartbeats 2000000
theorem tickCR {lo n T:Nat} {c:CfgV} {p:XP} {K:KV} {E:List EvV} {w:World} (hg:CO lo p K E w) (hP:PI c n T K) (hC:CI [] K) (hWQ:WQ K.G.waits) (hn:n≤10000) (hT:T < 9000) :
  Calls Tryz.prog 17 #[.pointer (some ⟨p.q,0,none⟩)] w fun e w'=>∃ y:XP×Option Addr×Nat,(y.1.q=p.q∧y.1.g=p.g)∧e=.returned (.tuple #[.slice y.1.AE (tickE K).length y.1.cE,.slice y.2.1 (tickP K.G).2.2.length y.2.2])∧CO lo y.1 (tickK K) (tickE K) w'∧WaitsAt w.heap.size y.2.1 (tickP K.G).2.2.length y.2.2 (tickP K.G).2.2 w'∧Upd (FX p) w w'∧(∀ g∈FX y.1,g∈FX p∨w.heap.size≤g)∧∀ g∈blkOf y.2.1,w.heap.size≤g∧g∉FX y.1:=by
 have h0:=hg.1
 have h1:=hg.2.2.1.1
 have hk:=hP.k
 have hb8:=Gr.ncars_bd c
 have hlen:=hk.len
 have hll:=hk.ll
 have hlw:=hk.g.2.2.2.2
 have hn0:=hk.now.1
 have hn1:=hP.t
 obtain ⟨q,g0,⟨A1,c1,A2,c2⟩,AQ,cQ,AL,cL,AE,cE⟩:=p
 refine entH tab_ok (hold_cx true (fun _ g h=>h) hg) [.p 0 0] Tryz.func17 Tryz.ntmps17 rfl rfl ?_
 repeat' ((conv=>whnf); first | refine sgo ⟨tab_ok⟩ ?_|refine br_not ?_|refine br_t rfl ?_|refine br_f rfl ?_|refine br_t (by assumption) ?_|refine br_f (by assumption) ?_|refine br_t (decide_eq_true (by assumption)) ?_|refine br_f (decide_eq_false (by assumption)) ?_|refine br_t (beq_iff_eq.2 (by assumption)) ?_|refine br_f (beq_eq_false_iff_ne.2 (by assumption)) ?_|refine kpt ?_|refine fin_s ?_|refine fin_r ?_ ?_|refine fin_e ?_ ?_)
 conv=>whnf
 refine call_hold _ (xoO lo K [] ⟨q,g0,⟨A1,c1,A2,c2⟩,AQ,cQ,AL,cL,none,0⟩ true) (Ext.refl _) (fun w1 hH=>hH.pick [0,1,2,3] (.cons (.same rfl) (.cons (.same rfl) (.cons (.same rfl) (.cons (.none (by rfl)) .nil))))) (by rfl) ?_
 refine callRON (f:=9) 1 0 (A:=xo0 lo K ⟨q,g0,⟨A1,c1,A2,c2⟩,AQ,cQ,AL,cL,none,0⟩ true) (ι:=RP×Option Addr×Nat) (fun y=>.v (.slice y.2.1 (tickP K.G).2.2.length y.2.2)) (fun y=>[.i .i64 (tickG K.G).c.ca,.i .i64 (tickG K.G).c.fl,.i .i64 (tickG K.G).c.ft,.i .i64 (tickG K.G).c.se,.i .i64 (tickG K.G).c.dr,.i .i64 (tickG K.G).c.dw,.i .i64 (tickG K.G).c.ho,.i .i64 (tickG K.G).c.re,.i .i64 (tickG K.G).c.yi,.i .i64 (tickG K.G).c.qu,.i .i64 (tickG K.G).c.qo,.i .i64 (tickG K.G).c.lo,.i .i64 (tickG K.G).c.sl,.i .i64 (tickG K.G).c.rt,.i .i64 (tickG K.G).c.cp,.i .i64 (tickG K.G).c.tr,.i .i64 (tickG K.G).c.de,.i .i64 (tickG K.G).c.wi,.v (.slice y.1.A1 (tickG K.G).cars.length y.1.c1),.v (.slice y.1.A2 (tickG K.G).waits.length y.1.c2),.i .i64 (tickG K.G).now]) (fun y=>pairO (carsO lo y.1.A1 (tickG K.G).cars.length y.1.c1 (tickG K.G).cars true) (waitsO lo y.1.A2 (tickG K.G).waits.length y.1.c2 (tickG K.G).waits true)) (fun y=>waitsO w.heap.size y.2.1 (tickP K.G).2.2.length y.2.2 (tickP K.G).2.2 true) (fun w1 hH hB hA hne=>?_) (fun y=>?_)
 ·refine (tickRG (P:=⟨A1,c1,A2,c2⟩) ⟨h1,hB,hA.1,hA.2⟩ (by omega) (by omega) (by omega) (fun x hx=>by rw [hk.g.1]; exact hk.g.2.2.1 x hx) (by omega) hk.g.2.2.2.1 hWQ hn0 (by omega)).mono ?_
  rintro e w' ⟨⟨P',AW,cW⟩,rfl,hR,hW,hu,hnw,hnn⟩
  refine ⟨(P',AW,cW),rfl,hR.2.1,⟨hR.2.2.1,hR.2.2.2⟩,own_base hW hH.upd.size,hu,fun b hb=>?_,fun b hb=>⟨(hnn b hb).1,fun h=>(hnn b hb).2 (List.mem_cons_of_mem _ h)⟩⟩
  rcases hnw b (List.mem_cons_of_mem _ hb) with h | h
  ·rcases List.mem_cons.1 h with rfl | h
   ·exfalso
    rcases List.mem_append.1 hb with h2 | h2
    ·exact own_ne_ty hR.2.2.1 hR.2.1 (by decide) h2
    ·exact own_ne_ty hR.2.2.2 hR.2.1 (by decide) h2
   ·exact .inl h
  ·exact .inr h
 obtain ⟨P',AW,cW⟩:=y
 repeat' ((conv=>whnf); first | refine sgo ⟨tab_ok⟩ ?_|refine br_not ?_|refine br_t rfl ?_|refine br_f rfl ?_|refine br_t (by assumption) ?_|refine br_f (by assumption) ?_|refine br_t (decide_eq_true (by assumption)) ?_|refine br_f (decide_eq_false (by assumption)) ?_|refine br_t (beq_iff_eq.2 (by assumption)) ?_|refine br_f (beq_eq_false_iff_ne.2 (by assumption)) ?_|refine kpt ?_|refine fin_s ?_|refine fin_r ?_ ?_|refine fin_e ?_ ?_)
 conv=>whnf
 refine lpS ⟨tab_ok⟩ (ι:={y:(Nat×XP)×(KV×List EvV) // TJ c K.G.now n (T+1) T K.L.length (foldK K K.L.length) y.1.1 y.2}) (fun y=>match y with | ⟨((i,x),(Kk,Es)),_⟩=>⟨[(0,.p 0 0),(4,.v (.slice AW (tickP K.G).2.2.length cW)),(5,.i .i64 (i:Int))],[⟨q,98,true,0,[],xcL Kk Es.length x,[],true⟩,⟨g0,72,true,0,[],grS Kk x,[],true⟩],[xo0 lo Kk x true,rwO askE lo x.AQ Kk.Q.length x.cQ Kk.Q true,rwO leaE lo x.AL Kk.L.length x.cL Kk.L true,rwO evE lo x.AE Es.length x.cE Es true,waitsO w.heap.size AW (tickP K.G).2.2.length cW (tickP K.G).2.2 true]⟩) (fun y=>y.1.2.1.L.length - y.1.1.1) ⟨((0,⟨q,g0,P',AQ,cQ,AL,cL,none,0⟩),(tkK1 K,[])),TJ.new hP (by omega)⟩ (wk ?_ ?_ (by rfl) (by rfl)) ?_
 ·repeat' (first | exact trivial | rfl | ((conv=>whnf); refine And.intro ?_ ?_))
 ·simp only [xcL,tkK1,grS,tick_cc]; rfl
 rintro ⟨⟨⟨i,x⟩,⟨Kk,Es⟩⟩,HJ⟩
 have HJ:TJ c K.G.now n (T+1) T K.L.length (foldK K K.L.length) i (Kk,Es):=HJ
 have hkk:KI c n (T+1) T Kk:=HJ.k
 have hlk:=hkk.ll
 have hle:=hkk.len
 have hEe:Es.length+(Kk.L.length - i)≤K.L.length:=HJ.e
 by_cases hlt:i < Kk.L.length
 ·obtain ⟨l,hx⟩:∃ l,Kk.L[i]?=some l:=⟨_,List.getElem?_eq_getElem hlt⟩
  have hic:inC Kk l:=hkk.inc (hkk.okl l (List.mem_of_getElem? hx))
  have hun:=LI.cl (HJ.b l (by show l∈Kk.L.drop i; rw [List.drop_eq_getElem_cons hlt,(List.getElem?_eq_some_iff.1 hx).2]; exact List.mem_cons_self ..)) (by omega)
  obtain ⟨kc,hka⟩:∃ kc:Nat,l.ca=(kc:Int):=⟨_,(Int.toNat_of_nonneg hic.1).symm⟩
  have hxc:=hic.at_
  rw [hka] at hxc
  have hxc:Kk.G.cars[kc]?=some (carAt Kk l):=by simpa using hxc
  obtain ⟨hkl,_⟩:=List.getElem?_eq_some_iff.1 hxc
  obtain ⟨cx,hc0⟩:∃ cx,carAt Kk l=cx:=⟨_,rfl⟩
  have hnx:=TJ.next (by omega) HJ hx
  obtain ⟨r,hr⟩:∃ r,stepR Kk l=r:=⟨_,rfl⟩
  rw [show stepR (Kk,Es).1 l=r from hr] at hnx
  have hr2:tickV Kk.G.c l cx Kk.G.now=r:=by rw [← hr,← hc0]; unfold stepR; rfl
  rw [hc0] at hxc
  obtain ⟨l',ms,ov⟩:=r
  have hms:ms.toList.length≤1:=by cases ms <;> simp
  have hlL:(aftK Kk i l l' ov).L.length - (if ov=true then i else i+1)=Kk.L.length - (i+1):=aft_len hlt ov
  obtain ⟨xq,xg,⟨B1,d1,B2,d2⟩,BQ,dQ,BL,dL,BE,dE⟩:=x
  refine sm_know (p:=(∃ g,BL=some ⟨g,0,none⟩)∧∃ g,B1=some ⟨g,0,none⟩) (fun w1 hH=>⟨by obtain ⟨g,h⟩:=Ek.addr (hob hH (A:=rwO leaE lo BL Kk.L.length dL Kk.L true) 2 rfl); exact ⟨g,h (by omega)⟩,own_addr (hob hH (A:=xo0 lo Kk ⟨xq,xg,⟨B1,d1,B2,d2⟩,BQ,dQ,BL,dL,BE,dE⟩ true) 0 rfl).1 (by omega)⟩) (fun hA=>?_)
  obtain ⟨⟨g,rfl⟩,⟨gc,rfl⟩⟩:=hA
  have hnx:TJ c K.G.now n (T+1) T K.L.length (foldK K K.L.length) (if ov=true then i else i+1) (aftK Kk i l l' ov,Es++evs l'.se ms.toList):=hnx
  have hrd:=fun w1=>rideR Kk.G.c l cx Kk.G.now hun w1
  rw [hr2] at hrd
  refine sm_run ⟨tab_ok⟩ ?_
  repeat' ((conv=>whnf); first | refine sgo ⟨tab_ok⟩ ?_|refine br_not ?_|refine br_t rfl ?_|refine br_f rfl ?_|refine br_t (by assumption) ?_|refine br_f (by assumption) ?_|refine br_t (decide_eq_true (by assumption)) ?_|refine br_f (decide_eq_false (by assumption)) ?_|refine br_t (beq_iff_eq.2 (by assumption)) ?_|refine br_f (beq_eq_false_iff_ne.2 (by assumption)) ?_|refine kpt ?_|refine br_t (decide_eq_true (by omega)) ?_|refine br_f (decide_eq_false (by omega)) ?_|refine wr_i ?_|refine fin_s ?_|refine fin_r ?_ ?_|refine fin_e ?_ ?_)
  conv=>whnf
  refine sm_meet (ι:=NrA w.heap.size×Nat) (fun y=>⟨[(0,.p 0 0),(4,.v (.slice AW (tickP K.G).2.2.length cW)),(5,.i .i64 (i:Int)),(6,.p 2 0),(7,.v (.slice y.1.1.2.1 ms.toList.length y.1.1.2.2)),(8,.b ov)],[⟨q,98,true,0,[],xcL Kk Es.length ⟨xq,xg,⟨some ⟨gc,0,none⟩,d1,B2,d2⟩,BQ,dQ,some ⟨g,0,none⟩,dL,BE,dE⟩,[],true⟩,⟨g0,72,true,0,[],grS Kk ⟨xq,xg,⟨some ⟨gc,0,none⟩,d1,B2,d2⟩,BQ,dQ,some ⟨g,0,none⟩,dL,BE,dE⟩,[],true⟩,⟨y.2,101,true,0,[],[.i .i64 l'.se,.i .i64 l'.fl,.i .i64 l'.fm,.i .i64 l'.to,.i .i64 l'.ma,.i .i64 l'.ca,.i .i64 l'.ph,.i .i64 l'.un,.i .i64 l'.re,.i .i64 l'.gr],[],true⟩],[xo0 lo Kk ⟨xq,xg,⟨some ⟨gc,0,none⟩,d1,B2,d2⟩,BQ,dQ,some ⟨g,0,none⟩,dL,BE,dE⟩ true,rwO askE lo BQ Kk.Q.length dQ Kk.Q true,rwO leaE lo (some ⟨g,0,none⟩) Kk.L.length dL Kk.L true,rwO evE lo BE Es.length dE Es true,waitsO w.heap.size AW (tickP K.G).2.2.length cW (tickP K.G).2.2 true,rwO msgE y.1.1.1 y.1.1.2.1 ms.toList.length y.1.1.2.2 ms.toList true]⟩) ?_ (fun y=>?_)
  ·repeat' ((conv=>whnf); first | refine sgo ⟨tab_ok⟩ ?_|refine br_not ?_|refine br_t rfl ?_|refine br_f rfl ?_|refine br_t (by assumption) ?_|refine br_f (by assumption) ?_|refine br_t (decide_eq_true (by assumption)) ?_|refine br_f (decide_eq_false (by assumption)) ?_|refine br_t (beq_iff_eq.2 (by assumption)) ?_|refine br_f (beq_eq_false_iff_ne.2 (by assumption)) ?_|refine drA (id:=5) ⟨tab_ok⟩ [10,25,27] ?_|refine kpt ?_|refine br_t (decide_eq_true (by omega)) ?_|refine br_f (decide_eq_false (by omega)) ?_|refine wr_i ?_|refine And.intro ?_ ?_|refine puiv ⟨tab_ok⟩ (by rfl) (by rfl) (by rfl) (by rfl) (by rfl) (by rfl) ⟨by omega,by omega⟩ ?_|refine pufv ⟨tab_ok⟩ (by rfl) (by rfl) (by rfl) (by rfl) ?_|refine opix (g:=g) (off:=0+i*10) [.i .i64 l.se,.i .i64 l.fl,.i .i64 l.fm,.i .i64 l.to,.i .i64 l.ma,.i .i64 l.ca,.i .i64 l.ph,.i .i64 l.un,.i .i64 l.re,.i .i64 l.gr] (fun w1 hH=>Ek.rng (hob hH (A:=rwO leaE lo (some ⟨g,0,none⟩) Kk.L.length dL Kk.L true) 2 rfl) hx) ⟨tab_ok⟩ (by rfl) (by rfl) (by first | (simp only [Go.WideShapes.add_plain]; done)|(simp only [Go.WideShapes.add_plain]; rfl)) ?_|refine opxc (g:=g) (off:=0+i*10+5) (.i .i64 l.ca) (fun w1 hH=>cell_k (k:=5) (Ek.rng (hob hH (A:=rwO leaE lo (some ⟨g,0,none⟩) Kk.L.length dL Kk.L true) 2 rfl) hx) rfl) ⟨tab_ok⟩ (by rfl) (by rfl) (by first | (simp only [Go.WideShapes.add_plain]; done)|(simp only [Go.WideShapes.add_plain]; rfl)) ?_|refine opix (g:=gc) (off:=0+kc*15) (sCar cx) (fun w1 hH=>car_at (hob hH (A:=xo0 lo Kk ⟨xq,xg,⟨some ⟨gc,0,none⟩,d1,B2,d2⟩,BQ,dQ,some ⟨g,0,none⟩,dL,BE,dE⟩ true) 0 rfl).1 hxc) ⟨tab_ok⟩ (by rfl) (by rfl) (by show Addr.add ⟨_,0,none⟩ (l.ca.toNat*15)=_; rw [hka,Int.toNat_natCast,Go.WideShapes.add_plain]) ?_|refine callN (f:=58) (ι:=NrA w.heap.size) (fun z=>.t [.a [.i .i64 l'.se,.i .i64 l'.fl,.i .i64 l'.fm,.i .i64 l'.to,.i .i64 l'.ma,.i .i64 l'.ca,.i .i64 l'.ph,.i .i64 l'.un,.i .i64 l'.re,.i .i64 l'.gr],.v (.slice z.1.2.1 ms.toList.length z.1.2.2),.b ov]) (fun z=>rwO msgE z.1.1 z.1.2.1 ms.toList.length z.1.2.2 ms.toList true) (fun w1 hH=>saidN (hrd w1) hH.upd.size) (fun zs=>?_)|intro b4 | refine meet (zs,b4) (wk ?_)|refine fin_s ?_|refine fin_r ?_ ?_|refine fin_e ?_ ?_)
   all_goals (repeat' (first | exact trivial | rfl | ((conv=>whnf); refine And.intro ?_ ?_)))
  ·cases ov with
   | true =>
    rw [if_pos rfl] at hnx hlL
    repeat' ((conv=>whnf); first | refine sgo ⟨tab_ok⟩ ?_|refine br_not ?_|refine br_t rfl ?_|refine br_f rfl ?_|refine br_t (by assumption) ?_|refine br_f (by assumption) ?_|refine br_t (decide_eq_true (by assumption)) ?_|refine br_f (decide_eq_false (by assumption)) ?_|refine br_t (beq_iff_eq.2 (by assumption)) ?_|refine br_f (beq_eq_false_iff_ne.2 (by assumption)) ?_|refine kpt ?_|refine br_t (decide_eq_true (by omega)) ?_|refine br_f (decide_eq_false (by omega)) ?_|refine wr_i ?_|refine callC (f:=59) ⟨xq,xg,⟨some ⟨gc,0,none⟩,d1,B2,d2⟩,BQ,dQ,some ⟨g,0,none⟩,dL,BE,dE⟩ Kk Es (aftK Kk i l l' true) (Es++evs l'.se ms.toList) (.t []) (.tuple #[]) ?_ (fun x'=>?_) h0 h1 | refine back ⟨((i,x'),(aftK Kk i l l' true,Es++evs l'.se ms.toList)),hnx⟩ (wkd ?_) ?_|refine fin_s ?_|refine fin_r ?_ ?_|refine fin_e ?_ ?_)
    ·exact fun w1 hH hc=>afterKR hc (by omega) (hob hH (A:=rwO msgE y.1.1.1 y.1.1.2.1 ms.toList.length y.1.1.2.2 ms.toList true) 5 rfl) rfl (by show Es.length+_≤10000; omega) hx l' true
    all_goals first | (show (aftK Kk i l l' true).L.length - i < Kk.L.length - i; omega)|skip
    all_goals (repeat' (first | exact trivial | rfl | ((conv=>whnf); refine And.intro ?_ ?_)))
   | false =>
    rw [if_neg (by decide)] at hnx hlL
    repeat' ((conv=>whnf); first | refine sgo ⟨tab_ok⟩ ?_|refine br_not ?_|refine br_t rfl ?_|refine br_f rfl ?_|refine br_t (by assumption) ?_|refine br_f (by assumption) ?_|refine br_t (decide_eq_true (by assumption)) ?_|refine br_f (decide_eq_false (by assumption)) ?_|refine br_t (beq_iff_eq.2 (by assumption)) ?_|refine br_f (beq_eq_false_iff_ne.2 (by assumption)) ?_|refine kpt ?_|refine br_t (decide_eq_true (by omega)) ?_|refine br_f (decide_eq_false (by omega)) ?_|refine wr_i ?_|refine callC (f:=59) ⟨xq,xg,⟨some ⟨gc,0,none⟩,d1,B2,d2⟩,BQ,dQ,some ⟨g,0,none⟩,dL,BE,dE⟩ Kk Es (aftK Kk i l l' false) (Es++evs l'.se ms.toList) (.t []) (.tuple #[]) ?_ (fun x'=>?_) h0 h1 | refine back ⟨((i+1,x'),(aftK Kk i l l' false,Es++evs l'.se ms.toList)),hnx⟩ (wkd ?_) ?_|refine fin_s ?_|refine fin_r ?_ ?_|refine fin_e ?_ ?_)
    ·exact fun w1 hH hc=>afterKR hc (by omega) (hob hH (A:=rwO msgE y.1.1.1 y.1.1.2.1 ms.toList.length y.1.1.2.2 ms.toList true) 5 rfl) rfl (by show Es.length+_≤10000; omega) hx l' false
    all_goals first | (show (aftK Kk i l l' false).L.length - (i+1) < Kk.L.length - i; omega)|skip
    all_goals (repeat' (first | exact trivial | rfl | ((conv=>whnf); refine And.intro ?_ ?_)))
 ·have hR:=HJ.end_ hlt
  have hKk:Kk=(foldK K K.L.length).1:=congrArg Prod.fst hR
  have hEk:Es=(foldK K K.L.length).2:=congrArg Prod.snd hR
  have hgr:grR Kk=(tickK K,grantE Kk):=by rw [hKk]; exact gr_tick hP (by omega) hC
  have htE:Es++grantE Kk=tickE K:=by rw [hKk,hEk]; unfold tickE; rfl
  have hkh:=hkk.kh hn (by omega) (by omega)
  have hc2:∀ (x2:XP) (w1:World),CO lo x2 Kk Es w1→Calls Tryz.prog 60 #[.pointer (some ⟨x2.q,0,none⟩)] w1 (CX lo x2 w1 (.tuple #[]) (tickK K) (tickE K)):=fun x2 w1 h=>by
   have:=grantKR h hkh.ll hkh.lq (by omega) (by omega) hkh.lw hkh.now hkh.oks hkh.okc (fun a ha=>⟨(hkh.okq a ha).1,by have:=(hkh.okq a ha).2; omega⟩)
   rw [hgr] at this
   rw [← htE]
   exact this
  refine sm_run ⟨tab_ok⟩ ?_
  repeat' ((conv=>whnf); first | refine sgo ⟨tab_ok⟩ ?_|refine br_not ?_|refine br_t rfl ?_|refine br_f rfl ?_|refine br_t (by assumption) ?_|refine br_f (by assumption) ?_|refine br_t (decide_eq_true (by assumption)) ?_|refine br_f (decide_eq_false (by assumption)) ?_|refine br_t (beq_iff_eq.2 (by assumption)) ?_|refine br_f (beq_eq_false_iff_ne.2 (by assumption)) ?_|refine kpt ?_|refine br_t (decide_eq_true (by omega)) ?_|refine br_f (decide_eq_false (by omega)) ?_|refine wr_i ?_|refine callC (f:=60) x Kk Es (tickK K) (tickE K) (.t []) (.tuple #[]) (fun w1 _ h=>hc2 _ w1 h) (fun x'=>?_) h0 h1 | refine fin fun w' hH=>?_|refine fin_s ?_|refine fin_r ?_ ?_|refine fin_e ?_ ?_)
  have o4:=hob hH (A:=waitsO w.heap.size AW (tickP K.G).2.2.length cW (tickP K.G).2.2 true) 4 rfl
  refine ⟨({ x' with q:=q,g:=g0 },AW,cW),⟨rfl,rfl⟩,rfl,co_of hH h0 h1,o4,hH.upd,FX_mem ((hH.wf 0 _ rfl rfl).2.2 rfl) ((hH.wf 1 _ rfl rfl).2.2 rfl) ?_ ?_ ?_ ?_ ?_,fun b hb=>⟨own_low o4 b hb,fun hF=>?_⟩⟩
  ·exact fun b h=>hH.own _ (List.mem_of_getElem? (i:=0) rfl) rfl b (List.mem_append_left _ h)
  ·exact fun b h=>hH.own _ (List.mem_of_getElem? (i:=0) rfl) rfl b (List.mem_append_right _ h)
  ·exact fun b h=>hH.own _ (List.mem_of_getElem? (i:=1) rfl) rfl b h
  ·exact fun b h=>hH.own _ (List.mem_of_getElem? (i:=2) rfl) rfl b h
  ·exact fun b h=>hH.own _ (List.mem_of_getElem? (i:=3) rfl) rfl b h
  ·refine FX_mem (P:=fun b=>b∉blkOf AW) (p:={ x' with q:=q,g:=g0 }) ?_ ?_ ?_ ?_ ?_ ?_ ?_ b hF hb
   ·exact hH.far (waitsO w.heap.size AW (tickP K.G).2.2.length cW (tickP K.G).2.2 true) (List.mem_of_getElem? (i:=4) rfl) 0 _ rfl rfl
   ·exact hH.far (waitsO w.heap.size AW (tickP K.G).2.2.length cW (tickP K.G).2.2 true) (List.mem_of_getElem? (i:=4) rfl) 1 _ rfl rfl
   ·exact fun b h=>pair_at (R:=DisR) (fun _ _ h=>h.symm) hH.dis (i:=0) (j:=4) rfl rfl (by decide) (.inl rfl) b (List.mem_append_left _ h)
   ·exact fun b h=>pair_at (R:=DisR) (fun _ _ h=>h.symm) hH.dis (i:=0) (j:=4) rfl rfl (by decide) (.inl rfl) b (List.mem_append_right _ h)
   ·exact fun b h=>pair_at (R:=DisR) (fun _ _ h=>h.symm) hH.dis (i:=1) (j:=4) rfl rfl (by decide) (.inl rfl) b h
   ·exact fun b h=>pair_at (R:=DisR) (fun _ _ h=>h.symm) hH.dis (i:=2) (j:=4) rfl rfl (by decide) (.inl rfl) b h
   ·exact fun b h=>pair_at (R:=DisR) (fun _ _ h=>h.symm) hH.dis (i:=3) (j:=4) rfl rfl (by decide) (.inl rfl) b h
end Rk
namespace Lc
open Go.RowKit Ba Mem En Go.Proofs.YtpiiblkiddcgcaaGreat.Ty Mo Go.Proofs.YtpiiblkiddcgcaaGreat.St Co
open Fl (leaE)
open Qu (askE)
set_option maxRecDepth 100000
attribute [local irreducible] Go.Calls
theorem two_rows {α:Type} {E:Ek α} {la lb ca cb n nt:Nat} {A B:Option Addr} {xs ys:List α} {w:World} (ha:E.At la A n ca xs w) (hb:E.At lb B n cb ys w):Hold ⟨Tryz.prog,tab,[],w,nt,[]⟩ [] [rwO E la A n ca xs false,rwO E lb B n cb ys false] w :=
 Hold.addObj (Hold.addObj (Hold.nil _ tab [] _ w) (rwO E la A n ca xs false) ha (by intro k; cases k) (by intro r hr; cases hr) (by intro A hA; cases hA)) (rwO E lb B n cb ys false) hb (by intro k; cases k) (by intro r hr; cases hr) (by intro G hG k; rcases List.mem_append.1 hG with hG | hG; cases hG; rw [List.mem_singleton] at hG; subst hG; rcases k with k | k <;> cases k)
set_option maxHeartbeats 4000000 in
theorem sameL {la lb ca cb:Nat} {A B:Option Addr} {ls:List LeaseV} {w:World} (hl:ls.length≤10000) (ha:leaE.At la A ls.length ca ls w) (hb:leaE.At lb B ls.length cb ls w):Calls Tryz.prog 62 #[.slice A ls.length ca,.slice B ls.length cb] w fun e w'=>e=.returned (.bool true)∧Since w w':=by
 obtain ⟨g,hg⟩:=Ek.addr ha
 obtain ⟨g2,hg2⟩:=Ek.addr hb
 refine entH tab_ok (two_rows ha hb) [.v (.slice A ls.length ca),.v (.slice B ls.length cb)] Tryz.func62 Tryz.ntmps62 rfl rfl ?_
 repeat' (first | refine gs_ ?_|((conv=>whnf); first | intro b | refine br_t (beq_self_eq_true _) ?_|refine fin_s ?_))
 conv=>whnf
 refine lp ⟨tab_ok⟩ (ι:={k:Nat // k≤ls.length}) (fun x=>match x with | ⟨k,_⟩=>⟨[(0,.v (.slice A ls.length ca)),(1,.v (.slice B ls.length cb)),(5,.i .i64 (k:Int))],[],[rwO leaE la A ls.length ca ls false,rwO leaE lb B ls.length cb ls false]⟩) (fun k=>ls.length - k.1) ⟨0,Nat.zero_le _⟩ (wk ?_) ?_
 ·repeat' (first | exact trivial | rfl | ((conv=>whnf); refine And.intro ?_ ?_))
 rintro ⟨k,hkl⟩
 by_cases hlt:k < ls.length
 ·obtain ⟨x,hx⟩:∃ x,ls[k]?=some x:=⟨_,List.getElem?_eq_getElem (by omega)⟩
  have hg:=hg (by omega)
  have hg2:=hg2 (by omega)
  subst hg hg2
  repeat' (first | refine gq_ ?_|((conv=>whnf); first | intro b | refine bto ?_|refine bfo ?_|refine wr_i ?_|refine drA ⟨tab_ok⟩ [3,7] ?_|refine And.intro ?_ ?_|refine opiv ⟨tab_ok⟩ (by rfl) (by rfl) (by rfl) (by rfl) (by rfl) (by rfl) ⟨by omega,by omega⟩ ?_|refine puiv ⟨tab_ok⟩ (by rfl) (by rfl) (by rfl) (by rfl) (by rfl) (by rfl) ⟨by omega,by omega⟩ ?_|refine opix (g:=g) (off:=0+k*10) [.i .i64 x.se,.i .i64 x.fl,.i .i64 x.fm,.i .i64 x.to,.i .i64 x.ma,.i .i64 x.ca,.i .i64 x.ph,.i .i64 x.un,.i .i64 x.re,.i .i64 x.gr] (fun w hH=>Ek.rng (Hold.ob hH (A:=rwO leaE la (some ⟨g,0,none⟩) ls.length ca ls false) 0 rfl) hx) ⟨tab_ok⟩ (by rfl) (by rfl) (by simp only [Go.WideShapes.add_plain]; rfl) ?_|refine opix (g:=g2) (off:=0+k*10) [.i .i64 x.se,.i .i64 x.fl,.i .i64 x.fm,.i .i64 x.to,.i .i64 x.ma,.i .i64 x.ca,.i .i64 x.ph,.i .i64 x.un,.i .i64 x.re,.i .i64 x.gr] (fun w hH=>Ek.rng (Hold.ob hH (A:=rwO leaE lb (some ⟨g2,0,none⟩) ls.length cb ls false) 1 rfl) hx) ⟨tab_ok⟩ (by rfl) (by rfl) (by simp only [Go.WideShapes.add_plain]; rfl) ?_|refine br_t (by simp only [beq_self_eq_true,Bool.and_self]) ?_|refine back ⟨k+1,by omega⟩ (wkd ?_) ?_|refine fin_s ?_))
  all_goals first | (show ls.length - (k+1) < ls.length - k; omega)|skip
  all_goals (repeat' (first | exact trivial | rfl | ((conv=>whnf); refine And.intro ?_ ?_)))
 ·repeat' (first | refine gs_ ?_|((conv=>whnf); first | intro b | refine bto ?_|refine bfo ?_|refine fin_s ?_))
  all_goals rfl
set_option maxHeartbeats 4000000 in
theorem sameA {la lb ca cb:Nat} {A B:Option Addr} {ls:List AskV} {w:World} (hl:ls.length≤10000) (ha:askE.At la A ls.length ca ls w) (hb:askE.At lb B ls.length cb ls w):Calls Tryz.prog 64 #[.slice A ls.length ca,.slice B ls.length cb] w fun e w'=>e=.returned (.bool true)∧Since w w':=by
 obtain ⟨g,hg⟩:=Ek.addr ha
 obtain ⟨g2,hg2⟩:=Ek.addr hb
 refine entH tab_ok (two_rows ha hb) [.v (.slice A ls.length ca),.v (.slice B ls.length cb)] Tryz.func64 Tryz.ntmps64 rfl rfl ?_
 repeat' (first | refine gs_ ?_|((conv=>whnf); first | intro b | refine br_t (beq_self_eq_true _) ?_|refine fin_s ?_))
 conv=>whnf
 refine lp ⟨tab_ok⟩ (ι:={k:Nat // k≤ls.length}) (fun x=>match x with | ⟨k,_⟩=>⟨[(0,.v (.slice A ls.length ca)),(1,.v (.slice B ls.length cb)),(5,.i .i64 (k:Int))],[],[rwO askE la A ls.length ca ls false,rwO askE lb B ls.length cb ls false]⟩) (fun k=>ls.length - k.1) ⟨0,Nat.zero_le _⟩ (wk ?_) ?_
 ·repeat' (first | exact trivial | rfl | ((conv=>whnf); refine And.intro ?_ ?_))
 rintro ⟨k,hkl⟩
 by_cases hlt:k < ls.length
 ·obtain ⟨x,hx⟩:∃ x,ls[k]?=some x:=⟨_,List.getElem?_eq_getElem (by omega)⟩
  have hg:=hg (by omega)
  have hg2:=hg2 (by omega)
  subst hg hg2
  repeat' (first | refine gq_ ?_|((conv=>whnf); first | intro b | refine bto ?_|refine bfo ?_|refine wr_i ?_|refine drA ⟨tab_ok⟩ [3,7] ?_|refine And.intro ?_ ?_|refine opiv ⟨tab_ok⟩ (by rfl) (by rfl) (by rfl) (by rfl) (by rfl) (by rfl) ⟨by omega,by omega⟩ ?_|refine puiv ⟨tab_ok⟩ (by rfl) (by rfl) (by rfl) (by rfl) (by rfl) (by rfl) ⟨by omega,by omega⟩ ?_|refine opix (g:=g) (off:=0+k*5) [.i .i64 x.se,.i .i64 x.fl,.i .i64 x.fm,.i .i64 x.to,.i .i64 x.ma] (fun w hH=>Ek.rng (Hold.ob hH (A:=rwO askE la (some ⟨g,0,none⟩) ls.length ca ls false) 0 rfl) hx) ⟨tab_ok⟩ (by rfl) (by rfl) (by simp only [Go.WideShapes.add_plain]; rfl) ?_|refine opix (g:=g2) (off:=0+k*5) [.i .i64 x.se,.i .i64 x.fl,.i .i64 x.fm,.i .i64 x.to,.i .i64 x.ma] (fun w hH=>Ek.rng (Hold.ob hH (A:=rwO askE lb (some ⟨g2,0,none⟩) ls.length cb ls false) 1 rfl) hx) ⟨tab_ok⟩ (by rfl) (by rfl) (by simp only [Go.WideShapes.add_plain]; rfl) ?_|refine br_t (by simp only [beq_self_eq_true,Bool.and_self]) ?_|refine back ⟨k+1,by omega⟩ (wkd ?_) ?_|refine fin_s ?_))
  all_goals first | (show ls.length - (k+1) < ls.length - k; omega)|skip
  all_goals (repeat' (first | exact trivial | rfl | ((conv=>whnf); refine And.intro ?_ ?_)))
 ·repeat' (first | refine gs_ ?_|((conv=>whnf); first | intro b | refine bto ?_|refine bfo ?_|refine fin_s ?_))
  all_goals rfl
end Lc
namespace Go16
open Go.RowKit Ba Mem
section
variable {H:Type} {enc:TypeId×Value→H} {w:World} {base:Nat} {spare:Nat→Bool} {held:Bool}
end
end Go16
namespace Rg
open Go.RowKit Ba Mem En
set_option maxRecDepth 100000
section
variable {H:Type} {enc:TypeId×Value→H} {w:World} {base:Nat} {spare:Nat→Bool} {held:Bool}
end
end Rg
namespace Rg
open Go.RowKit Ba Mem En Mo Go.Proofs.YtpiiblkiddcgcaaGreat.Ty Go.Proofs.YtpiiblkiddcgcaaGreat.St Gr
open Ct (cfgA carA mayB_iff)
open Et (carsO car_at)
set_option maxRecDepth 100000
attribute [local irreducible] Go.Calls Gr.hallR Gr.pressR Gr.loadR Gr.curtR Gr.faultR Gr.takeR Gr.aimR Gr.giveR
set_option maxHeartbeats 1000000
theorem two_w {la lb ca cb n nt:Nat} {A B:Option Addr} {xs ys:List WaitV} {w:World} (ha:WaitsAt la A n ca xs w) (hb:WaitsAt lb B n cb ys w):Hold ⟨Tryz.prog,tab,[],w,nt,[]⟩ [] [waitsO la A n ca xs false,waitsO lb B n cb ys false] w :=
 Hold.addObj (Hold.addObj (Hold.nil _ tab [] _ w) (waitsO la A n ca xs false) ha (by intro k; cases k) (by intro r hr; cases hr) (by intro A hA; cases hA)) (waitsO lb B n cb ys false) hb (by intro k; cases k) (by intro r hr; cases hr) (by intro G hG k; rcases List.mem_append.1 hG with hG | hG; cases hG; rw [List.mem_singleton] at hG; subst hG; rcases k with k | k <;> cases k)
end Rg
namespace Rk
open Go.RowKit Ba Mem En Go.Proofs.YtpiiblkiddcgcaaGreat.Ty Mo Go.Proofs.YtpiiblkiddcgcaaGreat.St Co
open Gr (WaitV WaitsAt waitsO waitL wait_at)
open Lc (two_rows)
set_option maxRecDepth 100000
attribute [local irreducible] Go.Calls
set_option maxHeartbeats 4000000 in
theorem sameE {la lb ca cb:Nat} {A B:Option Addr} {ls:List EvV} {w:World} (hl:ls.length≤10000) (ha:evE.At la A ls.length ca ls w) (hb:evE.At lb B ls.length cb ls w):Calls Tryz.prog 18 #[.slice A ls.length ca,.slice B ls.length cb] w fun e w'=>e=.returned (.bool true)∧Since w w':=by
 obtain ⟨g,hg⟩:=Ek.addr ha
 obtain ⟨g2,hg2⟩:=Ek.addr hb
 refine entH tab_ok (two_rows ha hb) [.v (.slice A ls.length ca),.v (.slice B ls.length cb)] Tryz.func18 Tryz.ntmps18 rfl rfl ?_
 repeat' (first | refine gs_ ?_|((conv=>whnf); first | intro b | refine br_t (beq_self_eq_true _) ?_|refine fin_s ?_))
 conv=>whnf
 refine lp ⟨tab_ok⟩ (ι:={k:Nat // k≤ls.length}) (fun x=>match x with | ⟨k,_⟩=>⟨[(0,.v (.slice A ls.length ca)),(1,.v (.slice B ls.length cb)),(5,.i .i64 (k:Int))],[],[rwO evE la A ls.length ca ls false,rwO evE lb B ls.length cb ls false]⟩) (fun k=>ls.length - k.1) ⟨0,Nat.zero_le _⟩ (wk ?_) ?_
 ·repeat' (first | exact trivial | rfl | ((conv=>whnf); refine And.intro ?_ ?_))
 rintro ⟨k,hkl⟩
 by_cases hlt:k < ls.length
 ·obtain ⟨x,hx⟩:∃ x,ls[k]?=some x:=⟨_,List.getElem?_eq_getElem (by omega)⟩
  have hg:=hg (by omega)
  have hg2:=hg2 (by omega)
  subst hg hg2
  repeat' (first | refine gq_ ?_|((conv=>whnf); first | intro b | refine bto ?_|refine bfo ?_|refine wr_i ?_|refine drA ⟨tab_ok⟩ [3,7] ?_|refine And.intro ?_ ?_|refine opiv ⟨tab_ok⟩ (by rfl) (by rfl) (by rfl) (by rfl) (by rfl) (by rfl) ⟨by omega,by omega⟩ ?_|refine puiv ⟨tab_ok⟩ (by rfl) (by rfl) (by rfl) (by rfl) (by rfl) (by rfl) ⟨by omega,by omega⟩ ?_|refine opix (g:=g) (off:=0+k*5) [.i .i64 x.s,.i .i64 x.m.ki,.i .i64 x.m.a,.i .i64 x.m.b,.i .i64 x.m.c] (fun w hH=>Ek.rng (hob hH (A:=rwO evE la (some ⟨g,0,none⟩) ls.length ca ls false) 0 rfl) hx) ⟨tab_ok⟩ (by rfl) (by rfl) (by simp only [Go.WideShapes.add_plain]; rfl) ?_|refine opix (g:=g2) (off:=0+k*5) [.i .i64 x.s,.i .i64 x.m.ki,.i .i64 x.m.a,.i .i64 x.m.b,.i .i64 x.m.c] (fun w hH=>Ek.rng (hob hH (A:=rwO evE lb (some ⟨g2,0,none⟩) ls.length cb ls false) 1 rfl) hx) ⟨tab_ok⟩ (by rfl) (by rfl) (by simp only [Go.WideShapes.add_plain]; rfl) ?_|refine br_t (by simp only [beq_self_eq_true,Bool.and_self]) ?_|refine back ⟨k+1,by omega⟩ (wkd ?_) ?_|refine fin_s ?_))
  all_goals first | (show ls.length - (k+1) < ls.length - k; omega)|skip
  all_goals (repeat' (first | exact trivial | rfl | ((conv=>whnf); refine And.intro ?_ ?_)))
 ·repeat' (first | refine gs_ ?_|((conv=>whnf); first | intro b | refine bto ?_|refine bfo ?_|refine fin_s ?_))
  all_goals rfl
set_option maxHeartbeats 4000000 in
theorem sameW21 {la lb ca cb:Nat} {A B:Option Addr} {ls:List WaitV} {w:World} (hl:ls.length≤10000) (ha:WaitsAt la A ls.length ca ls w) (hb:WaitsAt lb B ls.length cb ls w):Calls Tryz.prog 19 #[.slice A ls.length ca,.slice B ls.length cb] w fun e w'=>e=.returned (.bool true)∧Since w w':=by
 obtain ⟨g,hg⟩:∃ g,0 < ls.length→A=some ⟨g,0,none⟩:=by
  rcases own_at ha with ⟨_,h0,_⟩ | ⟨g,_,h1,_⟩
  ·exact ⟨0,fun k=>by omega⟩
  ·exact ⟨g,fun _=>h1⟩
 obtain ⟨g2,hg2⟩:∃ g,0 < ls.length→B=some ⟨g,0,none⟩:=by
  rcases own_at hb with ⟨_,h0,_⟩ | ⟨g,_,h1,_⟩
  ·exact ⟨0,fun k=>by omega⟩
  ·exact ⟨g,fun _=>h1⟩
 refine entH tab_ok (Rg.two_w ha hb) [.v (.slice A ls.length ca),.v (.slice B ls.length cb)] Tryz.func19 Tryz.ntmps19 rfl rfl ?_
 repeat' (first | refine gs_ ?_|((conv=>whnf); first | intro b | refine br_t (beq_self_eq_true _) ?_|refine fin_s ?_))
 conv=>whnf
 refine lp ⟨tab_ok⟩ (ι:={k:Nat // k≤ls.length}) (fun x=>match x with | ⟨k,_⟩=>⟨[(0,.v (.slice A ls.length ca)),(1,.v (.slice B ls.length cb)),(5,.i .i64 (k:Int))],[],[waitsO la A ls.length ca ls false,waitsO lb B ls.length cb ls false]⟩) (fun k=>ls.length - k.1) ⟨0,Nat.zero_le _⟩ (wk ?_) ?_
 ·repeat' (first | exact trivial | rfl | ((conv=>whnf); refine And.intro ?_ ?_))
 rintro ⟨k,hkl⟩
 by_cases hlt:k < ls.length
 ·obtain ⟨x,hx⟩:∃ x,ls[k]?=some x:=⟨_,List.getElem?_eq_getElem (by omega)⟩
  have hg:=hg (by omega)
  have hg2:=hg2 (by omega)
  subst hg hg2
  repeat' (first | refine gq_ ?_|((conv=>whnf); first | intro b | refine bto ?_|refine bfo ?_|refine wr_i ?_|refine drA ⟨tab_ok⟩ [3,7] ?_|refine And.intro ?_ ?_|refine opiv ⟨tab_ok⟩ (by rfl) (by rfl) (by rfl) (by rfl) (by rfl) (by rfl) ⟨by omega,by omega⟩ ?_|refine puiv ⟨tab_ok⟩ (by rfl) (by rfl) (by rfl) (by rfl) (by rfl) (by rfl) ⟨by omega,by omega⟩ ?_|refine opfv ⟨tab_ok⟩ (by rfl) (by rfl) (by rfl) (by rfl) ?_|refine pufv ⟨tab_ok⟩ (by rfl) (by rfl) (by rfl) (by rfl) ?_|refine opix (g:=g) (off:=0+k*4) [.i .i64 x.fl,.i .i64 x.wy,.i .i64 x.ca,.i .i64 x.si] (fun w hH=>wait_at (hob hH (A:=waitsO la (some ⟨g,0,none⟩) ls.length ca ls false) 0 rfl) hx) ⟨tab_ok⟩ (by rfl) (by rfl) (by simp only [Go.WideShapes.add_plain]; rfl) ?_|refine opix (g:=g2) (off:=0+k*4) [.i .i64 x.fl,.i .i64 x.wy,.i .i64 x.ca,.i .i64 x.si] (fun w hH=>wait_at (hob hH (A:=waitsO lb (some ⟨g2,0,none⟩) ls.length cb ls false) 1 rfl) hx) ⟨tab_ok⟩ (by rfl) (by rfl) (by simp only [Go.WideShapes.add_plain]; rfl) ?_|refine br_t (by simp only [beq_self_eq_true,Bool.and_self]) ?_|refine back ⟨k+1,by omega⟩ (wk ?_) ?_|refine fin_s ?_))
  all_goals first | (show ls.length - (k+1) < ls.length - k; omega)|skip
  all_goals (repeat' (first | exact trivial | rfl | ((conv=>whnf); refine And.intro ?_ ?_)))
 ·repeat' (first | refine gs_ ?_|((conv=>whnf); first | intro b | refine bto ?_|refine bfo ?_|refine fin_s ?_))
  all_goals rfl
end Rk
namespace Rk
open Go.RowKit Ba Mem En Go.Proofs.YtpiiblkiddcgcaaGreat.Ty Mo Go.Proofs.YtpiiblkiddcgcaaGreat.St Co
open Gr (GrV CarsAt WaitsAt carL waitL waitsO pairO grpA)
open Et (carsO car_at)
open Qu (askE)
open Fl (leaE)
open Lc (sameL sameA)
set_option maxRecDepth 100000
attribute [local irreducible] Go.Calls
theorem hold_km {lo q lo2 n:Nat} {p:Pt} {K:KV} {S:List Nat} {x:XP} {E:List EvV} {w:World} (hk:KW lo q p K S w) (hc:CO lo2 x K E w) (hd:∀ b∈S,b∉FX x):Hold ⟨Tryz.prog,tab,[],w,n,[]⟩ (xoM K E.length x false) (xoO lo2 K E x false++[kO lo q p K S false]) w:=by
 refine Hold.addObj (hold_cx (S:=[]) false (by simp) hc) (kO lo q p K S false) hk (by intro k; cases k) (fun r hr _ hm=>?_) (fun A hA k=>?_)
 ·simp only [List.mem_cons,List.not_mem_nil,or_false] at hr
  rcases hr with rfl | rfl
  ·exact hd _ hm (List.mem_cons_self ..)
  ·exact hd _ hm (List.mem_cons_of_mem _ (List.mem_cons_self ..))
 ·simp only [List.mem_cons,List.not_mem_nil,or_false] at hA
  rcases hA with rfl | rfl | rfl | rfl <;> (rcases k with k | k <;> cases k)
theorem waitsK {lo q:Nat} {p:Pt} {K:KV} {S:List Nat} {w:World} (h:KW lo q p K S w) (hl:K.G.waits.length≤10000):Calls Tryz.prog 35 #[.pointer (some ⟨p.g,0,none⟩)] w fun e w'=>∃ A' c',e=.returned (.slice A' K.G.waits.length c')∧WaitsAt w.heap.size A' K.G.waits.length c' K.G.waits w'∧Since w w':=by
 obtain ⟨S0,hk,hb⟩:=h.rd
 exact hb.waits hl
theorem carsK {lo q:Nat} {p:Pt} {K:KV} {S:List Nat} {w:World} (h:KW lo q p K S w) (hl:K.G.cars.length≤10000):Calls Tryz.prog 33 #[.pointer (some ⟨p.g,0,none⟩)] w fun e w'=>∃ A' c',e=.returned (.slice A' K.G.cars.length c')∧CarsAt w.heap.size A' K.G.cars.length c' K.G.cars w'∧Since w w':=by
 obtain ⟨S0,hk,hb⟩:=h.rd
 exact hb.cars hl
set_option maxHeartbeats 4000000 in
theorem alikeC {lo q lo2:Nat} {p:Pt} {K:KV} {S:List Nat} {x:XP} {E:List EvV} {w:World} (hk:KW lo q p K S w) (hc:CO lo2 x K E w) (hd:∀ b∈S,b∉FX x) (hl:K.G.waits.length≤10000) (hlc:K.G.cars.length≤10000) (hL:K.L.length≤10000) (hQ:K.Q.length≤10000):Calls Tryz.prog 20 #[.pointer (some ⟨q,0,none⟩),.pointer (some ⟨x.q,0,none⟩)] w fun e w'=>e=.returned (.bool true)∧Since w w':=by
 obtain ⟨xq,xg,⟨A1,c1,A2,c2⟩,AQ,cQ,AL,cL,AE,cE⟩:=x
 obtain ⟨g2,hg2⟩:∃ g,0 < K.G.cars.length→A1=some ⟨g,0,none⟩:=by
  rcases own_at hc.2.2.1.2.2.1 with ⟨_,h0,_⟩ | ⟨g,_,h1,_⟩
  ·exact ⟨0,fun k=>by omega⟩
  ·exact ⟨g,fun _=>h1⟩
 refine entH tab_ok (hold_km hk hc hd) [.v (.pointer (some ⟨q,0,none⟩)),.p 0 0] Tryz.func20 Tryz.ntmps20 rfl rfl ?_
 repeat' (first | refine gs_ ?_|((conv=>whnf); first | refine callH (f:=61) (.v (.pointer (some ⟨p.g,0,none⟩))) (fun w1 hH=>groupK (hob hH (A:=kO lo q p K S false) 4 rfl)) ?_|refine callN (f:=33) (ι:=NrA w.heap.size) (fun x=>.v (.slice x.1.2.1 K.G.cars.length x.1.2.2)) (fun x=>carsO x.1.1 x.1.2.1 K.G.cars.length x.1.2.2 K.G.cars true) (fun w1 hH=>toNC (carsK (hob hH (A:=kO lo q p K S false) 4 rfl) hlc) hH.upd.size) (fun x=>?_)|refine callN (f:=35) (ι:=NrA w.heap.size) (fun z=>.v (.slice z.1.2.1 K.G.waits.length z.1.2.2)) (fun z=>waitsO z.1.1 z.1.2.1 K.G.waits.length z.1.2.2 K.G.waits true) (fun w1 hH=>(waitsK (hob hH (A:=kO lo q p K S false) 4 rfl) hl).mono (by rintro e w' ⟨A',c',rfl,hO,hs⟩; exact ⟨⟨(w1.heap.size,A',c'),hH.upd.size⟩,rfl,hO,hs,own_low hO⟩)) (fun z=>?_)|refine callN (f:=63) (ι:=NrA w.heap.size) (fun y=>.v (.slice y.1.2.1 K.L.length y.1.2.2)) (fun y=>rwO leaE y.1.1 y.1.2.1 K.L.length y.1.2.2 K.L true) (fun w1 hH=>toN (leasesK (hob hH (A:=kO lo q p K S false) 4 rfl) hL) hH.upd.size) (fun y=>?_)|refine callN (f:=65) (ι:=NrA w.heap.size) (fun u=>.v (.slice u.1.2.1 K.Q.length u.1.2.2)) (fun u=>rwO askE u.1.1 u.1.2.1 K.Q.length u.1.2.2 K.Q true) (fun w1 hH=>toN (queueK (hob hH (A:=kO lo q p K S false) 4 rfl) hQ) hH.upd.size) (fun u=>?_)|refine callH (f:=19) (.b true) (fun w1 hH=>sameW21 hl (hob hH (A:=waitsO z.1.1 z.1.2.1 K.G.waits.length z.1.2.2 K.G.waits true) 6 rfl) (hob hH (A:=xo0 lo2 K ⟨xq,xg,⟨A1,c1,A2,c2⟩,AQ,cQ,AL,cL,AE,cE⟩ false) 0 rfl).2) ?_|refine callH (f:=62) (.b true) (fun w1 hH=>sameL hL (hob hH (A:=rwO leaE y.1.1 y.1.2.1 K.L.length y.1.2.2 K.L true) 7 rfl) (hob hH (A:=rwO leaE lo2 AL K.L.length cL K.L false) 2 rfl)) ?_|refine callH (f:=64) (.b true) (fun w1 hH=>sameA hQ (hob hH (A:=rwO askE u.1.1 u.1.2.1 K.Q.length u.1.2.2 K.Q true) 8 rfl) (hob hH (A:=rwO askE lo2 AQ K.Q.length cQ K.Q false) 1 rfl)) ?_|refine br_t (beq_self_eq_true _) ?_|refine And.intro ?_ ?_|refine fin_s ?_))
 conv=>whnf
 obtain ⟨⟨la,A,ca⟩,hla⟩:=x
 refine sm_know (p:=∃ g,0 < K.G.cars.length→A=some ⟨g,0,none⟩) (fun w1 hH=>by
  rcases own_at (hob hH (A:=carsO la A K.G.cars.length ca K.G.cars true) 5 rfl) with ⟨_,h0,_⟩ | ⟨g,_,h1,_⟩
  ·exact ⟨0,fun k=>by omega⟩
  ·exact ⟨g,fun _=>h1⟩) (fun hA=>?_)
 obtain ⟨g,hg1⟩:=hA
 refine lp ⟨tab_ok⟩ (ι:={k:Nat // k≤K.G.cars.length}) (fun v=>match v with | ⟨k,_⟩=>⟨[(1,.p 0 0),(5,.v (.slice A K.G.cars.length ca)),(6,.i .i64 (k:Int))],xoM K E.length ⟨xq,xg,⟨A1,c1,A2,c2⟩,AQ,cQ,AL,cL,AE,cE⟩ false,xoO lo2 K E ⟨xq,xg,⟨A1,c1,A2,c2⟩,AQ,cQ,AL,cL,AE,cE⟩ false++[kO lo q p K S false,carsO la A K.G.cars.length ca K.G.cars true]⟩) (fun v=>K.G.cars.length - v.1) ⟨0,Nat.zero_le _⟩ (wkd ?_) ?_
 ·repeat' (first | exact trivial | rfl | ((conv=>whnf); refine And.intro ?_ ?_))
 rintro ⟨k,hkl⟩
 by_cases hlt:k < K.G.cars.length
 ·obtain ⟨x,hx⟩:∃ x,K.G.cars[k]?=some x:=⟨_,List.getElem?_eq_getElem (by omega)⟩
  have hg1:=hg1 (by omega)
  have hg2:=hg2 (by omega)
  subst hg1 hg2
  repeat' (first | refine gq_ ?_|((conv=>whnf); first | intro b | refine bto ?_|refine bfo ?_|refine wr_i ?_|refine drA ⟨tab_ok⟩ [3,13] ?_|refine And.intro ?_ ?_|refine opiv ⟨tab_ok⟩ (by rfl) (by rfl) (by rfl) (by rfl) (by rfl) (by rfl) ⟨by omega,by omega⟩ ?_|refine puiv ⟨tab_ok⟩ (by rfl) (by rfl) (by rfl) (by rfl) (by rfl) (by rfl) ⟨by omega,by omega⟩ ?_|refine opfv ⟨tab_ok⟩ (by rfl) (by rfl) (by rfl) (by rfl) ?_|refine pufv ⟨tab_ok⟩ (by rfl) (by rfl) (by rfl) (by rfl) ?_|refine opix (g:=g) (off:=0+k*15) (sCar x) (fun w hH=>car_at (hob hH (A:=carsO la (some ⟨g,0,none⟩) K.G.cars.length ca K.G.cars true) 5 rfl) hx) ⟨tab_ok⟩ (by rfl) (by rfl) (by simp only [Go.WideShapes.add_plain]; rfl) ?_|refine opix (g:=g2) (off:=0+k*15) (sCar x) (fun w hH=>car_at (hob hH (A:=xo0 lo2 K ⟨xq,xg,⟨some ⟨g2,0,none⟩,c1,A2,c2⟩,AQ,cQ,AL,cL,AE,cE⟩ false) 0 rfl).1 hx) ⟨tab_ok⟩ (by rfl) (by rfl) (by simp only [Go.WideShapes.add_plain]; rfl) ?_|refine br_t (by simp only [beq_self_eq_true,Bool.and_self]) ?_|refine back ⟨k+1,by omega⟩ (wk ?_) ?_|refine fin_s ?_))
  all_goals first | (show K.G.cars.length - (k+1) < K.G.cars.length - k; omega)|skip
  all_goals (repeat' (first | exact trivial | rfl | ((conv=>whnf); refine And.intro ?_ ?_)))
 ·repeat' (first | refine gs_ ?_|((conv=>whnf); first | intro b | refine bto ?_|refine bfo ?_|refine fin_s ?_))
  all_goals rfl
end Rk
namespace Rk
open Go.RowKit Ba Mem En Go.Proofs.YtpiiblkiddcgcaaGreat.Ty Mo Go.Proofs.YtpiiblkiddcgcaaGreat.St Co
open Gr (GrV WaitV CarsAt WaitsAt carL waitL waitsO pairO grpA doR one one_in one_out)
open Et (carsO car_at)
open Rg (RO RP FP hallGR pressGR faultGR carE)
open Ri (MsgV msgC)
open Qu (askE)
open Le (hasL ofL goodB)
open Fl (leaE)
open Lc (KopV kopC doR_w)
set_option maxRecDepth 100000
theorem CZ.parts {lo:Nat} {p:XP} {w w':World} {F:XP→Value} {K:KV} {E:List EvV} {e:Ending} (h:CZ lo p w F K E e w') (A0 A1 A2 A3:Asr) (hA:[A0,A1,A2,A3].flatMap Asr.F=(blkOf p.P.A1++blkOf p.P.A2)++(blkOf p.AQ++(blkOf p.AL++(blkOf p.AE++[])))):∃ x:XP,e=.returned (F x)∧Blk w' p.q 98 (xcA K E.length { x with g:=p.g })∧Blk w' p.g 72 (grpA K.G (.slice x.P.A1 K.G.cars.length x.P.c1) (.slice x.P.A2 K.G.waits.length x.P.c2))∧(∀ B∈xoO lo K E x true,B.st w')∧Upd (p.q::p.g::([A0,A1,A2,A3].flatMap Asr.F)) w w'∧(∀ B∈xoO lo K E x true,∀ g∈B.F,g∈[A0,A1,A2,A3].flatMap Asr.F∨w.heap.size≤g)∧(xoO lo K E x true).Pairwise (fun A B=>∀ g∈A.F,g∉B.F):=by
 obtain ⟨x,⟨hq,hg⟩,h1,h2,h3,h4⟩:=h
 have ho:=h2.out true
 rw [hA]
 refine ⟨x,h1,by rw [← hq,← hg]; exact h2.2.1,by rw [← hg]; exact h2.2.2.1.2.1,fun B hB=>(ho B hB).1,h3,fun B hB g hgB=>?_,h2.dis true⟩
 rcases h4 g ((ho B hB).2.2.2 g hgB) with h | h
 ·rcases List.mem_cons.1 h with rfl | h
  ·rw [← hq] at hgB; exact absurd hgB (ho B hB).2.1
  rcases List.mem_cons.1 h with rfl | h
  ·rw [← hg] at hgB; exact absurd hgB (ho B hB).2.2.1
  ·exact .inl h
 ·exact .inr h
theorem callZ {X:Cx} {s:St} {f:FuncId} {vs:List SV} {Kc:SV→St→Prop} {mr:List Row} {obr:List Asr} {lo q g0:Nat} (x:XP) (K:KV) (E:List EvV) (K':KV) (E':List EvV) (v:XP→SV) (F:XP→Value)
  (hs:∀ w,Hold X s.m s.ob w→CO lo { x with q:=q,g:=g0 } K E w→Calls X.P f (denL s.m vs).toArray w (CZ lo { x with q:=q,g:=g0 } w F K' E'))
  (h:∀ x':XP,Kc (v x') ⟨s.fr,⟨q,98,true,0,[],xcL K' E'.length x',[],true⟩::⟨g0,72,true,0,[],grS K' x',[],true⟩::mr,xo0 lo K' x' true::rwO askE lo x'.AQ K'.Q.length x'.cQ K'.Q true::rwO leaE lo x'.AL K'.L.length x'.cL K'.L true::rwO evE lo x'.AE E'.length x'.cE E' true::obr⟩)
  (hq:lo≤q) (hg:lo≤g0) (hm:s.m=⟨q,98,true,0,[],xcL K E.length x,[],true⟩::⟨g0,72,true,0,[],grS K x,[],true⟩::mr:=by rfl) (hob:s.ob=xo0 lo K x true::rwO askE lo x.AQ K.Q.length x.cQ K.Q true::rwO leaE lo x.AL K.L.length x.cL K.L true::rwO evE lo x.AE E.length x.cE E true::obr:=by rfl)
  (hV:∀ x',den s.m (v x')=F x':=by intro x'; rfl) (he:entChk X.P f=true:=by kernel_rfl) (hv:∀ x',okV s.m.length (v x')=true:=by intro x'; rfl):CallVC X f vs s Kc:=by
 have hlen:2≤s.m.length:=by rw [hm]; simp
 refine callG (ι:=XP) v (fun x'=>xcL K' E'.length x') (fun x'=>grS K' x') (fun x'=>xo0 lo K' x' true) (fun x'=>rwO askE lo x'.AQ K'.Q.length x'.cQ K'.Q true) (fun x'=>rwO leaE lo x'.AL K'.L.length x'.cL K'.L true) (fun x'=>rwO evE lo x'.AE E'.length x'.cE E' true) ?_ h hm hob (by rfl) (by rfl) he (fun x'=>?_)
 ·intro w hH
  have hH2:=hH
  rw [hm,hob] at hH2
  have hc:=co_of (X:=X) hH2 hq hg
  refine (hs w hH hc).mono (fun e w' h=>?_)
  obtain ⟨x',h1,h2,h3,h4,h5,h6,h7⟩:=h.parts (xo0 lo K x true) (rwO askE lo x.AQ K.Q.length x.cQ K.Q true) (rwO leaE lo x.AL K.L.length x.cL K.L true) (rwO evE lo x.AE E.length x.cE E true) rfl
  refine ⟨x',by rw [h1,hV], ?_, ?_,h4,h5,h6,h7⟩
  ·rw [hm]; exact h2
  ·rw [hm]; exact h3
 ·rw [Bool.and_eq_true,Bool.and_eq_true]
  refine ⟨⟨hv x', ?_⟩, ?_⟩
  ·rw [hm]; rfl
  ·rw [hm]; rfl
def MP (lo:Nat) (p:XP) (K:KV) (es:List EvV) (w:World) (e:Ending) (w':World):Prop:=∃ (p':XP) (E:List EvV) (l:Nat) (A:Option Addr) (c:Nat),(p'.q=p.q∧p'.g=p.g)∧e=.returned (.slice A es.length c)∧CO lo p' K E w'∧evE.At l A es.length c es w'∧(∀ g∈blkOf A,g∈FX p∨w.heap.size≤g)∧Upd (FX p) w w'∧∀ g∈FX p',g∈FX p∨w.heap.size≤g
theorem fin_mp {lo n l0 l1 l2 l3:Nat} (i j k l:Nat) (A:Option Addr) (c:Nat) {p p':XP} {K:KV} {E es:List EvV} {w:World} {v:SV} {cs0 cs1:List SV} {st:St}
  (hr0:st.m[0]?=some ⟨p.q,98,true,0,[],cs0,[],true⟩) (hr1:st.m[1]?=some ⟨p.g,72,true,0,[],cs1,[],true⟩)
  (h0:st.ob[0]?=some (xo0 l0 K p' true)) (h1:st.ob[i]?=some (rwO askE l1 p'.AQ K.Q.length p'.cQ K.Q true)) (h2:st.ob[j]?=some (rwO leaE l2 p'.AL K.L.length p'.cL K.L true)) (h3:st.ob[k]?=some (rwO evE l3 p'.AE E.length p'.cE E true))
  (hA:∀ w',Hold ⟨Tryz.prog,tab,FX p,w,n,[]⟩ st.m st.ob w'→evE.At l A es.length c es w'∧∀ g∈blkOf A,g∈FX p∨w.heap.size≤g)
  (hq:p'.q=p.q) (hg:p'.g=p.g) (hv:den st.m v=.slice A es.length c) (hlq:lo≤p.q) (hlg:lo≤p.g) (b0:lo≤l0) (b1:lo≤l1) (b2:lo≤l2) (b3:lo≤l3) (hc0:(denL st.m cs0).toArray=xcA K E.length p') (hc1:(denL st.m cs1).toArray=grpA K.G (.slice p'.P.A1 K.G.cars.length p'.P.c1) (.slice p'.P.A2 K.G.waits.length p'.P.c2)) :
  Fin ⟨Tryz.prog,tab,FX p,w,n,[]⟩ (MP lo p K es w) v st:=by
 refine fin fun w' hH=>?_
 have o0:=hob hH 0 h0; have o1:=hob hH i h1; have o2:=hob hH j h2; have o3:=hob hH k h3
 have r0:=hH.row 0 _ hr0 rfl
 have r1:=hH.row 1 _ hr1 rfl
 rw [rowA_nil rfl rfl,hc0] at r0
 rw [rowA_nil rfl rfl,hc1] at r1
 refine ⟨p',E,l,A,c,⟨hq,hg⟩,by rw [hv],⟨by rw [hq]; exact hlq,by rw [hq]; exact r0,⟨by rw [hg]; exact hlg,by rw [hg]; exact r1,own_base o0.1 b0,own_base o0.2 b0⟩,Ek.base o1 b1,Ek.base o2 b2,Ek.base o3 b3⟩,(hA w' hH).1,(hA w' hH).2,hH.upd,FX_mem ?_ ?_ ?_ ?_ ?_ ?_ ?_⟩
 ·rw [hq]; exact (hH.wf 0 _ hr0 rfl).2.2 rfl
 ·rw [hg]; exact (hH.wf 1 _ hr1 rfl).2.2 rfl
 ·exact fun g h=>hH.own _ (List.mem_of_getElem? h0) rfl g (List.mem_append_left _ h)
 ·exact fun g h=>hH.own _ (List.mem_of_getElem? h0) rfl g (List.mem_append_right _ h)
 ·exact fun g h=>hH.own _ (List.mem_of_getElem? h1) rfl g h
 ·exact fun g h=>hH.own _ (List.mem_of_getElem? h2) rfl g h
 ·exact fun g h=>hH.own _ (List.mem_of_getElem? h3) rfl g h
theorem no_ev {S:List Nat} {k:Nat} {w:World}:evE.At 0 none ([]:List EvV).length 0 [] w∧∀ g∈blkOf none,g∈S∨k≤g:=⟨Ek.nil _ _ _,by intro g hg; cases hg⟩
attribute [local irreducible] Go.Calls ansK ansM hearK hearM Co.goneK doR evs Gr.hallR Gr.pressR Gr.loadR Gr.curtR Gr.faultR
set_option maxHeartbeats 1000000
theorem model1 {lo:Nat} {p:XP} {K:KV} {E:List EvV} {w:World} (hg:CO lo p K E w) (hl:K.L.length≤10000) (hq:K.Q.length≤1000) (a b:Int) (A:AskV) (m:MsgV):Calls Tryz.prog 22 #[.pointer (some ⟨p.q,0,none⟩),.agg (kopC ⟨1,a,b,A,m⟩).toArray] w (MP lo p (ansK K A) (evs A.se [ansM K A]) w):=by
 have h0:=hg.1
 have h1:=hg.2.2.1.1
 obtain ⟨q,g0,P,AQ,cQ,AL,cL,AE,cE⟩:=p
 have hc:∀ w1,CO lo ⟨q,g0,P,AQ,cQ,AL,cL,AE,cE⟩ K E w1→Calls Tryz.prog 70 #[.pointer (some ⟨q,0,none⟩),.agg #[.int .i64 A.se,.int .i64 A.fl,.int .i64 A.fm,.int .i64 A.to,.int .i64 A.ma]] w1 (CZ lo ⟨q,g0,P,AQ,cQ,AL,cL,AE,cE⟩ w1 (outF 1) (ansK K A) (evs A.se [ansM K A])):=fun w1 h=>by
  have:=askKR h hl hq A
  rw [(ask_same K A).1,(ask_same K A).2] at this
  unfold ansK evs; exact this
 have he:(evs A.se [ansM K A]).length=1:=Lc.evs_len _ _
 refine entH tab_ok (hold_cx true (fun _ g h=>h) hg) [.p 0 0,.a [.i .i64 1,.i .i64 a,.i .i64 b,.i .i64 A.se,.i .i64 A.fl,.i .i64 A.fm,.i .i64 A.to,.i .i64 A.ma,.i .i64 m.ki,.i .i64 m.a,.i .i64 m.b,.i .i64 m.c]] Tryz.func22 Tryz.ntmps22 rfl rfl ?_
 repeat' ((conv=>whnf); first | refine sgo ⟨tab_ok⟩ ?_|refine br_not ?_|refine br_t rfl ?_|refine br_f rfl ?_|refine br_t (by assumption) ?_|refine br_f (by assumption) ?_|refine br_t (decide_eq_true (by assumption)) ?_|refine br_f (decide_eq_false (by assumption)) ?_|refine br_t (beq_iff_eq.2 (by assumption)) ?_|refine br_f (beq_eq_false_iff_ne.2 (by assumption)) ?_|intro b1 | refine drA ⟨tab_ok⟩ [] ?_|refine kpt ?_|refine callZ (f:=70) ⟨q,g0,P,AQ,cQ,AL,cL,AE,cE⟩ K E (ansK K A) (evs A.se [ansM K A]) (fun x'=>.v (.slice x'.AE 1 x'.cE)) (outF 1) (fun w1 _ h=>hc w1 h) (fun x'=>?_) h0 h1 | refine fin_mp 1 2 3 lo x'.AE x'.cE (p:=⟨q,g0,P,AQ,cQ,AL,cL,AE,cE⟩) (p':={ x' with q:=q,g:=g0 }) (by rfl) (by rfl) (by rfl) (by rfl) (by rfl) (by rfl) (fun w' hH=>⟨hob hH 3 rfl,fun g hg=>hH.own _ (List.mem_of_getElem? (i:=3) rfl) rfl g hg⟩) rfl rfl (by rw [he]; rfl) h0 h1 (Nat.le_refl _) (Nat.le_refl _) (Nat.le_refl _) (Nat.le_refl _) (by rfl) (by rfl)|refine b3_ (fun h=>?_) (fun h=>?_)|refine fin_s ?_|refine fin_r ?_ ?_|refine fin_e ?_ ?_)
theorem model2 {lo:Nat} {p:XP} {K:KV} {E:List EvV} {w:World} (hg:CO lo p K E w) (hl:K.L.length≤10000) (hlc:K.G.cars.length≤10000) (hin:∀ l∈K.L,inC K l)  (hgd:∀ (s:Int) (m:MsgV),hasL K.L s=true→goodB K.G.c (hearR K (ofL K.L s) m).1=true) (a b:Int) (A:AskV) (m:MsgV):Calls Tryz.prog 22 #[.pointer (some ⟨p.q,0,none⟩),.agg (kopC ⟨2,a,b,A,m⟩).toArray] w (MP lo p (hearK K A.se m) (evs A.se (hearM K A.se m)) w):=by
 have h0:=hg.1
 have h1:=hg.2.2.1.1
 obtain ⟨q,g0,P,AQ,cQ,AL,cL,AE,cE⟩:=p
 have hc:∀ w1,CO lo ⟨q,g0,P,AQ,cQ,AL,cL,AE,cE⟩ K E w1→Calls Tryz.prog 71 #[.pointer (some ⟨q,0,none⟩),.int .i64 A.se,.agg (msgC m)] w1 (CZ lo ⟨q,g0,P,AQ,cQ,AL,cL,AE,cE⟩ w1 (outF (evs A.se (hearM K A.se m)).length) (hearK K A.se m) (evs A.se (hearM K A.se m))):=fun w1 h=>by
  have:=hearCR h hl hlc A.se m hin
  rw [hear_same (hgd A.se m)] at this
  exact this
 refine entH tab_ok (hold_cx true (fun _ g h=>h) hg) [.p 0 0,.a [.i .i64 2,.i .i64 a,.i .i64 b,.i .i64 A.se,.i .i64 A.fl,.i .i64 A.fm,.i .i64 A.to,.i .i64 A.ma,.i .i64 m.ki,.i .i64 m.a,.i .i64 m.b,.i .i64 m.c]] Tryz.func22 Tryz.ntmps22 rfl rfl ?_
 repeat' ((conv=>whnf); first | refine sgo ⟨tab_ok⟩ ?_|refine br_not ?_|refine br_t rfl ?_|refine br_f rfl ?_|refine br_t (by assumption) ?_|refine br_f (by assumption) ?_|refine br_t (decide_eq_true (by assumption)) ?_|refine br_f (decide_eq_false (by assumption)) ?_|refine br_t (beq_iff_eq.2 (by assumption)) ?_|refine br_f (beq_eq_false_iff_ne.2 (by assumption)) ?_|intro b1 | refine drA ⟨tab_ok⟩ [] ?_|refine kpt ?_|refine callZ (f:=71) ⟨q,g0,P,AQ,cQ,AL,cL,AE,cE⟩ K E (hearK K A.se m) (evs A.se (hearM K A.se m)) (fun x'=>.v (.slice x'.AE (evs A.se (hearM K A.se m)).length x'.cE)) (outF (evs A.se (hearM K A.se m)).length) (fun w1 _ h=>hc w1 h) (fun x'=>?_) h0 h1 | refine fin_mp 1 2 3 lo x'.AE x'.cE (p:=⟨q,g0,P,AQ,cQ,AL,cL,AE,cE⟩) (p':={ x' with q:=q,g:=g0 }) (by rfl) (by rfl) (by rfl) (by rfl) (by rfl) (by rfl) (fun w' hH=>⟨hob hH 3 rfl,fun g hg=>hH.own _ (List.mem_of_getElem? (i:=3) rfl) rfl g hg⟩) rfl rfl (by rfl) h0 h1 (Nat.le_refl _) (Nat.le_refl _) (Nat.le_refl _) (Nat.le_refl _) (by rfl) (by rfl)|refine b3_ (fun h=>?_) (fun h=>?_)|refine fin_s ?_|refine fin_r ?_ ?_|refine fin_e ?_ ?_)
theorem model3 {lo:Nat} {p:XP} {K:KV} {E:List EvV} {w:World} (hg:CO lo p K E w) (hl:K.L.length≤10000) (hq:K.Q.length≤1000) (a b:Int) (A:AskV) (m:MsgV):Calls Tryz.prog 22 #[.pointer (some ⟨p.q,0,none⟩),.agg (kopC ⟨3,a,b,A,m⟩).toArray] w (MP lo p (Co.goneK K A.se) [] w):=by
 have h0:=hg.1
 have h1:=hg.2.2.1.1
 obtain ⟨q,g0,P,AQ,cQ,AL,cL,AE,cE⟩:=p
 refine entH tab_ok (hold_cx true (fun _ g h=>h) hg) [.p 0 0,.a [.i .i64 3,.i .i64 a,.i .i64 b,.i .i64 A.se,.i .i64 A.fl,.i .i64 A.fm,.i .i64 A.to,.i .i64 A.ma,.i .i64 m.ki,.i .i64 m.a,.i .i64 m.b,.i .i64 m.c]] Tryz.func22 Tryz.ntmps22 rfl rfl ?_
 repeat' ((conv=>whnf); first | refine sgo ⟨tab_ok⟩ ?_|refine br_not ?_|refine br_t rfl ?_|refine br_f rfl ?_|refine br_t (by assumption) ?_|refine br_f (by assumption) ?_|refine br_t (decide_eq_true (by assumption)) ?_|refine br_f (decide_eq_false (by assumption)) ?_|refine br_t (beq_iff_eq.2 (by assumption)) ?_|refine br_f (beq_eq_false_iff_ne.2 (by assumption)) ?_|intro b1 | refine drA ⟨tab_ok⟩ [] ?_|refine kpt ?_|refine callC (f:=72) ⟨q,g0,P,AQ,cQ,AL,cL,AE,cE⟩ K E (Co.goneK K A.se) E (.t []) (.tuple #[]) (fun w1 _ h=>goneKR h hl hq A.se) (fun x'=>?_) h0 h1 | refine fin_mp 1 2 3 0 none 0 (p:=⟨q,g0,P,AQ,cQ,AL,cL,AE,cE⟩) (p':={ x' with q:=q,g:=g0 }) (by rfl) (by rfl) (by rfl) (by rfl) (by rfl) (by rfl) (fun w' hH=>no_ev) rfl rfl (by rfl) h0 h1 (Nat.le_refl _) (Nat.le_refl _) (Nat.le_refl _) (Nat.le_refl _) (by rfl) (by rfl)|refine b3_ (fun h=>?_) (fun h=>?_)|refine fin_s ?_|refine fin_r ?_ ?_|refine fin_e ?_ ?_)
theorem model4 {lo:Nat} {p:XP} {K:KV} {E:List EvV} {w:World} (hg:CO lo p K E w) (hw:K.G.waits.length≤10000) (a b:Int) (A:AskV) (m:MsgV):Calls Tryz.prog 22 #[.pointer (some ⟨p.q,0,none⟩),.agg (kopC ⟨4,a,b,A,m⟩).toArray] w (MP lo p { K with G:=(doR K.G 1 a b (b == 1)).1 } [] w):=by
 have h0:=hg.1
 have h1:=hg.2.2.1.1
 obtain ⟨q,g0,P,AQ,cQ,AL,cL,AE,cE⟩:=p
 have hcc:(doR K.G 1 a b (b == 1)).1.c=K.G.c:=(doR_w K.G 1 a b (b == 1) (by decide)).2.1
 obtain ⟨Q,hQ⟩:∃ Q,Q=Gr.hallR K.G a b:=⟨_,rfl⟩
 have hD:doR K.G 1 a b (b == 1)=Q:=by rw [hQ]; unfold doR; rfl
 rw [hD] at hcc ⊢
 have hc:∀ w1:World,Blk w1 g0 72 (grpA K.G (.slice P.A1 K.G.cars.length P.c1) (.slice P.A2 K.G.waits.length P.c2))→(xo0 lo K ⟨q,g0,P,AQ,cQ,AL,cL,AE,cE⟩ true).st w1→Calls Tryz.prog 44 #[.pointer (some ⟨g0,0,none⟩),.int .i64 a,.int .i64 b] w1 (Rg.RX lo g0 P w1 (.int .i64 Q.2) Q.1):=fun w1 hB hA=>by
  rw [hQ]; exact hallGR ⟨h1,hB,hA.1,hA.2⟩ hw a b
 refine entH tab_ok (hold_cx true (fun _ g h=>h) hg) [.p 0 0,.a [.i .i64 4,.i .i64 a,.i .i64 b,.i .i64 A.se,.i .i64 A.fl,.i .i64 A.fm,.i .i64 A.to,.i .i64 A.ma,.i .i64 m.ki,.i .i64 m.a,.i .i64 m.b,.i .i64 m.c]] Tryz.func22 Tryz.ntmps22 rfl rfl ?_
 repeat' ((conv=>whnf); first | refine sgo ⟨tab_ok⟩ ?_|refine br_not ?_|refine br_t rfl ?_|refine br_f rfl ?_|refine br_t (by assumption) ?_|refine br_f (by assumption) ?_|refine br_t (decide_eq_true (by assumption)) ?_|refine br_f (decide_eq_false (by assumption)) ?_|refine br_t (beq_iff_eq.2 (by assumption)) ?_|refine br_f (beq_eq_false_iff_ne.2 (by assumption)) ?_|intro b1 | refine drW (id:=10) ⟨tab_ok⟩ [] [(8,1)] ?_|refine drA ⟨tab_ok⟩ [] ?_|refine kpt ?_|refine And.intro ?_ ?_|refine callRO (f:=44) 1 0 (A:=xo0 lo K ⟨q,g0,P,AQ,cQ,AL,cL,AE,cE⟩ true) (ι:=RP) (fun _=>.i .i64 Q.2) (fun P'=>[.i .i64 Q.1.c.ca,.i .i64 Q.1.c.fl,.i .i64 Q.1.c.ft,.i .i64 Q.1.c.se,.i .i64 Q.1.c.dr,.i .i64 Q.1.c.dw,.i .i64 Q.1.c.ho,.i .i64 Q.1.c.re,.i .i64 Q.1.c.yi,.i .i64 Q.1.c.qu,.i .i64 Q.1.c.qo,.i .i64 Q.1.c.lo,.i .i64 Q.1.c.sl,.i .i64 Q.1.c.rt,.i .i64 Q.1.c.cp,.i .i64 Q.1.c.tr,.i .i64 Q.1.c.de,.i .i64 Q.1.c.wi,.v (.slice P'.A1 Q.1.cars.length P'.c1),.v (.slice P'.A2 Q.1.waits.length P'.c2),.i .i64 Q.1.now]) (fun P'=>pairO (carsO lo P'.A1 Q.1.cars.length P'.c1 Q.1.cars true) (waitsO lo P'.A2 Q.1.waits.length P'.c2 Q.1.waits true)) (fun w1 hH hB hA hne=>?_) (fun P'=>?_)|refine fin_mp 1 2 3 0 none 0 (p:=⟨q,g0,P,AQ,cQ,AL,cL,AE,cE⟩) (p':=⟨q,g0,P',AQ,cQ,AL,cL,AE,cE⟩) (by rfl) (by rfl) (by rfl) (by rfl) (by rfl) (by rfl) (fun w' hH=>no_ev) rfl rfl (by rfl) h0 h1 (Nat.le_refl _) (Nat.le_refl _) (Nat.le_refl _) (Nat.le_refl _) (by simp only [xcA,hcc]; rfl) (by rfl)|refine b3_ (fun h=>?_) (fun h=>?_)|refine fin_s ?_|refine fin_r ?_ ?_|refine fin_e ?_ ?_)
 all_goals (refine (hc w1 hB hA).mono (fun e w' h=>?_); exact h.parts)
theorem model5 {lo:Nat} {p:XP} {K:KV} {E:List EvV} {w:World} (hg:CO lo p K E w) (hmo:∀ x∈K.G.cars,x.mo=0∨x.mo=1) (a b:Int) (A:AskV) (m:MsgV):Calls Tryz.prog 22 #[.pointer (some ⟨p.q,0,none⟩),.agg (kopC ⟨5,a,b,A,m⟩).toArray] w (MP lo p { K with G:=(doR K.G 2 a b (b == 1)).1 } [] w):=by
 have h0:=hg.1
 have h1:=hg.2.2.1.1
 obtain ⟨q,g0,P,AQ,cQ,AL,cL,AE,cE⟩:=p
 have hcc:(doR K.G 2 a b (b == 1)).1.c=K.G.c:=(doR_w K.G 2 a b (b == 1) (by decide)).2.1
 obtain ⟨Q,hQ⟩:∃ Q,Q=Gr.pressR K.G a b:=⟨_,rfl⟩
 have hD:doR K.G 2 a b (b == 1)=Q:=by rw [hQ]; unfold doR; rfl
 rw [hD] at hcc ⊢
 have hc:∀ w1:World,Blk w1 g0 72 (grpA K.G (.slice P.A1 K.G.cars.length P.c1) (.slice P.A2 K.G.waits.length P.c2))→(xo0 lo K ⟨q,g0,P,AQ,cQ,AL,cL,AE,cE⟩ true).st w1→Calls Tryz.prog 45 #[.pointer (some ⟨g0,0,none⟩),.int .i64 a,.int .i64 b] w1 (Rg.RX lo g0 P w1 (.int .i64 Q.2) Q.1):=fun w1 hB hA=>by
  rw [hQ]; exact pressGR ⟨h1,hB,hA.1,hA.2⟩ hmo a b
 refine entH tab_ok (hold_cx true (fun _ g h=>h) hg) [.p 0 0,.a [.i .i64 5,.i .i64 a,.i .i64 b,.i .i64 A.se,.i .i64 A.fl,.i .i64 A.fm,.i .i64 A.to,.i .i64 A.ma,.i .i64 m.ki,.i .i64 m.a,.i .i64 m.b,.i .i64 m.c]] Tryz.func22 Tryz.ntmps22 rfl rfl ?_
 repeat' ((conv=>whnf); first | refine sgo ⟨tab_ok⟩ ?_|refine br_not ?_|refine br_t rfl ?_|refine br_f rfl ?_|refine br_t (by assumption) ?_|refine br_f (by assumption) ?_|refine br_t (decide_eq_true (by assumption)) ?_|refine br_f (decide_eq_false (by assumption)) ?_|refine br_t (beq_iff_eq.2 (by assumption)) ?_|refine br_f (beq_eq_false_iff_ne.2 (by assumption)) ?_|intro b1 | refine drW (id:=12) ⟨tab_ok⟩ [] [(8,1)] ?_|refine drA ⟨tab_ok⟩ [] ?_|refine kpt ?_|refine And.intro ?_ ?_|refine callRO (f:=45) 1 0 (A:=xo0 lo K ⟨q,g0,P,AQ,cQ,AL,cL,AE,cE⟩ true) (ι:=RP) (fun _=>.i .i64 Q.2) (fun P'=>[.i .i64 Q.1.c.ca,.i .i64 Q.1.c.fl,.i .i64 Q.1.c.ft,.i .i64 Q.1.c.se,.i .i64 Q.1.c.dr,.i .i64 Q.1.c.dw,.i .i64 Q.1.c.ho,.i .i64 Q.1.c.re,.i .i64 Q.1.c.yi,.i .i64 Q.1.c.qu,.i .i64 Q.1.c.qo,.i .i64 Q.1.c.lo,.i .i64 Q.1.c.sl,.i .i64 Q.1.c.rt,.i .i64 Q.1.c.cp,.i .i64 Q.1.c.tr,.i .i64 Q.1.c.de,.i .i64 Q.1.c.wi,.v (.slice P'.A1 Q.1.cars.length P'.c1),.v (.slice P'.A2 Q.1.waits.length P'.c2),.i .i64 Q.1.now]) (fun P'=>pairO (carsO lo P'.A1 Q.1.cars.length P'.c1 Q.1.cars true) (waitsO lo P'.A2 Q.1.waits.length P'.c2 Q.1.waits true)) (fun w1 hH hB hA hne=>?_) (fun P'=>?_)|refine fin_mp 1 2 3 0 none 0 (p:=⟨q,g0,P,AQ,cQ,AL,cL,AE,cE⟩) (p':=⟨q,g0,P',AQ,cQ,AL,cL,AE,cE⟩) (by rfl) (by rfl) (by rfl) (by rfl) (by rfl) (by rfl) (fun w' hH=>no_ev) rfl rfl (by rfl) h0 h1 (Nat.le_refl _) (Nat.le_refl _) (Nat.le_refl _) (Nat.le_refl _) (by simp only [xcA,hcc]; rfl) (by rfl)|refine b3_ (fun h=>?_) (fun h=>?_)|refine fin_s ?_|refine fin_r ?_ ?_|refine fin_e ?_ ?_)
 all_goals (refine (hc w1 hB hA).mono (fun e w' h=>?_); exact h.parts)
theorem model8 {lo:Nat} {p:XP} {K:KV} {E:List EvV} {w:World} (hg:CO lo p K E w) (hw:K.G.waits.length≤10000) (a b:Int) (A:AskV) (m:MsgV):Calls Tryz.prog 22 #[.pointer (some ⟨p.q,0,none⟩),.agg (kopC ⟨8,a,b,A,m⟩).toArray] w (MP lo p { K with G:=(doR K.G 5 a b (b == 1)).1 } [] w):=by
 have h0:=hg.1
 have h1:=hg.2.2.1.1
 obtain ⟨q,g0,P,AQ,cQ,AL,cL,AE,cE⟩:=p
 have hcc:(doR K.G 5 a b (b == 1)).1.c=K.G.c:=(doR_w K.G 5 a b (b == 1) (by decide)).2.1
 obtain ⟨Q,hQ⟩:∃ Q,Q=Gr.faultR K.G a (b == 1):=⟨_,rfl⟩
 have hD:doR K.G 5 a b (b == 1)=Q:=by rw [hQ]; unfold doR; rfl
 rw [hD] at hcc ⊢
 have hc:∀ w1:World,Blk w1 g0 72 (grpA K.G (.slice P.A1 K.G.cars.length P.c1) (.slice P.A2 K.G.waits.length P.c2))→(xo0 lo K ⟨q,g0,P,AQ,cQ,AL,cL,AE,cE⟩ true).st w1→Calls Tryz.prog 46 #[.pointer (some ⟨g0,0,none⟩),.int .i64 a,.bool (b == 1)] w1 (Rg.RX lo g0 P w1 (.int .i64 Q.2) Q.1):=fun w1 hB hA=>by
  rw [hQ]; exact faultGR ⟨h1,hB,hA.1,hA.2⟩ hw a (b == 1)
 refine entH tab_ok (hold_cx true (fun _ g h=>h) hg) [.p 0 0,.a [.i .i64 8,.i .i64 a,.i .i64 b,.i .i64 A.se,.i .i64 A.fl,.i .i64 A.fm,.i .i64 A.to,.i .i64 A.ma,.i .i64 m.ki,.i .i64 m.a,.i .i64 m.b,.i .i64 m.c]] Tryz.func22 Tryz.ntmps22 rfl rfl ?_
 repeat' ((conv=>whnf); first | refine sgo ⟨tab_ok⟩ ?_|refine br_not ?_|refine br_t rfl ?_|refine br_f rfl ?_|refine br_t (by assumption) ?_|refine br_f (by assumption) ?_|refine br_t (decide_eq_true (by assumption)) ?_|refine br_f (decide_eq_false (by assumption)) ?_|refine br_t (beq_iff_eq.2 (by assumption)) ?_|refine br_f (beq_eq_false_iff_ne.2 (by assumption)) ?_|intro b1 | refine drW (id:=20) ⟨tab_ok⟩ [] [(9,1)] ?_|refine drA ⟨tab_ok⟩ [] ?_|refine kpt ?_|refine And.intro ?_ ?_|refine callRO (f:=46) 1 0 (A:=xo0 lo K ⟨q,g0,P,AQ,cQ,AL,cL,AE,cE⟩ true) (ι:=RP) (fun _=>.i .i64 Q.2) (fun P'=>[.i .i64 Q.1.c.ca,.i .i64 Q.1.c.fl,.i .i64 Q.1.c.ft,.i .i64 Q.1.c.se,.i .i64 Q.1.c.dr,.i .i64 Q.1.c.dw,.i .i64 Q.1.c.ho,.i .i64 Q.1.c.re,.i .i64 Q.1.c.yi,.i .i64 Q.1.c.qu,.i .i64 Q.1.c.qo,.i .i64 Q.1.c.lo,.i .i64 Q.1.c.sl,.i .i64 Q.1.c.rt,.i .i64 Q.1.c.cp,.i .i64 Q.1.c.tr,.i .i64 Q.1.c.de,.i .i64 Q.1.c.wi,.v (.slice P'.A1 Q.1.cars.length P'.c1),.v (.slice P'.A2 Q.1.waits.length P'.c2),.i .i64 Q.1.now]) (fun P'=>pairO (carsO lo P'.A1 Q.1.cars.length P'.c1 Q.1.cars true) (waitsO lo P'.A2 Q.1.waits.length P'.c2 Q.1.waits true)) (fun w1 hH hB hA hne=>?_) (fun P'=>?_)|refine fin_mp 1 2 3 0 none 0 (p:=⟨q,g0,P,AQ,cQ,AL,cL,AE,cE⟩) (p':=⟨q,g0,P',AQ,cQ,AL,cL,AE,cE⟩) (by rfl) (by rfl) (by rfl) (by rfl) (by rfl) (by rfl) (fun w' hH=>no_ev) rfl rfl (by rfl) h0 h1 (Nat.le_refl _) (Nat.le_refl _) (Nat.le_refl _) (Nat.le_refl _) (by simp only [xcA,hcc]; rfl) (by rfl)|refine b3_ (fun h=>?_) (fun h=>?_)|refine fin_s ?_|refine fin_r ?_ ?_|refine fin_e ?_ ?_)
 all_goals (refine (hc w1 hB hA).mono (fun e w' h=>?_); exact h.parts)
theorem st_car {lo g n c1 m c2:Nat} {A2:Option Addr} {cs cs':List CarV} {ws:List WaitV} {w w':World} (h:(pairO (carsO lo (some ⟨g,0,none⟩) n c1 cs true) (waitsO lo A2 m c2 ws true)).st w) (k:carE.At lo (some ⟨g,0,none⟩) n c1 cs' w') (u:Upd [g] w w'):(pairO (carsO lo (some ⟨g,0,none⟩) n c1 cs' true) (waitsO lo A2 m c2 ws true)).st w':=by
 refine ⟨k,(waitsO lo A2 m c2 ws true).up u (fun b hb hm=>?_) h.2⟩
 rw [List.mem_singleton] at hm
 subst hm
 rcases own_at h.1 with ⟨h2,_⟩ | ⟨g1,cur,h2,_,B1,_⟩
 ·cases h2
 ·cases h2
  exact own_ne_ty h.2 B1 (by decide) hb
theorem st_xo {lo g c1 c2:Nat} {A2:Option Addr} {G:GrV} {cs':List CarV} {w w':World} (h:(pairO (carsO lo (some ⟨g,0,none⟩) G.cars.length c1 G.cars true) (waitsO lo A2 G.waits.length c2 G.waits true)).st w) (k:carE.At lo (some ⟨g,0,none⟩) G.cars.length c1 cs' w') (u:Upd [g] w w') (hl:cs'.length=G.cars.length:=by simp):(pairO (carsO lo (some ⟨g,0,none⟩) cs'.length c1 cs' true) (waitsO lo A2 G.waits.length c2 G.waits true)).st w':=by
 rw [hl]; exact st_car h k u
theorem model6 {lo:Nat} {p:XP} {K:KV} {E:List EvV} {w:World} (hg:CO lo p K E w)  (a b:Int) (A:AskV) (m:MsgV):Calls Tryz.prog 22 #[.pointer (some ⟨p.q,0,none⟩),.agg (kopC ⟨6,a,b,A,m⟩).toArray] w (MP lo p { K with G:=(doR K.G 3 a b (b == 1)).1 } [] w):=by
 have h0:=hg.1
 have h1:=hg.2.2.1.1
 obtain ⟨q,g0,P,AQ,cQ,AL,cL,AE,cE⟩:=p
 rw [show doR K.G 3 a b (b == 1)=Gr.loadR K.G a b by unfold doR; rfl]
 rw [show Gr.loadR K.G a b=one K.G a (fun x=>({ x with lo:=b },0)) by unfold Gr.loadR; rfl]
 by_cases hi:a < 0∨(K.G.cars.length:Int)≤a
 ·rw [one_out hi]
  refine entH tab_ok (hold_cx true (fun _ g h=>h) hg) [.p 0 0,.a [.i .i64 6,.i .i64 a,.i .i64 b,.i .i64 A.se,.i .i64 A.fl,.i .i64 A.fm,.i .i64 A.to,.i .i64 A.ma,.i .i64 m.ki,.i .i64 m.a,.i .i64 m.b,.i .i64 m.c]] Tryz.func22 Tryz.ntmps22 rfl rfl ?_
  repeat' ((conv=>whnf); first | refine sgo ⟨tab_ok⟩ ?_|refine br_not ?_|refine br_t rfl ?_|refine br_f rfl ?_|refine br_t (by assumption) ?_|refine br_f (by assumption) ?_|refine br_t (decide_eq_true (by assumption)) ?_|refine br_f (decide_eq_false (by assumption)) ?_|refine br_t (beq_iff_eq.2 (by assumption)) ?_|refine br_f (beq_eq_false_iff_ne.2 (by assumption)) ?_|intro b1 | refine drA ⟨tab_ok⟩ [] ?_|refine kpt ?_|refine br_t (decide_eq_true (by omega)) ?_|refine br_f (decide_eq_false (by omega)) ?_|refine fin_mp 1 2 3 0 none 0 (p:=⟨q,g0,P,AQ,cQ,AL,cL,AE,cE⟩) (p':=⟨q,g0,P,AQ,cQ,AL,cL,AE,cE⟩) (by rfl) (by rfl) (by rfl) (by rfl) (by rfl) (by rfl) (fun w' hH=>no_ev) rfl rfl (by rfl) h0 h1 (Nat.le_refl _) (Nat.le_refl _) (Nat.le_refl _) (Nat.le_refl _) (by rfl) (by rfl)|refine b3_ (fun h=>?_) (fun h=>?_)|refine fin_s ?_|refine fin_r ?_ ?_|refine fin_e ?_ ?_)
 ·obtain ⟨i,rfl⟩:∃ i:Nat,a=(i:Int):=⟨a.toNat,by omega⟩
  have hi2:i < K.G.cars.length:=by omega
  obtain ⟨x,hx⟩:∃ x,K.G.cars[i]?=some x:=⟨_,List.getElem?_eq_getElem hi2⟩
  have hxk:K.G.cars[i]=x:=(List.getElem?_eq_some_iff.1 hx).2
  obtain ⟨A1,c1,A2,c2⟩:=P
  obtain ⟨g,hgA⟩:=own_addr hg.2.2.1.2.2.1 (by omega)
  have hgA:A1=some ⟨g,0,none⟩:=hgA
  subst hgA
  rw [one_in hi2,hxk]
  refine entH tab_ok (hold_cx true (fun _ g h=>h) hg) [.p 0 0,.a [.i .i64 6,.i .i64 (i:Int),.i .i64 b,.i .i64 A.se,.i .i64 A.fl,.i .i64 A.fm,.i .i64 A.to,.i .i64 A.ma,.i .i64 m.ki,.i .i64 m.a,.i .i64 m.b,.i .i64 m.c]] Tryz.func22 Tryz.ntmps22 rfl rfl ?_
  repeat' ((conv=>whnf); first | refine sgo ⟨tab_ok⟩ ?_|refine br_not ?_|refine br_t rfl ?_|refine br_f rfl ?_|refine br_t (by assumption) ?_|refine br_f (by assumption) ?_|refine br_t (decide_eq_true (by assumption)) ?_|refine br_f (decide_eq_false (by assumption)) ?_|refine br_t (beq_iff_eq.2 (by assumption)) ?_|refine br_f (beq_eq_false_iff_ne.2 (by assumption)) ?_|intro b1 | refine drA (id:=15) ⟨tab_ok⟩ [13] ?_|refine drA ⟨tab_ok⟩ [] ?_|refine kpt ?_|refine br_t (decide_eq_true (by omega)) ?_|refine br_f (decide_eq_false (by omega)) ?_|refine opiv ⟨tab_ok⟩ (by rfl) (by rfl) (by rfl) (by rfl) (by rfl) (by rfl) ⟨by omega,by omega⟩ ?_|refine puiv ⟨tab_ok⟩ (by rfl) (by rfl) (by rfl) (by rfl) (by rfl) (by rfl) ⟨by omega,by omega⟩ ?_|refine opfv ⟨tab_ok⟩ (by rfl) (by rfl) (by rfl) (by rfl) ?_|refine pufv ⟨tab_ok⟩ (by rfl) (by rfl) (by rfl) (by rfl) ?_|refine opsc ⟨tab_ok⟩ 0 i 6 carE (A:=xo0 lo K ⟨q,g0,⟨some ⟨g,0,none⟩,c1,A2,c2⟩,AQ,cQ,AL,cL,AE,cE⟩ true) (xo0 lo (⟨⟨K.G.c,K.G.cars.set i { x with lo:=b },K.G.waits,K.G.now⟩,K.Q,K.L⟩:KV) ⟨q,g0,⟨some ⟨g,0,none⟩,c1,A2,c2⟩,AQ,cQ,AL,cL,AE,cE⟩ true) x { x with lo:=b } (by rfl) (by rfl) (by simp only [Go.WideShapes.add_plain]; rfl) (by rfl) (by rfl) rfl (fun w h=>h.1) hx (by decide) (by rfl) (fun w w' h k u=>st_xo (G:=K.G) h k u) (List.mem_append_left _ (List.mem_singleton.2 rfl)) (fun g h=>h) ?_|refine fin_mp 1 2 3 0 none 0 (p:=⟨q,g0,⟨some ⟨g,0,none⟩,c1,A2,c2⟩,AQ,cQ,AL,cL,AE,cE⟩) (p':=⟨q,g0,⟨some ⟨g,0,none⟩,c1,A2,c2⟩,AQ,cQ,AL,cL,AE,cE⟩) (by rfl) (by rfl) (by rfl) (by rfl) (by rfl) (by rfl) (fun w' hH=>no_ev) rfl rfl (by rfl) h0 h1 (Nat.le_refl _) (Nat.le_refl _) (Nat.le_refl _) (Nat.le_refl _) (by rfl) (by simp only [GrV.car,List.length_set]; rfl)|refine fin_s ?_|refine fin_r ?_ ?_|refine fin_e ?_ ?_)
theorem model7 {lo:Nat} {p:XP} {K:KV} {E:List EvV} {w:World} (hg:CO lo p K E w)  (a b:Int) (A:AskV) (m:MsgV):Calls Tryz.prog 22 #[.pointer (some ⟨p.q,0,none⟩),.agg (kopC ⟨7,a,b,A,m⟩).toArray] w (MP lo p { K with G:=(doR K.G 4 a b (b == 1)).1 } [] w):=by
 have h0:=hg.1
 have h1:=hg.2.2.1.1
 obtain ⟨q,g0,P,AQ,cQ,AL,cL,AE,cE⟩:=p
 rw [show doR K.G 4 a b (b == 1)=Gr.curtR K.G a (b == 1) by unfold doR; rfl]
 rw [show Gr.curtR K.G a (b == 1)=one K.G a (fun x=>({ x with bl:=(b == 1) },0)) by unfold Gr.curtR; rfl]
 by_cases hi:a < 0∨(K.G.cars.length:Int)≤a
 ·rw [one_out hi]
  refine entH tab_ok (hold_cx true (fun _ g h=>h) hg) [.p 0 0,.a [.i .i64 7,.i .i64 a,.i .i64 b,.i .i64 A.se,.i .i64 A.fl,.i .i64 A.fm,.i .i64 A.to,.i .i64 A.ma,.i .i64 m.ki,.i .i64 m.a,.i .i64 m.b,.i .i64 m.c]] Tryz.func22 Tryz.ntmps22 rfl rfl ?_
  repeat' ((conv=>whnf); first | refine sgo ⟨tab_ok⟩ ?_|refine br_not ?_|refine br_t rfl ?_|refine br_f rfl ?_|refine br_t (by assumption) ?_|refine br_f (by assumption) ?_|refine br_t (decide_eq_true (by assumption)) ?_|refine br_f (decide_eq_false (by assumption)) ?_|refine br_t (beq_iff_eq.2 (by assumption)) ?_|refine br_f (beq_eq_false_iff_ne.2 (by assumption)) ?_|intro b1 | refine drA ⟨tab_ok⟩ [] ?_|refine kpt ?_|refine br_t (decide_eq_true (by omega)) ?_|refine br_f (decide_eq_false (by omega)) ?_|refine fin_mp 1 2 3 0 none 0 (p:=⟨q,g0,P,AQ,cQ,AL,cL,AE,cE⟩) (p':=⟨q,g0,P,AQ,cQ,AL,cL,AE,cE⟩) (by rfl) (by rfl) (by rfl) (by rfl) (by rfl) (by rfl) (fun w' hH=>no_ev) rfl rfl (by rfl) h0 h1 (Nat.le_refl _) (Nat.le_refl _) (Nat.le_refl _) (Nat.le_refl _) (by rfl) (by rfl)|refine b3_ (fun h=>?_) (fun h=>?_)|refine fin_s ?_|refine fin_r ?_ ?_|refine fin_e ?_ ?_)
 ·obtain ⟨i,rfl⟩:∃ i:Nat,a=(i:Int):=⟨a.toNat,by omega⟩
  have hi2:i < K.G.cars.length:=by omega
  obtain ⟨x,hx⟩:∃ x,K.G.cars[i]?=some x:=⟨_,List.getElem?_eq_getElem hi2⟩
  have hxk:K.G.cars[i]=x:=(List.getElem?_eq_some_iff.1 hx).2
  obtain ⟨A1,c1,A2,c2⟩:=P
  obtain ⟨g,hgA⟩:=own_addr hg.2.2.1.2.2.1 (by omega)
  have hgA:A1=some ⟨g,0,none⟩:=hgA
  subst hgA
  rw [one_in hi2,hxk]
  refine entH tab_ok (hold_cx true (fun _ g h=>h) hg) [.p 0 0,.a [.i .i64 7,.i .i64 (i:Int),.i .i64 b,.i .i64 A.se,.i .i64 A.fl,.i .i64 A.fm,.i .i64 A.to,.i .i64 A.ma,.i .i64 m.ki,.i .i64 m.a,.i .i64 m.b,.i .i64 m.c]] Tryz.func22 Tryz.ntmps22 rfl rfl ?_
  repeat' ((conv=>whnf); first | refine sgo ⟨tab_ok⟩ ?_|refine br_not ?_|refine br_t rfl ?_|refine br_f rfl ?_|refine br_t (by assumption) ?_|refine br_f (by assumption) ?_|refine br_t (decide_eq_true (by assumption)) ?_|refine br_f (decide_eq_false (by assumption)) ?_|refine br_t (beq_iff_eq.2 (by assumption)) ?_|refine br_f (beq_eq_false_iff_ne.2 (by assumption)) ?_|intro b1 | refine drA (id:=18) ⟨tab_ok⟩ [14] ?_|refine drA ⟨tab_ok⟩ [] ?_|refine kpt ?_|refine br_t (decide_eq_true (by omega)) ?_|refine br_f (decide_eq_false (by omega)) ?_|refine opiv ⟨tab_ok⟩ (by rfl) (by rfl) (by rfl) (by rfl) (by rfl) (by rfl) ⟨by omega,by omega⟩ ?_|refine puiv ⟨tab_ok⟩ (by rfl) (by rfl) (by rfl) (by rfl) (by rfl) (by rfl) ⟨by omega,by omega⟩ ?_|refine opfv ⟨tab_ok⟩ (by rfl) (by rfl) (by rfl) (by rfl) ?_|refine pufv ⟨tab_ok⟩ (by rfl) (by rfl) (by rfl) (by rfl) ?_|refine opsc ⟨tab_ok⟩ 0 i 7 carE (A:=xo0 lo K ⟨q,g0,⟨some ⟨g,0,none⟩,c1,A2,c2⟩,AQ,cQ,AL,cL,AE,cE⟩ true) (xo0 lo (⟨⟨K.G.c,K.G.cars.set i { x with bl:=(b == 1) },K.G.waits,K.G.now⟩,K.Q,K.L⟩:KV) ⟨q,g0,⟨some ⟨g,0,none⟩,c1,A2,c2⟩,AQ,cQ,AL,cL,AE,cE⟩ true) x { x with bl:=(b == 1) } (by rfl) (by rfl) (by simp only [Go.WideShapes.add_plain]; rfl) (by rfl) (by rfl) rfl (fun w h=>h.1) hx (by decide) (by rfl) (fun w w' h k u=>st_xo (G:=K.G) h k u) (List.mem_append_left _ (List.mem_singleton.2 rfl)) (fun g h=>h) ?_|refine fin_mp 1 2 3 0 none 0 (p:=⟨q,g0,⟨some ⟨g,0,none⟩,c1,A2,c2⟩,AQ,cQ,AL,cL,AE,cE⟩) (p':=⟨q,g0,⟨some ⟨g,0,none⟩,c1,A2,c2⟩,AQ,cQ,AL,cL,AE,cE⟩) (by rfl) (by rfl) (by rfl) (by rfl) (by rfl) (by rfl) (fun w' hH=>no_ev) rfl rfl (by rfl) h0 h1 (Nat.le_refl _) (Nat.le_refl _) (Nat.le_refl _) (Nat.le_refl _) (by rfl) (by simp only [GrV.car,List.length_set]; rfl)|refine fin_s ?_|refine fin_r ?_ ?_|refine fin_e ?_ ?_)
theorem model0 {lo:Nat} {p:XP} {K:KV} {E:List EvV} {w:World} (hg:CO lo p K E w) (k a b:Int) (A:AskV) (m:MsgV) (n1:¬ k=1) (n2:¬ k=2) (n3:¬ k=3) (n4:¬ k=4) (n5:¬ k=5) (n6:¬ k=6) (n7:¬ k=7) (n8:¬ k=8) (n10:¬ k=10):Calls Tryz.prog 22 #[.pointer (some ⟨p.q,0,none⟩),.agg (kopC ⟨k,a,b,A,m⟩).toArray] w (MP lo p K [] w):=by
 have h0:=hg.1
 have h1:=hg.2.2.1.1
 obtain ⟨q,g0,P,AQ,cQ,AL,cL,AE,cE⟩:=p
 refine entH tab_ok (hold_cx true (fun _ g h=>h) hg) [.p 0 0,.a [.i .i64 k,.i .i64 a,.i .i64 b,.i .i64 A.se,.i .i64 A.fl,.i .i64 A.fm,.i .i64 A.to,.i .i64 A.ma,.i .i64 m.ki,.i .i64 m.a,.i .i64 m.b,.i .i64 m.c]] Tryz.func22 Tryz.ntmps22 rfl rfl ?_
 repeat' ((conv=>whnf); first | refine sgo ⟨tab_ok⟩ ?_|refine br_not ?_|refine br_t rfl ?_|refine br_f rfl ?_|refine br_t (by assumption) ?_|refine br_f (by assumption) ?_|refine br_t (decide_eq_true (by assumption)) ?_|refine br_f (decide_eq_false (by assumption)) ?_|refine br_t (beq_iff_eq.2 (by assumption)) ?_|refine br_f (beq_eq_false_iff_ne.2 (by assumption)) ?_|intro b1 | refine drA ⟨tab_ok⟩ [] ?_|refine kpt ?_|refine br_f (beq_eq_false_iff_ne.2 n1) ?_|refine br_f (beq_eq_false_iff_ne.2 n2) ?_|refine br_f (beq_eq_false_iff_ne.2 n3) ?_|refine br_f (beq_eq_false_iff_ne.2 n4) ?_|refine br_f (beq_eq_false_iff_ne.2 n5) ?_|refine br_f (beq_eq_false_iff_ne.2 n6) ?_|refine br_f (beq_eq_false_iff_ne.2 n7) ?_|refine br_f (beq_eq_false_iff_ne.2 n8) ?_|refine br_f (beq_eq_false_iff_ne.2 n10) ?_|refine fin_mp 1 2 3 0 none 0 (p:=⟨q,g0,P,AQ,cQ,AL,cL,AE,cE⟩) (p':=⟨q,g0,P,AQ,cQ,AL,cL,AE,cE⟩) (by rfl) (by rfl) (by rfl) (by rfl) (by rfl) (by rfl) (fun w' hH=>no_ev) rfl rfl (by rfl) h0 h1 (Nat.le_refl _) (Nat.le_refl _) (Nat.le_refl _) (Nat.le_refl _) (by rfl) (by rfl)|refine b3_ (fun h=>?_) (fun h=>?_)|refine fin_s ?_|refine fin_r ?_ ?_|refine fin_e ?_ ?_)
end Rk
end Go.Proofs.YtpiiblkiddcgcaaGreat
