/-
  Wanted: part 11.
  No condition.
-/
import Derived.Test.YtpiiblkiddcgcaaGreatPK10
import Derived.Test.YtpiiblkiddcgcaaGreatPK9
import Derived.Test.YtpiiblkiddcgcaaGreatPK8
set_option linter.all false
namespace Go.Proofs.YtpiiblkiddcgcaaGreat
namespace Rg
open Go.RowKit Ba Mem En Mo Go.Proofs.YtpiiblkiddcgcaaGreat.Ty Go.Proofs.YtpiiblkiddcgcaaGreat.St Gr
open Ct (cfgA carA)
open Et (carsO car_at blL coV)
open Rf (costR)
set_option maxRecDepth 100000
attribute [local irreducible] Go.Calls coV
set_option maxHeartbeats 4000000
def asgG (G:GrV):GrV:={ G with cars:=(asgN G.c G.waits G.cars G.waits.length).2,waits:=(asgN G.c G.waits G.cars G.waits.length).1 }
theorem asg_no {c:CfgV} {p:List WaitV×List CarV} {i:Nat} {a:WaitV} (ha:p.1[i]?=some a) (h:¬ a.ca = -1):asgStep c p i=p:=by
 unfold asgStep; rw [ha]; simp [h]
theorem asg_none {c:CfgV} {p:List WaitV×List CarV} {i:Nat} {a:WaitV} (ha:p.1[i]?=some a) (h:a.ca = -1) (hb:bestI c p.2 a = -1):asgStep c p i=p:=by
 unfold asgStep; rw [ha]; simp only [h,if_true,hb]
 have e:({ a with ca := -1 }:WaitV)=a:=by rw [← h]
 rw [e,Gr.set_same ha]
 unfold giveC
 rw [if_neg (by decide)]
theorem asg_some {c:CfgV} {p:List WaitV×List CarV} {i b:Nat} {a:WaitV} {y:CarV} (ha:p.1[i]?=some a) (h:a.ca = -1) (hb:bestI c p.2 a=(b:Int)) (hy:p.2[b]?=some y):asgStep c p i=(p.1.set i { a with ca:=(b:Int) },p.2.set b (hallX a y)):=by
 unfold asgStep; rw [ha]; simp only [h,if_true,hb]
 unfold giveC
 rw [if_pos (by omega),Int.toNat_natCast,mod_set _ hy]
theorem assignR {lo q:Nat} {G:GrV} {P:RP} {w:World} (hg:RO lo q G P w) (hl:G.waits.length≤10000) (hlc:G.cars.length≤10000) (hpos:0 < G.cars.length) (hk1:∀ x∈G.cars,okT x) (hk2:∀ a∈G.waits,okW a) (hWQ:WQ G.waits):Calls Tryz.prog 31 #[.pointer (some ⟨q,0,none⟩)] w (RX lo q P w (.tuple #[]) (asgG G)):=by
 have h0:=hg.1
 have hlo:lo≤w.heap.size:=Nat.le_of_lt (Nat.lt_of_le_of_lt h0 hg.2.1.lt)
 obtain ⟨A1,c1,A2,c2⟩:=P
 have hok:=fun i=>asg_ok (c:=G.c) hk2 hk1 i
 have hwq:=fun i=>asg_WQ (c:=G.c) (cs:=G.cars) hWQ i
 have hlen:=fun i=>asg_len G.c G.waits G.cars i
 obtain ⟨g,hgA⟩:=own_addr hg.2.2.1 hpos
 have hgA:A1=some ⟨g,0,none⟩:=hgA
 subst hgA
 refine entH tab_ok (hold_ro hg) [.p 0 0] Tryz.func31 Tryz.ntmps31 rfl rfl ?_
 repeat' (first | refine gs_ ?_|((conv=>whnf); first | refine fin_s ?_))
 conv=>whnf
 refine lpS ⟨tab_ok⟩ (ι:={x:Nat×Nat×Option Addr×Nat // x.1≤G.waits.length∧lo≤x.2.1}) (fun y=>match y with | ⟨(i,l,A3,c3),_⟩=>⟨[(0,.p 0 0),(2,.i .i64 (i:Int))],roM q G (some ⟨g,0,none⟩) G.cars.length c1 A3 G.waits.length c3,[carsO lo (some ⟨g,0,none⟩) G.cars.length c1 (asgN G.c G.waits G.cars i).2 true,waitsO l A3 G.waits.length c3 (asgN G.c G.waits G.cars i).1 true]⟩) (fun y=>G.waits.length - y.1.1) ⟨(0,lo,A2,c2),Nat.zero_le _,Nat.le_refl _⟩ (wk ?_) ?_
 ·repeat' (first | exact trivial | rfl | ((conv=>whnf); refine And.intro ?_ ?_))
 rintro ⟨⟨i,l,A3,c3⟩,hi,hl3⟩
 have hi:i≤G.waits.length:=hi
 have hl3:lo≤l:=hl3
 by_cases hlt:i < G.waits.length
 ·refine sm_know (p:=∃ g2,A3=some ⟨g2,0,none⟩) (fun w1 hH=>own_addr (hob hH (A:=waitsO l A3 G.waits.length c3 (asgN G.c G.waits G.cars i).1 true) 1 rfl) (by omega)) (fun hA3=>?_)
  obtain ⟨g2,rfl⟩:=hA3
  have hs:asgN G.c G.waits G.cars (i+1)=asgStep G.c (asgN G.c G.waits G.cars i) i:=rfl
  obtain ⟨hk2',hk1'⟩:=hok i
  obtain ⟨hn1,hn2⟩:=hlen i
  have hca:=(hwq i).1
  obtain ⟨ws,cs,hp⟩:∃ ws cs,asgN G.c G.waits G.cars i=(ws,cs):=⟨_,_,rfl⟩
  rw [hp] at hs hk2' hk1' hn1 hn2 hca
  have hn1:ws.length=G.waits.length:=hn1
  have hn2:cs.length=G.cars.length:=hn2
  refine sm_hold _ [carsO lo (some ⟨g,0,none⟩) G.cars.length c1 cs true,waitsO l (some ⟨g2,0,none⟩) G.waits.length c3 ws true] (by rfl) (fun w1 hH=>by have hH:Hold _ _ [carsO lo (some ⟨g,0,none⟩) G.cars.length c1 (asgN G.c G.waits G.cars i).2 true,waitsO l (some ⟨g2,0,none⟩) G.waits.length c3 (asgN G.c G.waits G.cars i).1 true] w1:=hH; rw [hp] at hH; exact hH) ?_
  refine sm_run ⟨tab_ok⟩ ?_
  obtain ⟨a,ha⟩:∃ a,ws[i]?=some a:=⟨_,List.getElem?_eq_getElem (by omega)⟩
  have hka:=hk2' a (List.mem_of_getElem? ha)
  have hca:=hca a (List.mem_of_getElem? ha)
  by_cases hc:a.ca = -1
  ·repeat' (first | refine gs_ ?_|((conv=>whnf); first | intro b1 | refine bto ?_|refine bfo ?_|refine wr_i ?_|refine opiv ⟨tab_ok⟩ (by rfl) (by rfl) (by rfl) (by rfl) (by rfl) (by rfl) ⟨by omega,by omega⟩ ?_|refine puiv ⟨tab_ok⟩ (by rfl) (by rfl) (by rfl) (by rfl) (by rfl) (by rfl) ⟨by omega,by omega⟩ ?_|refine opfv ⟨tab_ok⟩ (by rfl) (by rfl) (by rfl) (by rfl) ?_|refine pufv ⟨tab_ok⟩ (by rfl) (by rfl) (by rfl) (by rfl) ?_|refine opix (g:=g2) (off:=0+i*4) [.i .i64 a.fl,.i .i64 a.wy,.i .i64 a.ca,.i .i64 a.si] (fun w1 hH=>wait_at (hob hH (A:=waitsO l (some ⟨g2,0,none⟩) G.waits.length c3 ws true) 1 rfl) ha) ⟨tab_ok⟩ (by rfl) (by rfl) (by simp only [Go.WideShapes.add_plain]; rfl) ?_|refine fin_s ?_))
   conv=>whnf
   refine lp ⟨tab_ok⟩ (ι:={x:Nat×Int // x.1≤G.cars.length∧x.2=(blL G.c a.fl a.wy cs x.1).1}) (fun y=>match y with | ⟨(n,v),_⟩=>⟨[(0,.p 0 0),(2,.i .i64 (i:Int)),(3,.p 1 0),(4,.i .i64 v),(5,.i .i64 (n:Int))],[⟨q,72,true,0,[],[.i .i64 G.c.ca,.i .i64 G.c.fl,.i .i64 G.c.ft,.i .i64 G.c.se,.i .i64 G.c.dr,.i .i64 G.c.dw,.i .i64 G.c.ho,.i .i64 G.c.re,.i .i64 G.c.yi,.i .i64 G.c.qu,.i .i64 G.c.qo,.i .i64 G.c.lo,.i .i64 G.c.sl,.i .i64 G.c.rt,.i .i64 G.c.cp,.i .i64 G.c.tr,.i .i64 G.c.de,.i .i64 G.c.wi,.v (.slice (some ⟨g,0,none⟩) G.cars.length c1),.v (.slice (some ⟨g2,0,none⟩) G.waits.length c3),.i .i64 G.now],[],true⟩,⟨b1,76,true,0,[],[.i .i64 a.fl,.i .i64 a.wy,.i .i64 a.ca,.i .i64 a.si],[],true⟩],[carsO lo (some ⟨g,0,none⟩) G.cars.length c1 cs true,waitsO l (some ⟨g2,0,none⟩) G.waits.length c3 ws true]⟩) (fun y=>G.cars.length - y.1.1) ⟨(0,-1),Nat.zero_le _,rfl⟩ (wk ?_) ?_
   ·repeat' (first | exact trivial | rfl | ((conv=>whnf); refine And.intro ?_ ?_))
   rintro ⟨⟨n,v⟩,hn,hv⟩
   have hn:n≤G.cars.length:=hn
   have hv:v=(blL G.c a.fl a.wy cs n).1:=hv
   have hr:=bl_rng G.c a.fl a.wy cs n
   rw [← hv] at hr
   by_cases hnl:n < G.cars.length
   ·obtain ⟨x,hx⟩:∃ x,cs[n]?=some x:=⟨_,List.getElem?_eq_getElem (by omega)⟩
    have hkx:=hk1' x (List.mem_of_getElem? hx)
    have hnx:=bl_next (c:=G.c) (f:=a.fl) (cw:=a.wy) hx
    rw [← hv] at hnx
    by_cases hA:x.mo=0∧x.br=false
    ·by_cases hvn:v < 0
     ·have hb:(n:Int)=(blL G.c a.fl a.wy cs (n+1)).1:=by rw [hnx,if_pos ⟨hA,.inl hvn⟩]
      repeat' (first | refine gq_ ?_|((conv=>whnf); first | intro b5 | refine drA (id:=10) ⟨tab_ok⟩ [30] ?_|refine drA ⟨tab_ok⟩ [] ?_|refine bto ?_|refine bfo ?_|refine wr_i ?_|refine And.intro ?_ ?_|refine opiv ⟨tab_ok⟩ (by rfl) (by rfl) (by rfl) (by rfl) (by rfl) (by rfl) ⟨by omega,by omega⟩ ?_|refine puiv ⟨tab_ok⟩ (by rfl) (by rfl) (by rfl) (by rfl) (by rfl) (by rfl) ⟨by omega,by omega⟩ ?_|refine opfv ⟨tab_ok⟩ (by rfl) (by rfl) (by rfl) (by rfl) ?_|refine pufv ⟨tab_ok⟩ (by rfl) (by rfl) (by rfl) (by rfl) ?_|refine opix (g:=g) (off:=0+n*15) (sCar x) (fun w1 hH=>car_at (hob hH (A:=carsO lo (some ⟨g,0,none⟩) G.cars.length c1 cs true) 0 rfl) hx) ⟨tab_ok⟩ (by rfl) (by rfl) (by simp only [Go.WideShapes.add_plain]; rfl) ?_|refine br_t (beq_iff_eq.2 hA.1) ?_|refine br_f hA.2 ?_|refine back ⟨(n+1,(n:Int)),by show n+1≤_; omega,hb⟩ (wk ?_) ?_|refine fin_s ?_))
      all_goals first | (show G.cars.length - (n+1) < G.cars.length - n; omega)|skip
      all_goals (repeat' (first | exact trivial | rfl | ((conv=>whnf); refine And.intro ?_ ?_)))
     ·obtain ⟨b,hvb⟩:∃ b:Nat,v=(b:Int):=⟨v.toNat,by omega⟩
      have hbc:=bl_cost G.c a.fl a.wy cs n (by rw [← hv]; omega)
      rw [← hv,hvb,Int.toNat_natCast] at hbc
      obtain ⟨y,hy,hyc⟩:=hbc
      have hky:=hk1' y (List.mem_of_getElem? hy)
      subst hvb
      have hbn:b < G.cars.length:=by omega
      have c1x:=costR G.c x a.fl a.wy (by have:=hka.2; omega) hkx.2.2.2.2.1.1 hkx.2.2.2.2.1.2 hka.1.1 hka.1.2 hkx.2.1.1 hkx.2.1.2.1 hkx.2.1.2.2
      have c1y:=costR G.c y a.fl a.wy (by have:=hka.2; omega) hky.2.2.2.2.1.1 hky.2.2.2.2.1.2 hka.1.1 hka.1.2 hky.2.1.1 hky.2.1.2.1 hky.2.1.2.2
      by_cases hcl:coV G.c x a.fl a.wy < coV G.c y a.fl a.wy
      ·have hb:(n:Int)=(blL G.c a.fl a.wy cs (n+1)).1:=by rw [hnx,if_pos ⟨hA,.inr (by rw [hyc]; exact hcl)⟩]
       repeat' (first | refine gq_ ?_|((conv=>whnf); first | intro b5 | refine drA (id:=10) ⟨tab_ok⟩ [30] ?_|refine drA ⟨tab_ok⟩ [] ?_|refine bto ?_|refine bfo ?_|refine wr_i ?_|refine And.intro ?_ ?_|refine opiv ⟨tab_ok⟩ (by rfl) (by rfl) (by rfl) (by rfl) (by rfl) (by rfl) ⟨by omega,by omega⟩ ?_|refine puiv ⟨tab_ok⟩ (by rfl) (by rfl) (by rfl) (by rfl) (by rfl) (by rfl) ⟨by omega,by omega⟩ ?_|refine opfv ⟨tab_ok⟩ (by rfl) (by rfl) (by rfl) (by rfl) ?_|refine pufv ⟨tab_ok⟩ (by rfl) (by rfl) (by rfl) (by rfl) ?_|refine opix (g:=g) (off:=0+n*15) (sCar x) (fun w1 hH=>car_at (hob hH (A:=carsO lo (some ⟨g,0,none⟩) G.cars.length c1 cs true) 0 rfl) hx) ⟨tab_ok⟩ (by rfl) (by rfl) (by simp only [Go.WideShapes.add_plain]; rfl) ?_|refine opix (g:=g) (off:=0+b*15) (sCar y) (fun w1 hH=>car_at (hob hH (A:=carsO lo (some ⟨g,0,none⟩) G.cars.length c1 cs true) 0 rfl) hy) ⟨tab_ok⟩ (by rfl) (by rfl) (by simp only [Go.WideShapes.add_plain]; rfl) ?_|refine callS (f:=86) (.i .i64 (coV G.c x a.fl a.wy)) (c1x) ?_|refine callS (f:=86) (.i .i64 (coV G.c y a.fl a.wy)) (c1y) ?_|refine br_t (beq_iff_eq.2 hA.1) ?_|refine br_f hA.2 ?_|refine back ⟨(n+1,(n:Int)),by show n+1≤_; omega,hb⟩ (wk ?_) ?_|refine fin_s ?_))
       all_goals first | (show G.cars.length - (n+1) < G.cars.length - n; omega)|skip
       all_goals (repeat' (first | exact trivial | rfl | ((conv=>whnf); refine And.intro ?_ ?_)))
      ·have hb:(b:Int)=(blL G.c a.fl a.wy cs (n+1)).1:=by rw [hnx,if_neg]; rintro ⟨_,h | h⟩; omega; rw [hyc] at h; exact hcl h
       repeat' (first | refine gq_ ?_|((conv=>whnf); first | intro b5 | refine drA (id:=10) ⟨tab_ok⟩ [30] ?_|refine drA ⟨tab_ok⟩ [] ?_|refine bto ?_|refine bfo ?_|refine wr_i ?_|refine And.intro ?_ ?_|refine opiv ⟨tab_ok⟩ (by rfl) (by rfl) (by rfl) (by rfl) (by rfl) (by rfl) ⟨by omega,by omega⟩ ?_|refine puiv ⟨tab_ok⟩ (by rfl) (by rfl) (by rfl) (by rfl) (by rfl) (by rfl) ⟨by omega,by omega⟩ ?_|refine opfv ⟨tab_ok⟩ (by rfl) (by rfl) (by rfl) (by rfl) ?_|refine pufv ⟨tab_ok⟩ (by rfl) (by rfl) (by rfl) (by rfl) ?_|refine opix (g:=g) (off:=0+n*15) (sCar x) (fun w1 hH=>car_at (hob hH (A:=carsO lo (some ⟨g,0,none⟩) G.cars.length c1 cs true) 0 rfl) hx) ⟨tab_ok⟩ (by rfl) (by rfl) (by simp only [Go.WideShapes.add_plain]; rfl) ?_|refine opix (g:=g) (off:=0+b*15) (sCar y) (fun w1 hH=>car_at (hob hH (A:=carsO lo (some ⟨g,0,none⟩) G.cars.length c1 cs true) 0 rfl) hy) ⟨tab_ok⟩ (by rfl) (by rfl) (by simp only [Go.WideShapes.add_plain]; rfl) ?_|refine callS (f:=86) (.i .i64 (coV G.c x a.fl a.wy)) (c1x) ?_|refine callS (f:=86) (.i .i64 (coV G.c y a.fl a.wy)) (c1y) ?_|refine br_t (beq_iff_eq.2 hA.1) ?_|refine br_f hA.2 ?_|refine back ⟨(n+1,(b:Int)),by show n+1≤_; omega,hb⟩ (wk ?_) ?_|refine fin_s ?_))
       all_goals first | (show G.cars.length - (n+1) < G.cars.length - n; omega)|skip
       all_goals (repeat' (first | exact trivial | rfl | ((conv=>whnf); refine And.intro ?_ ?_)))
    ·have hb:v=(blL G.c a.fl a.wy cs (n+1)).1:=by rw [hnx,if_neg (fun h=>hA h.1)]
     have hA2:(x.mo == 0)=true→x.br=false→False:=fun h1 h2=>hA ⟨beq_iff_eq.1 h1,h2⟩
     repeat' (first | refine gq_ ?_|((conv=>whnf); first | intro b5 | refine drA (id:=10) ⟨tab_ok⟩ [30] ?_|refine drA ⟨tab_ok⟩ [] ?_|refine bto ?_|refine bfo ?_|refine wr_i ?_|refine And.intro ?_ ?_|refine opiv ⟨tab_ok⟩ (by rfl) (by rfl) (by rfl) (by rfl) (by rfl) (by rfl) ⟨by omega,by omega⟩ ?_|refine puiv ⟨tab_ok⟩ (by rfl) (by rfl) (by rfl) (by rfl) (by rfl) (by rfl) ⟨by omega,by omega⟩ ?_|refine opfv ⟨tab_ok⟩ (by rfl) (by rfl) (by rfl) (by rfl) ?_|refine pufv ⟨tab_ok⟩ (by rfl) (by rfl) (by rfl) (by rfl) ?_|refine opix (g:=g) (off:=0+n*15) (sCar x) (fun w1 hH=>car_at (hob hH (A:=carsO lo (some ⟨g,0,none⟩) G.cars.length c1 cs true) 0 rfl) hx) ⟨tab_ok⟩ (by rfl) (by rfl) (by simp only [Go.WideShapes.add_plain]; rfl) ?_|refine back ⟨(n+1,v),by show n+1≤_; omega,hb⟩ (wk ?_) ?_|refine br_b (fun h=>?_) (fun h=>?_)|(exfalso; exact hA2 (by assumption) (by assumption))|refine fin_s ?_))
     all_goals first | (show G.cars.length - (n+1) < G.cars.length - n; omega)|skip
     all_goals (repeat' (first | exact trivial | rfl | ((conv=>whnf); refine And.intro ?_ ?_)))
   ·obtain rfl:n=G.cars.length:=by omega
    have hbI:bestI G.c cs a=v:=by rw [bestI_eq (show cs.length=G.cars.length from hn2),hv]
    by_cases hvn:v < 0
    ·have he:asgN G.c G.waits G.cars (i+1)=(ws,cs):=by rw [hs]; exact asg_none (p:=(ws,cs)) ha hc (by rw [hbI]; omega)
     repeat' (first | refine gs_ ?_|((conv=>whnf); first | intro b5 | refine bto ?_|refine bfo ?_|refine wr_i ?_|refine back ⟨(i+1,l,some ⟨g2,0,none⟩,c3),by show i+1≤_; omega,hl3⟩ (wk ?_ (by rfl) (by rfl) (by show [carsO _ _ _ _ (asgN G.c G.waits G.cars (i+1)).2 true,waitsO _ _ _ _ (asgN G.c G.waits G.cars (i+1)).1 true]=_; rw [he])) ?_|refine fin_s ?_))
     all_goals first | (show G.waits.length - (i+1) < G.waits.length - i; omega)|skip
     all_goals (repeat' (first | exact trivial | rfl | ((conv=>whnf); refine And.intro ?_ ?_)))
    ·obtain ⟨b,hvb⟩:∃ b:Nat,v=(b:Int):=⟨v.toNat,by omega⟩
     have hbn:b < G.cars.length:=by omega
     obtain ⟨y,hy⟩:∃ y,cs[b]?=some y:=⟨_,List.getElem?_eq_getElem (by omega)⟩
     subst hvb
     have he:asgN G.c G.waits G.cars (i+1)=(ws.set i { a with ca:=(b:Int) },cs.set b (hallX a y)):=by rw [hs]; exact asg_some (p:=(ws,cs)) ha hc hbI hy
     have hE:∀ w,(waitsO l (some ⟨g2,0,none⟩) G.waits.length c3 ws true).st w→Reads w w.heap.size 4 (some ⟨g2,0,none⟩) G.waits.length (rowsOf waitL ws):=fun w h=>own_reads h
     by_cases hwy:a.wy=1
     ·have hyy:hallX a y={ y with su:=bits .or .u64 y.su (bit a.fl) }:=by unfold hallX haU haD; rw [if_pos hwy,if_neg (by omega)]
      repeat' (first | refine gq_ ?_|((conv=>whnf); first | intro b5 | refine drA (id:=16) ⟨tab_ok⟩ [13,22] ?_|refine drA ⟨tab_ok⟩ [] ?_|refine bto ?_|refine bfo ?_|refine wr_i ?_|refine And.intro ?_ ?_|(refine op_know (p:=∃ g5,A5=some ⟨g5,0,none⟩) (fun w1 hH=>own_addr (hob hH (A:=waitsO w.heap.size A5 G.waits.length c5 ws true) 2 rfl) (by omega)) (fun hA5=>?_); obtain ⟨g5,rfl⟩:=hA5)|refine opiv ⟨tab_ok⟩ (by rfl) (by rfl) (by rfl) (by rfl) (by rfl) (by rfl) ⟨by omega,by omega⟩ ?_|refine puiv ⟨tab_ok⟩ (by rfl) (by rfl) (by rfl) (by rfl) (by rfl) (by rfl) ⟨by omega,by omega⟩ ?_|refine opfv ⟨tab_ok⟩ (by rfl) (by rfl) (by rfl) (by rfl) ?_|refine pufv ⟨tab_ok⟩ (by rfl) (by rfl) (by rfl) (by rfl) ?_|refine opb0 waitE (by rfl) Tryz.underlying32 (by kernel_rfl) (fun g0=>?_)|refine opao 2 1 (e:=76) (lo:=w.heap.size) (size:=4) (bytes:=32) (z:=.agg #[.int .i64 0,.int .i64 0,.int .i64 0,.int .i64 0]) (A:=rwO waitE w.heap.size (some ⟨g0,0,none⟩) 0 0 [] true) (E:=waitsO l (some ⟨g2,0,none⟩) G.waits.length c3 ws true) (vals:=[]) (cells:=rowsOf waitL ws) (zs:=rowsOf waitL ws) (n2:=G.waits.length) (fun A' c'=>waitsO w.heap.size A' G.waits.length c' ws true) (by rfl) (by rfl) (by rfl) (by rfl) (by rfl) rfl rfl (fun w h=>h) (fun A' c' w h=>h) (fun _ _=>rfl) hE Tryz.underlying32 (by kernel_rfl) rfl (by decide) (by decide) (waits_one _) (by omega) (fun w hH=>hH.upd.size) (by omega) (by rfl) (fun A5 c5=>?_)|refine opsc ⟨tab_ok⟩ 2 i 2 waitE (A:=waitsO w.heap.size (some ⟨g5,0,none⟩) G.waits.length c5 ws true) (waitsO w.heap.size (some ⟨g5,0,none⟩) G.waits.length c5 (ws.set i { a with ca:=(b:Int) }) true) a { a with ca:=(b:Int) } (by rfl) (by rfl) (by simp only [Go.WideShapes.add_plain]; rfl) (by rfl) (by rfl) rfl (fun w h=>h) ha (by decide) (by rfl) (fun w w' _ h _=>h) (List.mem_singleton.2 rfl) (fun g h=>h) ?_|refine br_t (beq_iff_eq.2 hwy) ?_|refine callQ (f:=87) (.i .u64 (bit a.fl)) (fun w=>bitR _ w) ?_|refine opxc (g:=g) (off:=0+b*15+12+1) (.i .u64 y.su) (fun w1 hH=>cell_k (k:=13) (car_at (hob hH (A:=carsO lo (some ⟨g,0,none⟩) G.cars.length c1 cs true) 0 rfl) hy) rfl) ⟨tab_ok⟩ (by rfl) (by rfl) (by simp only [Go.WideShapes.add_plain]; rfl) ?_|refine opsc ⟨tab_ok⟩ 0 b 13 carE (A:=carsO lo (some ⟨g,0,none⟩) G.cars.length c1 cs true) (carsO lo (some ⟨g,0,none⟩) G.cars.length c1 (cs.set b { y with su:=bits .or .u64 y.su (bit a.fl) }) true) y { y with su:=bits .or .u64 y.su (bit a.fl) } (by rfl) (by rfl) (by simp only [Go.WideShapes.add_plain]; rfl) (by rfl) (by rfl) rfl (fun w h=>h) hy (by decide) (by rfl) (fun w w' _ h _=>h) (List.mem_singleton.2 rfl) (fun g h=>h) ?_|refine back ⟨(i+1,w.heap.size,some ⟨g5,0,none⟩,c5),by show i+1≤_; omega,hlo⟩ (wkh [carsO lo (some ⟨g,0,none⟩) G.cars.length c1 (cs.set b { y with su:=bits .or .u64 y.su (bit a.fl) }) true,waitsO w.heap.size (some ⟨g5,0,none⟩) G.waits.length c5 (ws.set i { a with ca:=(b:Int) }) true] (fun w1 hH=>hH.sub (List.Sublist.cons₂ _ (List.Sublist.cons _ (List.Sublist.refl _)))) (wk ?_ (by rfl) (by rfl) (by show [carsO _ _ _ _ (asgN G.c G.waits G.cars (i+1)).2 true,waitsO _ _ _ _ (asgN G.c G.waits G.cars (i+1)).1 true]=_; rw [he,hyy]))) ?_|refine fin_s ?_))
      all_goals first | (show G.waits.length - (i+1) < G.waits.length - i; omega)|skip
      all_goals (repeat' (first | exact trivial | rfl | ((conv=>whnf); refine And.intro ?_ ?_)))
     ·have hwy2:a.wy=2:=by have:=hka.2; omega
      have hyy:hallX a y={ y with sd:=bits .or .u64 y.sd (bit a.fl) }:=by unfold hallX haU haD; rw [if_neg hwy,if_pos hwy2]
      repeat' (first | refine gq_ ?_|((conv=>whnf); first | intro b5 | refine drA (id:=17) ⟨tab_ok⟩ [13,22] ?_|refine drA ⟨tab_ok⟩ [] ?_|refine bto ?_|refine bfo ?_|refine wr_i ?_|refine And.intro ?_ ?_|(refine op_know (p:=∃ g5,A5=some ⟨g5,0,none⟩) (fun w1 hH=>own_addr (hob hH (A:=waitsO w.heap.size A5 G.waits.length c5 ws true) 2 rfl) (by omega)) (fun hA5=>?_); obtain ⟨g5,rfl⟩:=hA5)|refine opiv ⟨tab_ok⟩ (by rfl) (by rfl) (by rfl) (by rfl) (by rfl) (by rfl) ⟨by omega,by omega⟩ ?_|refine puiv ⟨tab_ok⟩ (by rfl) (by rfl) (by rfl) (by rfl) (by rfl) (by rfl) ⟨by omega,by omega⟩ ?_|refine opfv ⟨tab_ok⟩ (by rfl) (by rfl) (by rfl) (by rfl) ?_|refine pufv ⟨tab_ok⟩ (by rfl) (by rfl) (by rfl) (by rfl) ?_|refine opb0 waitE (by rfl) Tryz.underlying32 (by kernel_rfl) (fun g0=>?_)|refine opao 2 1 (e:=76) (lo:=w.heap.size) (size:=4) (bytes:=32) (z:=.agg #[.int .i64 0,.int .i64 0,.int .i64 0,.int .i64 0]) (A:=rwO waitE w.heap.size (some ⟨g0,0,none⟩) 0 0 [] true) (E:=waitsO l (some ⟨g2,0,none⟩) G.waits.length c3 ws true) (vals:=[]) (cells:=rowsOf waitL ws) (zs:=rowsOf waitL ws) (n2:=G.waits.length) (fun A' c'=>waitsO w.heap.size A' G.waits.length c' ws true) (by rfl) (by rfl) (by rfl) (by rfl) (by rfl) rfl rfl (fun w h=>h) (fun A' c' w h=>h) (fun _ _=>rfl) hE Tryz.underlying32 (by kernel_rfl) rfl (by decide) (by decide) (waits_one _) (by omega) (fun w hH=>hH.upd.size) (by omega) (by rfl) (fun A5 c5=>?_)|refine opsc ⟨tab_ok⟩ 2 i 2 waitE (A:=waitsO w.heap.size (some ⟨g5,0,none⟩) G.waits.length c5 ws true) (waitsO w.heap.size (some ⟨g5,0,none⟩) G.waits.length c5 (ws.set i { a with ca:=(b:Int) }) true) a { a with ca:=(b:Int) } (by rfl) (by rfl) (by simp only [Go.WideShapes.add_plain]; rfl) (by rfl) (by rfl) rfl (fun w h=>h) ha (by decide) (by rfl) (fun w w' _ h _=>h) (List.mem_singleton.2 rfl) (fun g h=>h) ?_|refine br_f (beq_eq_false_iff_ne.2 hwy) ?_|refine callQ (f:=87) (.i .u64 (bit a.fl)) (fun w=>bitR _ w) ?_|refine opxc (g:=g) (off:=0+b*15+12+2) (.i .u64 y.sd) (fun w1 hH=>cell_k (k:=14) (car_at (hob hH (A:=carsO lo (some ⟨g,0,none⟩) G.cars.length c1 cs true) 0 rfl) hy) rfl) ⟨tab_ok⟩ (by rfl) (by rfl) (by simp only [Go.WideShapes.add_plain]; rfl) ?_|refine opsc ⟨tab_ok⟩ 0 b 14 carE (A:=carsO lo (some ⟨g,0,none⟩) G.cars.length c1 cs true) (carsO lo (some ⟨g,0,none⟩) G.cars.length c1 (cs.set b { y with sd:=bits .or .u64 y.sd (bit a.fl) }) true) y { y with sd:=bits .or .u64 y.sd (bit a.fl) } (by rfl) (by rfl) (by simp only [Go.WideShapes.add_plain]; rfl) (by rfl) (by rfl) rfl (fun w h=>h) hy (by decide) (by rfl) (fun w w' _ h _=>h) (List.mem_singleton.2 rfl) (fun g h=>h) ?_|refine back ⟨(i+1,w.heap.size,some ⟨g5,0,none⟩,c5),by show i+1≤_; omega,hlo⟩ (wkh [carsO lo (some ⟨g,0,none⟩) G.cars.length c1 (cs.set b { y with sd:=bits .or .u64 y.sd (bit a.fl) }) true,waitsO w.heap.size (some ⟨g5,0,none⟩) G.waits.length c5 (ws.set i { a with ca:=(b:Int) }) true] (fun w1 hH=>hH.sub (List.Sublist.cons₂ _ (List.Sublist.cons _ (List.Sublist.refl _)))) (wk ?_ (by rfl) (by rfl) (by show [carsO _ _ _ _ (asgN G.c G.waits G.cars (i+1)).2 true,waitsO _ _ _ _ (asgN G.c G.waits G.cars (i+1)).1 true]=_; rw [he,hyy]))) ?_|refine fin_s ?_))
      all_goals first | (show G.waits.length - (i+1) < G.waits.length - i; omega)|skip
      all_goals (repeat' (first | exact trivial | rfl | ((conv=>whnf); refine And.intro ?_ ?_)))
  ·have he:asgN G.c G.waits G.cars (i+1)=(ws,cs):=by rw [hs]; exact asg_no (p:=(ws,cs)) ha hc
   repeat' (first | refine gs_ ?_|((conv=>whnf); first | intro b | refine bto ?_|refine bfo ?_|refine wr_i ?_|refine opiv ⟨tab_ok⟩ (by rfl) (by rfl) (by rfl) (by rfl) (by rfl) (by rfl) ⟨by omega,by omega⟩ ?_|refine puiv ⟨tab_ok⟩ (by rfl) (by rfl) (by rfl) (by rfl) (by rfl) (by rfl) ⟨by omega,by omega⟩ ?_|refine opfv ⟨tab_ok⟩ (by rfl) (by rfl) (by rfl) (by rfl) ?_|refine pufv ⟨tab_ok⟩ (by rfl) (by rfl) (by rfl) (by rfl) ?_|refine opix (g:=g2) (off:=0+i*4) [.i .i64 a.fl,.i .i64 a.wy,.i .i64 a.ca,.i .i64 a.si] (fun w1 hH=>wait_at (hob hH (A:=waitsO l (some ⟨g2,0,none⟩) G.waits.length c3 ws true) 1 rfl) ha) ⟨tab_ok⟩ (by rfl) (by rfl) (by simp only [Go.WideShapes.add_plain]; rfl) ?_|refine back ⟨(i+1,l,some ⟨g2,0,none⟩,c3),by show i+1≤_; omega,hl3⟩ (wk ?_ (by rfl) (by rfl) (by show [carsO _ _ _ _ (asgN G.c G.waits G.cars (i+1)).2 true,waitsO _ _ _ _ (asgN G.c G.waits G.cars (i+1)).1 true]=_; rw [he])) ?_|refine fin_s ?_))
   all_goals first | (show G.waits.length - (i+1) < G.waits.length - i; omega)|skip
   all_goals (repeat' (first | exact trivial | rfl | ((conv=>whnf); refine And.intro ?_ ?_)))
 ·obtain rfl:i=G.waits.length:=by omega
  refine sm_run ⟨tab_ok⟩ ?_
  repeat' (first | refine gs_ ?_|((conv=>whnf); first | intro b | refine bto ?_|refine bfo ?_|refine wr_i ?_|refine fin_ro 0 1 (by rfl) (by rfl) (by rfl) (by rfl) h0 (Nat.le_refl _) hl3 (hlen _).2.symm (hlen _).1.symm (by rfl) (by rfl) (by rfl)|refine fin_s ?_))
end Rg
namespace Rg
open Go.RowKit Ba Mem En Mo Go.Proofs.YtpiiblkiddcgcaaGreat.Ty Go.Proofs.YtpiiblkiddcgcaaGreat.St Gr
open Ct (cfgA carA tkV tkF tkW tkS mayB_iff)
open Et (carsO car_at)
open Rf (tickR)
set_option maxRecDepth 100000
attribute [local irreducible] Go.Calls isW tkV tkF tkW tkS asgN bestI
set_option maxHeartbeats 4000000
theorem now_next {n:Int} (h0:0≤n) (h1:n≤1000000):nowV n=n+1:=by
 unfold nowV
 have e:∀ x:Int,0≤x→x≤1000002→Tm.cl x=x:=fun x h2 h3=>by unfold Tm.cl; rw [if_neg (by omega),if_neg (by omega)]
 rw [e n h0 (by omega),e 1 (by omega) (by omega),e (n+1) (by omega) (by omega)]
attribute [local irreducible] nowV
theorem tickRG {lo q T:Nat} {G:GrV} {P:RP} {w:World} (hg:RO lo q G P w) (hl:G.waits.length≤10000) (hlc:G.cars.length≤10000) (hpos:0 < G.cars.length) (hS:∀ x∈G.cars,SafeX G.c T x) (hT:T≤1000000) (hk2:∀ a∈G.waits,okW a) (hWQ:WQ G.waits) (hn0:0≤G.now) (hn1:G.now≤1000000) :
  Calls Tryz.prog 9 #[.pointer (some ⟨q,0,none⟩)] w fun e w'=>∃ y:RP×Option Addr×Nat,e=.returned (.slice y.2.1 (tickP G).2.2.length y.2.2)∧RO lo q (tickG G) y.1 w'∧WaitsAt w.heap.size y.2.1 (tickP G).2.2.length y.2.2 (tickP G).2.2 w'∧Upd (FP q P) w w'∧(∀ g∈FP q y.1,g∈FP q P∨w.heap.size≤g)∧∀ g∈blkOf y.2.1,w.heap.size≤g∧g∉FP q y.1:=by
 have h0:=hg.1
 have hlo:lo≤w.heap.size:=Nat.le_of_lt (Nat.lt_of_le_of_lt h0 hg.2.1.lt)
 obtain ⟨A1,c1,A2,c2⟩:=P
 have hk1:∀ x∈G.cars,okT x:=fun x hx=>(hS x hx).ok hT
 have hnow:=now_next hn0 hn1
 obtain ⟨D,hD⟩:∃ D,D=asgG { G with now:=G.now+1 }:=⟨_,rfl⟩
 have hDc:D.c=G.c:=by rw [hD]; rfl
 have hDn:D.now=nowV G.now:=by rw [hD,hnow]; rfl
 have hD1:(asgN G.c G.waits G.cars G.waits.length).2=D.cars:=by rw [hD]; rfl
 have hD2:(asgN G.c G.waits G.cars G.waits.length).1=D.waits:=by rw [hD]; rfl
 have hl1:D.cars.length=G.cars.length:=by rw [← hD1]; exact (asg_len G.c G.waits G.cars _).2
 have hl2:D.waits.length=G.waits.length:=by rw [← hD2]; exact (asg_len G.c G.waits G.cars _).1
 have hSD:∀ x∈D.cars,SafeX D.c T x:=by rw [← hD1,hDc]; exact asg_safe hS _
 have hWD:WQ D.waits:=by rw [← hD2]; exact asg_WQ hWQ _
 have htp:tickP G=tkN D.c D.cars D.waits D.cars.length:=by unfold tickP; rw [hD1,hD2,hDc,hl1]
 have htg:tickG G=⟨D.c,(tickP G).1,(tickP G).2.1,D.now⟩:=by unfold tickG; rw [hDc,hDn]; unfold nowV; rfl
 have hlw:∀ w1,Upd (FP q ⟨A1,c1,A2,c2⟩) w w1→w.heap.size≤w1.heap.size:=fun w1 h=>h.size
 have hlw0:lo≤w.heap.size:=hlo
 have hcA:∀ w1,Blk w1 q 72 (grpA { G with now:=G.now+1 } (.slice A1 G.cars.length c1) (.slice A2 G.waits.length c2))→(pairO (carsO lo A1 G.cars.length c1 G.cars true) (waitsO lo A2 G.waits.length c2 G.waits true)).st w1→Calls Tryz.prog 31 #[.pointer (some ⟨q,0,none⟩)] w1 fun e w'=>∃ x:RP,e=.returned (.tuple #[])∧Blk w' q 72 (grpA D (.slice x.A1 D.cars.length x.c1) (.slice x.A2 D.waits.length x.c2))∧(pairO (carsO lo x.A1 D.cars.length x.c1 D.cars true) (waitsO lo x.A2 D.waits.length x.c2 D.waits true)).st w'∧Upd (q::(blkOf A1++blkOf A2)) w1 w'∧∀ g∈(blkOf x.A1++blkOf x.A2),g∈(blkOf A1++blkOf A2)∨w1.heap.size≤g:=fun w1 hB hA=>by
  have hg1:RO lo q { G with now:=G.now+1 } ⟨A1,c1,A2,c2⟩ w1:=⟨h0,hB,hA.1,hA.2⟩
  have:=assignR hg1 hl hlc hpos hk1 hk2 hWQ
  rw [← hD] at this
  exact this.mono (fun e w' h=>h.parts)
 refine entH tab_ok (Hold.pair (hold_ro hg) rfl rfl) [.p 0 0] Tryz.func9 Tryz.ntmps9 rfl rfl ?_
 repeat' (first | refine gs_ ?_|((conv=>whnf); first | refine br_t (decide_eq_true (show G.now < 1099511627776 by omega)) ?_|refine wr (wrG _ (by omega) (by omega)) ?_|refine fin_s ?_))
 conv=>whnf
 refine callRO (f:=31) 0 0 (A:=pairO (carsO lo A1 G.cars.length c1 G.cars true) (waitsO lo A2 G.waits.length c2 G.waits true)) (ι:=RP) (fun _=>.t []) (fun P'=>[.i .i64 D.c.ca,.i .i64 D.c.fl,.i .i64 D.c.ft,.i .i64 D.c.se,.i .i64 D.c.dr,.i .i64 D.c.dw,.i .i64 D.c.ho,.i .i64 D.c.re,.i .i64 D.c.yi,.i .i64 D.c.qu,.i .i64 D.c.qo,.i .i64 D.c.lo,.i .i64 D.c.sl,.i .i64 D.c.rt,.i .i64 D.c.cp,.i .i64 D.c.tr,.i .i64 D.c.de,.i .i64 D.c.wi,.v (.slice P'.A1 D.cars.length P'.c1),.v (.slice P'.A2 D.waits.length P'.c2),.i .i64 D.now]) (fun P'=>pairO (carsO lo P'.A1 D.cars.length P'.c1 D.cars true) (waitsO lo P'.A2 D.waits.length P'.c2 D.waits true)) (fun w1 hH hB hA hne=>?_) (fun P'=>?_)
 ·refine (hcA w1 hB hA).mono (fun e w' h=>?_)
  exact h
 repeat' (first | refine gs_ ?_|((conv=>whnf); first | refine fin_s ?_))
 conv=>whnf
 obtain ⟨A1',c1',A2',c2'⟩:=P'
 have hpos2:0 < D.cars.length:=by omega
 refine sm_know (p:=∃ g,A1'=some ⟨g,0,none⟩) (fun w1 hH=>own_addr (hob hH (A:=pairO (carsO lo A1' D.cars.length c1' D.cars true) (waitsO lo A2' D.waits.length c2' D.waits true)) 0 rfl).1 hpos2) (fun hA1=>?_)
 obtain ⟨g,rfl⟩:=hA1
 generalize c1'=c1
 obtain ⟨lw,hlwe⟩:∃ lw,lw=w.heap.size:=⟨_,rfl⟩
 rw [← hlwe] at hlw hlw0 ⊢
 refine sm_hold _ [carsO lo (some ⟨g,0,none⟩) D.cars.length c1 D.cars true,waitsO lo A2' D.waits.length c2' D.waits true,waitsO lw none 0 0 [] true] (by rfl) (fun w1 hH=>Hold.addObj (Hold.unpair hH rfl rfl (fun h1 h2 b hb=>by
  rcases own_at h1 with ⟨h,_⟩ | ⟨g1,cur,h,_,B1,_⟩
  ·cases h
  ·cases h
   have e:b=g:=by simpa [carsO,blkOf] using hb
   subst e
   exact own_ne_ty h2 B1 (by decide))) (waitsO lw none 0 0 [] true) (World.ownsRow_nil _ _ _ _) (by intro _ g hg; cases hg) (by intro r _ _ hg; cases hg) (by intro A hA _ g hg hg2; cases hg2)) ?_
 refine lpS ⟨tab_ok⟩ (ι:={y:Nat×Nat×Option Addr×Nat×Option Addr×Nat×List CarV×List WaitV×List WaitV // (y.1≤D.cars.length∧lo≤y.2.1)∧tkN D.c D.cars D.waits y.1=y.2.2.2.2.2.2}) (fun y=>match y with | ⟨(n,l,A3,c3,Ao,co,tc,tw,ts),_⟩=>⟨[(0,.p 0 0),(3,.v (.slice Ao ts.length co)),(4,.i .i64 (n:Int))],[⟨q,72,true,0,[],[.i .i64 D.c.ca,.i .i64 D.c.fl,.i .i64 D.c.ft,.i .i64 D.c.se,.i .i64 D.c.dr,.i .i64 D.c.dw,.i .i64 D.c.ho,.i .i64 D.c.re,.i .i64 D.c.yi,.i .i64 D.c.qu,.i .i64 D.c.qo,.i .i64 D.c.lo,.i .i64 D.c.sl,.i .i64 D.c.rt,.i .i64 D.c.cp,.i .i64 D.c.tr,.i .i64 D.c.de,.i .i64 D.c.wi,.v (.slice (some ⟨g,0,none⟩) D.cars.length c1),.v (.slice A3 tw.length c3),.i .i64 D.now],[],true⟩],[carsO lo (some ⟨g,0,none⟩) D.cars.length c1 tc true,waitsO l A3 tw.length c3 tw true,waitsO lw Ao ts.length co ts true]⟩) (fun y=>D.cars.length - y.1.1) ⟨(0,lo,A2',c2',none,0,D.cars,D.waits,[]),⟨Nat.zero_le _,Nat.le_refl _⟩,rfl⟩ (wk ?_) ?_
 ·repeat' (first | exact trivial | rfl | ((conv=>whnf); refine And.intro ?_ ?_))
 rintro ⟨⟨n,l,A3,c3,Ao,co,tc,tw,ts⟩,⟨hn,hl3⟩,hTN⟩
 have hn:n≤D.cars.length:=hn
 have hl3:lo≤l:=hl3
 have hTN:tkN D.c D.cars D.waits n=(tc,tw,ts):=hTN
 have l1:tc.length=D.cars.length:=by have:=tk_len D.c D.cars D.waits n; rw [hTN] at this; exact this
 have l2:tw.length≤D.waits.length∧ts.length≤n:=by have:=tk_wl D.c D.cars D.waits n; rw [hTN] at this; exact this
 have hWn:WQ tw:=by have:=tkN_WQ (c:=D.c) (cs:=D.cars) hWD n; rw [hTN] at this; exact this
 by_cases hlt:n < D.cars.length
 ·obtain ⟨x,hx⟩:∃ x,tc[n]?=some x:=⟨_,List.getElem?_eq_getElem (by omega)⟩
  have hxD:D.cars[n]?=some x:=by have:=tk_at D.c D.cars D.waits n n (Nat.le_refl _); rw [hTN] at this; rw [← this]; exact hx
  have hSx:=hSD x (List.mem_of_getElem? hxD)
  have hs:tkN D.c D.cars D.waits (n+1)=tkStep D.c (tc,tw,ts) n:=by rw [← hTN]; rfl
  obtain ⟨z,hz⟩:∃ z,z=tkV D.c x:=⟨_,rfl⟩
  have cT:=tickR D.c x hSx.1 hSx.2.1.1 hSx.2.1.2.1 hSx.2.1.2.2 (by have:=hSx.2.2.1; omega) (by have:=hSx.2.2.2; omega)
  rw [← hz] at cT
  refine sm_know (p:=0 < tw.length→∃ g2,A3=some ⟨g2,0,none⟩) (fun w1 hH h=>own_addr (hob hH (A:=waitsO l A3 tw.length c3 tw true) 1 rfl) h) (fun hA3=>?_)
  refine sm_run ⟨tab_ok⟩ ?_
  repeat' (first | refine gq_ ?_|((conv=>whnf); first | refine bto ?_|refine bfo ?_|refine wr_i ?_|refine fin_s ?_))
  conv=>whnf
  refine sm_meet (ι:=Bool×Nat×Nat) (fun y=>match y with | (false,b1,b2)=>⟨[(0,.p 0 0),(3,.v (.slice Ao ts.length co)),(4,.i .i64 (n:Int)),(5,.p 1 0),(6,.p 2 0),(7,.b (tkS x))],[⟨q,72,true,0,[],[.i .i64 D.c.ca,.i .i64 D.c.fl,.i .i64 D.c.ft,.i .i64 D.c.se,.i .i64 D.c.dr,.i .i64 D.c.dw,.i .i64 D.c.ho,.i .i64 D.c.re,.i .i64 D.c.yi,.i .i64 D.c.qu,.i .i64 D.c.qo,.i .i64 D.c.lo,.i .i64 D.c.sl,.i .i64 D.c.rt,.i .i64 D.c.cp,.i .i64 D.c.tr,.i .i64 D.c.de,.i .i64 D.c.wi,.v (.slice (some ⟨g,0,none⟩) D.cars.length c1),.v (.slice A3 tw.length c3),.i .i64 D.now],[],true⟩,⟨b1,67,true,0,[],(sCar z),[],true⟩,⟨b2,74,true,0,[],[.i .i64 (tkF x),.i .i64 (tkW x)],[],true⟩],[carsO lo (some ⟨g,0,none⟩) D.cars.length c1 tc true,waitsO l A3 tw.length c3 tw true,waitsO lw Ao ts.length co ts true]⟩|(true,b1,b2)=>⟨[(0,.p 0 0),(3,.v (.slice Ao ts.length co)),(4,.i .i64 (n:Int)),(5,.p 2 0),(6,.p 1 0),(7,.b (tkS x))],[⟨q,72,true,0,[],[.i .i64 D.c.ca,.i .i64 D.c.fl,.i .i64 D.c.ft,.i .i64 D.c.se,.i .i64 D.c.dr,.i .i64 D.c.dw,.i .i64 D.c.ho,.i .i64 D.c.re,.i .i64 D.c.yi,.i .i64 D.c.qu,.i .i64 D.c.qo,.i .i64 D.c.lo,.i .i64 D.c.sl,.i .i64 D.c.rt,.i .i64 D.c.cp,.i .i64 D.c.tr,.i .i64 D.c.de,.i .i64 D.c.wi,.v (.slice (some ⟨g,0,none⟩) D.cars.length c1),.v (.slice A3 tw.length c3),.i .i64 D.now],[],true⟩,⟨b1,74,true,0,[],[.i .i64 (tkF x),.i .i64 (tkW x)],[],true⟩,⟨b2,67,true,0,[],(sCar z),[],true⟩],[carsO lo (some ⟨g,0,none⟩) D.cars.length c1 tc true,waitsO l A3 tw.length c3 tw true,waitsO lw Ao ts.length co ts true]⟩) ?_ ?_
  ·repeat' (first | refine gq_ ?_|((conv=>whnf); first | ((fail_if_success (have:=b1)); intro b1)|intro b2 | refine drA (id:=8) ⟨tab_ok⟩ [10] ?_|refine bto ?_|refine bfo ?_|refine wr_i ?_|refine And.intro ?_ ?_|refine opiv ⟨tab_ok⟩ (by rfl) (by rfl) (by rfl) (by rfl) (by rfl) (by rfl) ⟨by omega,by omega⟩ ?_|refine puiv ⟨tab_ok⟩ (by rfl) (by rfl) (by rfl) (by rfl) (by rfl) (by rfl) ⟨by omega,by omega⟩ ?_|refine opfv ⟨tab_ok⟩ (by rfl) (by rfl) (by rfl) (by rfl) ?_|refine pufv ⟨tab_ok⟩ (by rfl) (by rfl) (by rfl) (by rfl) ?_|refine opix (g:=g) (off:=0+n*15) (sCar x) (fun w1 hH=>car_at (hob hH (A:=carsO lo (some ⟨g,0,none⟩) D.cars.length c1 tc true) 0 rfl) hx) ⟨tab_ok⟩ (by rfl) (by rfl) (by simp only [Go.WideShapes.add_plain]; rfl) ?_|refine callS (f:=32) (.t [.a (sCar z),.a [.i .i64 (tkF x),.i .i64 (tkW x)],.b (tkS x)]) (cT) ?_|refine meet (false,b1,b2) (wk ?_ (by rfl) (by rfl) (by rfl))|refine meet (true,b1,b2) (wk ?_ (by rfl) (by rfl) (by rfl))|refine fin_s ?_))
   all_goals (repeat' (first | exact trivial | rfl | ((conv=>whnf); refine And.intro ?_ ?_)))
  rintro ⟨o,b1,b2⟩
  have heN:tkS x=false→tkN D.c D.cars D.waits (n+1)=(tc.set n z,tw,ts):=fun hsv=>by rw [hs,tkS_no hx hsv,hz]
  have heY:tkS x=true→tkN D.c D.cars D.waits (n+1)=(tc.set n z,tw.filter (fun a=>!isW (tkF x) (tkW x) a),ts++tw.filter (isW (tkF x) (tkW x))):=fun hsv=>by rw [hs,tkS_part hWn.2 hx hsv,hz]
  cases o with
  | false =>
   cases hsv:tkS x with
   | false =>
    have heT:=heN hsv
    repeat' (first | refine gq_ ?_|((conv=>whnf); first | refine drA (id:=9) ⟨tab_ok⟩ [7] ?_|refine drA ⟨tab_ok⟩ [] ?_|refine bto ?_|refine bfo ?_|refine wr_i ?_|refine And.intro ?_ ?_|refine opiv ⟨tab_ok⟩ (by rfl) (by rfl) (by rfl) (by rfl) (by rfl) (by rfl) ⟨by omega,by omega⟩ ?_|refine puiv ⟨tab_ok⟩ (by rfl) (by rfl) (by rfl) (by rfl) (by rfl) (by rfl) ⟨by omega,by omega⟩ ?_|refine opfv ⟨tab_ok⟩ (by rfl) (by rfl) (by rfl) (by rfl) ?_|refine pufv ⟨tab_ok⟩ (by rfl) (by rfl) (by rfl) (by rfl) ?_|refine opst ⟨tab_ok⟩ 0 n carE z (sCar z) (g:=g) (lo:=lo) (n:=D.cars.length) (c:=c1) (ls:=tc) (by rfl) (by rfl) (by simp only [Go.WideShapes.add_plain,Nat.zero_add]; rfl) (by rfl) (by rfl) (by rfl) (by omega) (by decide) (by rfl) ?_|refine back ⟨(n+1,l,A3,c3,Ao,co,tc.set n z,tw,ts),⟨by show n+1≤_; omega,hl3⟩,heT⟩ (wk ?_) ?_|refine fin_s ?_))
    all_goals first | (show D.cars.length - (n+1) < D.cars.length - n; omega)|skip
    all_goals (repeat' (first | exact trivial | rfl | ((conv=>whnf); refine And.intro ?_ ?_)))
   | true =>
    have heT:=heY hsv
    repeat' (first | refine gq_ ?_|((conv=>whnf); first | refine drA (id:=9) ⟨tab_ok⟩ [7] ?_|refine drA ⟨tab_ok⟩ [] ?_|refine bto ?_|refine bfo ?_|refine wr_i ?_|refine And.intro ?_ ?_|refine opiv ⟨tab_ok⟩ (by rfl) (by rfl) (by rfl) (by rfl) (by rfl) (by rfl) ⟨by omega,by omega⟩ ?_|refine puiv ⟨tab_ok⟩ (by rfl) (by rfl) (by rfl) (by rfl) (by rfl) (by rfl) ⟨by omega,by omega⟩ ?_|refine opfv ⟨tab_ok⟩ (by rfl) (by rfl) (by rfl) (by rfl) ?_|refine pufv ⟨tab_ok⟩ (by rfl) (by rfl) (by rfl) (by rfl) ?_|refine opst ⟨tab_ok⟩ 0 n carE z (sCar z) (g:=g) (lo:=lo) (n:=D.cars.length) (c:=c1) (ls:=tc) (by rfl) (by rfl) (by simp only [Go.WideShapes.add_plain,Nat.zero_add]; rfl) (by rfl) (by rfl) (by rfl) (by omega) (by decide) (by rfl) ?_|refine fin_s ?_))
    conv=>whnf
    refine sm_hold _ [carsO lo (some ⟨g,0,none⟩) D.cars.length c1 (tc.set n z) true,waitsO l A3 tw.length c3 tw true,waitsO lw Ao ts.length co ts true,waitsO lw none 0 0 [] true] (by rfl) (fun w1 hH=>Hold.addObj (ob:=[carsO lo (some ⟨g,0,none⟩) D.cars.length c1 (tc.set n z) true,waitsO l A3 tw.length c3 tw true,waitsO lw Ao ts.length co ts true]) hH (waitsO lw none 0 0 [] true) (World.ownsRow_nil _ _ _ _) (by intro _ g hg; cases hg) (by intro r _ _ hg; cases hg) (by intro A hA _ g hg hg2; cases hg2)) ?_
    refine lp ⟨tab_ok⟩ (ι:={y:Nat×Option Addr×Nat×Option Addr×Nat×List WaitV×List WaitV // y.1≤tw.length∧y.2.2.2.2.2.1=(tw.take y.1).filter (fun a=>!isW (tkF x) (tkW x) a)∧y.2.2.2.2.2.2=ts++(tw.take y.1).filter (isW (tkF x) (tkW x))}) (fun y=>match y with | ⟨(k,Ar,cr,Ap,cp,pr,po),_⟩=>⟨[(0,.p 0 0),(3,.v (.slice Ap po.length cp)),(4,.i .i64 (n:Int)),(6,.p 2 0),(8,.v (.slice Ar pr.length cr)),(9,.i .i64 (k:Int))],[⟨q,72,true,0,[],[.i .i64 D.c.ca,.i .i64 D.c.fl,.i .i64 D.c.ft,.i .i64 D.c.se,.i .i64 D.c.dr,.i .i64 D.c.dw,.i .i64 D.c.ho,.i .i64 D.c.re,.i .i64 D.c.yi,.i .i64 D.c.qu,.i .i64 D.c.qo,.i .i64 D.c.lo,.i .i64 D.c.sl,.i .i64 D.c.rt,.i .i64 D.c.cp,.i .i64 D.c.tr,.i .i64 D.c.de,.i .i64 D.c.wi,.v (.slice (some ⟨g,0,none⟩) D.cars.length c1),.v (.slice A3 tw.length c3),.i .i64 D.now],[],true⟩,⟨b1,67,true,0,[],(sCar z),[],true⟩,⟨b2,74,true,0,[],[.i .i64 (tkF x),.i .i64 (tkW x)],[],true⟩],[carsO lo (some ⟨g,0,none⟩) D.cars.length c1 (tc.set n z) true,waitsO l A3 tw.length c3 tw true,waitsO lw Ap po.length cp po true,waitsO lw Ar pr.length cr pr true]⟩) (fun y=>tw.length - y.1.1) ⟨(0,none,0,Ao,co,[],ts),Nat.zero_le _,by simp,by simp⟩ (wk ?_) ?_
    ·repeat' (first | exact trivial | rfl | ((conv=>whnf); refine And.intro ?_ ?_))
    rintro ⟨⟨k,Ar,cr,Ap,cp,pr,po⟩,hk,hpr,hpo⟩
    have hk:k≤tw.length:=hk
    have hpr:pr=(tw.take k).filter (fun a=>!isW (tkF x) (tkW x) a):=hpr
    have hpo:po=ts++(tw.take k).filter (isW (tkF x) (tkW x)):=hpo
    have hprl:pr.length≤10000:=by rw [hpr]; have:=List.length_filter_le (fun a=>!isW (tkF x) (tkW x) a) (tw.take k); simp at this; omega
    have hpol:po.length≤20000:=by rw [hpo,List.length_append]; have:=List.length_filter_le (isW (tkF x) (tkW x)) (tw.take k); simp at this; omega
    by_cases hkl:k < tw.length
    ·obtain ⟨a,ha⟩:∃ a,tw[k]?=some a:=⟨_,List.getElem?_eq_getElem hkl⟩
     obtain ⟨g2,hA3⟩:=hA3 (by omega)
     subst hA3
     have hnx:tw.take (k+1)=tw.take k++[a]:=by rw [List.take_succ,ha]; rfl
     cases hW:isW (tkF x) (tkW x) a with
     | true =>
      have e1:po++[a]=ts++(tw.take (k+1)).filter (isW (tkF x) (tkW x)):=by rw [hnx,List.filter_append,List.filter_cons_of_pos hW,hpo,List.append_assoc]; rfl
      have e2:pr=(tw.take (k+1)).filter (fun a=>!isW (tkF x) (tkW x) a):=by rw [hnx,List.filter_append,List.filter_cons_of_neg (by rw [hW]; decide),hpr]; simp
      have hE:((a.fl == tkF x) && ((a.wy == tkW x) && true))=true:=by rw [Bool.and_true]; have h:=hW; unfold isW at h; exact h
      repeat' (first | refine gq_ ?_|((conv=>whnf); first | refine drA (id:=15) ⟨tab_ok⟩ [7] ?_|refine drA ⟨tab_ok⟩ [] ?_|refine bto ?_|refine bfo ?_|refine wr_i ?_|refine And.intro ?_ ?_|refine opiv ⟨tab_ok⟩ (by rfl) (by rfl) (by rfl) (by rfl) (by rfl) (by rfl) ⟨by omega,by omega⟩ ?_|refine puiv ⟨tab_ok⟩ (by rfl) (by rfl) (by rfl) (by rfl) (by rfl) (by rfl) ⟨by omega,by omega⟩ ?_|refine opfv ⟨tab_ok⟩ (by rfl) (by rfl) (by rfl) (by rfl) ?_|refine pufv ⟨tab_ok⟩ (by rfl) (by rfl) (by rfl) (by rfl) ?_|refine opix (g:=g2) (off:=0+k*4+0) [.i .i64 a.fl,.i .i64 a.wy] (fun w1 hH=>rng_sub (i:=0) (n:=2) (wait_at (hob hH (A:=waitsO l (some ⟨g2,0,none⟩) tw.length c3 tw true) 1 rfl) ha) rfl) ⟨tab_ok⟩ (by rfl) (by rfl) (by simp only [Go.WideShapes.add_plain]; rfl) ?_|refine opix (g:=g2) (off:=0+k*4) [.i .i64 a.fl,.i .i64 a.wy,.i .i64 a.ca,.i .i64 a.si] (fun w1 hH=>wait_at (hob hH (A:=waitsO l (some ⟨g2,0,none⟩) tw.length c3 tw true) 1 rfl) ha) ⟨tab_ok⟩ (by rfl) (by rfl) (by simp only [Go.WideShapes.add_plain]; rfl) ?_|refine opb1 (e:=76) ⟨tab_ok⟩ [.i .i64 a.fl,.i .i64 a.wy,.i .i64 a.ca,.i .i64 a.si] (by rfl) (by rfl) ?_|intro b9 | refine br_t hE ?_|refine opap 2 3 (e:=76) (lo:=lw) (size:=4) (bytes:=32) (z:=.agg #[.int .i64 0,.int .i64 0,.int .i64 0,.int .i64 0]) (A:=waitsO lw Ap po.length cp po true) (vals:=rowsOf waitL po) (cells:=waitL a) (zs:=rowsOf waitL (po++[a])) (n2:=(po++[a]).length) (fun B' d'=>waitsO lw B' (po++[a]).length d' (po++[a]) true) (by rfl) (by rfl) (by rfl) (by rfl) rfl rfl (fun w h=>h) (fun A' c' w h=>h) (fun _ _=>rfl) (by rfl) (by rfl) (by rfl) (by rfl) Tryz.underlying32 (by kernel_rfl) rfl (by decide) (by decide) (waitL_one _) (by omega) (fun w1 hH=>hlw w1 hH.upd) (by simp) (by rw [rowsOf_append,rowsOf_one]) (fun B' d'=>?_)|refine back ⟨(k+1,Ar,cr,B',d',pr,po++[a]),by show k+1≤_; omega,e2,e1⟩ (wk ?_) ?_|refine fin_s ?_))
      all_goals first | (show tw.length - (k+1) < tw.length - k; omega)|skip
      all_goals (repeat' (first | exact trivial | rfl | ((conv=>whnf); refine And.intro ?_ ?_)))
     | false =>
      have e1:po=ts++(tw.take (k+1)).filter (isW (tkF x) (tkW x)):=by rw [hnx,List.filter_append,List.filter_cons_of_neg (by rw [hW]; decide),hpo]; simp
      have e2:pr++[a]=(tw.take (k+1)).filter (fun a=>!isW (tkF x) (tkW x) a):=by rw [hnx,List.filter_append,List.filter_cons_of_pos (by rw [hW]; rfl),hpr]; rfl
      have hE:((a.fl == tkF x) && ((a.wy == tkW x) && true))=false:=by rw [Bool.and_true]; have h:=hW; unfold isW at h; exact h
      repeat' (first | refine gq_ ?_|((conv=>whnf); first | refine drA (id:=15) ⟨tab_ok⟩ [7] ?_|refine drA ⟨tab_ok⟩ [] ?_|refine bto ?_|refine bfo ?_|refine wr_i ?_|refine And.intro ?_ ?_|refine opiv ⟨tab_ok⟩ (by rfl) (by rfl) (by rfl) (by rfl) (by rfl) (by rfl) ⟨by omega,by omega⟩ ?_|refine puiv ⟨tab_ok⟩ (by rfl) (by rfl) (by rfl) (by rfl) (by rfl) (by rfl) ⟨by omega,by omega⟩ ?_|refine opfv ⟨tab_ok⟩ (by rfl) (by rfl) (by rfl) (by rfl) ?_|refine pufv ⟨tab_ok⟩ (by rfl) (by rfl) (by rfl) (by rfl) ?_|refine opix (g:=g2) (off:=0+k*4+0) [.i .i64 a.fl,.i .i64 a.wy] (fun w1 hH=>rng_sub (i:=0) (n:=2) (wait_at (hob hH (A:=waitsO l (some ⟨g2,0,none⟩) tw.length c3 tw true) 1 rfl) ha) rfl) ⟨tab_ok⟩ (by rfl) (by rfl) (by simp only [Go.WideShapes.add_plain]; rfl) ?_|refine opix (g:=g2) (off:=0+k*4) [.i .i64 a.fl,.i .i64 a.wy,.i .i64 a.ca,.i .i64 a.si] (fun w1 hH=>wait_at (hob hH (A:=waitsO l (some ⟨g2,0,none⟩) tw.length c3 tw true) 1 rfl) ha) ⟨tab_ok⟩ (by rfl) (by rfl) (by simp only [Go.WideShapes.add_plain]; rfl) ?_|refine opb1 (e:=76) ⟨tab_ok⟩ [.i .i64 a.fl,.i .i64 a.wy,.i .i64 a.ca,.i .i64 a.si] (by rfl) (by rfl) ?_|intro b9 | refine br_f hE ?_|refine opap 3 3 (e:=76) (lo:=lw) (size:=4) (bytes:=32) (z:=.agg #[.int .i64 0,.int .i64 0,.int .i64 0,.int .i64 0]) (A:=waitsO lw Ar pr.length cr pr true) (vals:=rowsOf waitL pr) (cells:=waitL a) (zs:=rowsOf waitL (pr++[a])) (n2:=(pr++[a]).length) (fun B' d'=>waitsO lw B' (pr++[a]).length d' (pr++[a]) true) (by rfl) (by rfl) (by rfl) (by rfl) rfl rfl (fun w h=>h) (fun A' c' w h=>h) (fun _ _=>rfl) (by rfl) (by rfl) (by rfl) (by rfl) Tryz.underlying32 (by kernel_rfl) rfl (by decide) (by decide) (waitL_one _) (by omega) (fun w1 hH=>hlw w1 hH.upd) (by simp) (by rw [rowsOf_append,rowsOf_one]) (fun B' d'=>?_)|refine back ⟨(k+1,B',d',Ap,cp,pr++[a],po),by show k+1≤_; omega,e2,e1⟩ (wk ?_) ?_|refine fin_s ?_))
      all_goals first | (show tw.length - (k+1) < tw.length - k; omega)|skip
      all_goals (repeat' (first | exact trivial | rfl | ((conv=>whnf); refine And.intro ?_ ?_)))
    ·obtain rfl:k=tw.length:=by omega
     rw [List.take_length] at hpr hpo
     have heT2:tkN D.c D.cars D.waits (n+1)=(tc.set n z,pr,po):=by rw [heT,hpr,hpo]
     repeat' (first | refine gs_ ?_|((conv=>whnf); first | refine bto ?_|refine bfo ?_|refine wr_i ?_|refine back ⟨(n+1,lw,Ar,cr,Ap,cp,tc.set n z,pr,po),⟨by show n+1≤_; omega,hlw0⟩,heT2⟩ (wkh [carsO lo (some ⟨g,0,none⟩) D.cars.length c1 (tc.set n z) true,waitsO lw Ar pr.length cr pr true,waitsO lw Ap po.length cp po true] (fun w1 hH=>(hH.sub (List.Sublist.cons₂ _ (List.Sublist.cons _ (List.Sublist.refl _)))).perm (List.Perm.cons _ (List.Perm.swap _ _ _))) (wk ?_)) ?_|refine fin_s ?_))
     all_goals first | (show D.cars.length - (n+1) < D.cars.length - n; omega)|skip
     all_goals (repeat' (first | exact trivial | rfl | ((conv=>whnf); refine And.intro ?_ ?_)))
  | true =>
   cases hsv:tkS x with
   | false =>
    have heT:=heN hsv
    repeat' (first | refine gq_ ?_|((conv=>whnf); first | refine drA (id:=9) ⟨tab_ok⟩ [7] ?_|refine drA ⟨tab_ok⟩ [] ?_|refine bto ?_|refine bfo ?_|refine wr_i ?_|refine And.intro ?_ ?_|refine opiv ⟨tab_ok⟩ (by rfl) (by rfl) (by rfl) (by rfl) (by rfl) (by rfl) ⟨by omega,by omega⟩ ?_|refine puiv ⟨tab_ok⟩ (by rfl) (by rfl) (by rfl) (by rfl) (by rfl) (by rfl) ⟨by omega,by omega⟩ ?_|refine opfv ⟨tab_ok⟩ (by rfl) (by rfl) (by rfl) (by rfl) ?_|refine pufv ⟨tab_ok⟩ (by rfl) (by rfl) (by rfl) (by rfl) ?_|refine opst ⟨tab_ok⟩ 0 n carE z (sCar z) (g:=g) (lo:=lo) (n:=D.cars.length) (c:=c1) (ls:=tc) (by rfl) (by rfl) (by simp only [Go.WideShapes.add_plain,Nat.zero_add]; rfl) (by rfl) (by rfl) (by rfl) (by omega) (by decide) (by rfl) ?_|refine back ⟨(n+1,l,A3,c3,Ao,co,tc.set n z,tw,ts),⟨by show n+1≤_; omega,hl3⟩,heT⟩ (wk ?_) ?_|refine fin_s ?_))
    all_goals first | (show D.cars.length - (n+1) < D.cars.length - n; omega)|skip
    all_goals (repeat' (first | exact trivial | rfl | ((conv=>whnf); refine And.intro ?_ ?_)))
   | true =>
    have heT:=heY hsv
    repeat' (first | refine gq_ ?_|((conv=>whnf); first | refine drA (id:=9) ⟨tab_ok⟩ [7] ?_|refine drA ⟨tab_ok⟩ [] ?_|refine bto ?_|refine bfo ?_|refine wr_i ?_|refine And.intro ?_ ?_|refine opiv ⟨tab_ok⟩ (by rfl) (by rfl) (by rfl) (by rfl) (by rfl) (by rfl) ⟨by omega,by omega⟩ ?_|refine puiv ⟨tab_ok⟩ (by rfl) (by rfl) (by rfl) (by rfl) (by rfl) (by rfl) ⟨by omega,by omega⟩ ?_|refine opfv ⟨tab_ok⟩ (by rfl) (by rfl) (by rfl) (by rfl) ?_|refine pufv ⟨tab_ok⟩ (by rfl) (by rfl) (by rfl) (by rfl) ?_|refine opst ⟨tab_ok⟩ 0 n carE z (sCar z) (g:=g) (lo:=lo) (n:=D.cars.length) (c:=c1) (ls:=tc) (by rfl) (by rfl) (by simp only [Go.WideShapes.add_plain,Nat.zero_add]; rfl) (by rfl) (by rfl) (by rfl) (by omega) (by decide) (by rfl) ?_|refine fin_s ?_))
    conv=>whnf
    refine sm_hold _ [carsO lo (some ⟨g,0,none⟩) D.cars.length c1 (tc.set n z) true,waitsO l A3 tw.length c3 tw true,waitsO lw Ao ts.length co ts true,waitsO lw none 0 0 [] true] (by rfl) (fun w1 hH=>Hold.addObj (ob:=[carsO lo (some ⟨g,0,none⟩) D.cars.length c1 (tc.set n z) true,waitsO l A3 tw.length c3 tw true,waitsO lw Ao ts.length co ts true]) hH (waitsO lw none 0 0 [] true) (World.ownsRow_nil _ _ _ _) (by intro _ g hg; cases hg) (by intro r _ _ hg; cases hg) (by intro A hA _ g hg hg2; cases hg2)) ?_
    refine lp ⟨tab_ok⟩ (ι:={y:Nat×Option Addr×Nat×Option Addr×Nat×List WaitV×List WaitV // y.1≤tw.length∧y.2.2.2.2.2.1=(tw.take y.1).filter (fun a=>!isW (tkF x) (tkW x) a)∧y.2.2.2.2.2.2=ts++(tw.take y.1).filter (isW (tkF x) (tkW x))}) (fun y=>match y with | ⟨(k,Ar,cr,Ap,cp,pr,po),_⟩=>⟨[(0,.p 0 0),(3,.v (.slice Ap po.length cp)),(4,.i .i64 (n:Int)),(6,.p 1 0),(8,.v (.slice Ar pr.length cr)),(9,.i .i64 (k:Int))],[⟨q,72,true,0,[],[.i .i64 D.c.ca,.i .i64 D.c.fl,.i .i64 D.c.ft,.i .i64 D.c.se,.i .i64 D.c.dr,.i .i64 D.c.dw,.i .i64 D.c.ho,.i .i64 D.c.re,.i .i64 D.c.yi,.i .i64 D.c.qu,.i .i64 D.c.qo,.i .i64 D.c.lo,.i .i64 D.c.sl,.i .i64 D.c.rt,.i .i64 D.c.cp,.i .i64 D.c.tr,.i .i64 D.c.de,.i .i64 D.c.wi,.v (.slice (some ⟨g,0,none⟩) D.cars.length c1),.v (.slice A3 tw.length c3),.i .i64 D.now],[],true⟩,⟨b1,74,true,0,[],[.i .i64 (tkF x),.i .i64 (tkW x)],[],true⟩,⟨b2,67,true,0,[],(sCar z),[],true⟩],[carsO lo (some ⟨g,0,none⟩) D.cars.length c1 (tc.set n z) true,waitsO l A3 tw.length c3 tw true,waitsO lw Ap po.length cp po true,waitsO lw Ar pr.length cr pr true]⟩) (fun y=>tw.length - y.1.1) ⟨(0,none,0,Ao,co,[],ts),Nat.zero_le _,by simp,by simp⟩ (wk ?_) ?_
    ·repeat' (first | exact trivial | rfl | ((conv=>whnf); refine And.intro ?_ ?_))
    rintro ⟨⟨k,Ar,cr,Ap,cp,pr,po⟩,hk,hpr,hpo⟩
    have hk:k≤tw.length:=hk
    have hpr:pr=(tw.take k).filter (fun a=>!isW (tkF x) (tkW x) a):=hpr
    have hpo:po=ts++(tw.take k).filter (isW (tkF x) (tkW x)):=hpo
    have hprl:pr.length≤10000:=by rw [hpr]; have:=List.length_filter_le (fun a=>!isW (tkF x) (tkW x) a) (tw.take k); simp at this; omega
    have hpol:po.length≤20000:=by rw [hpo,List.length_append]; have:=List.length_filter_le (isW (tkF x) (tkW x)) (tw.take k); simp at this; omega
    by_cases hkl:k < tw.length
    ·obtain ⟨a,ha⟩:∃ a,tw[k]?=some a:=⟨_,List.getElem?_eq_getElem hkl⟩
     obtain ⟨g2,hA3⟩:=hA3 (by omega)
     subst hA3
     have hnx:tw.take (k+1)=tw.take k++[a]:=by rw [List.take_succ,ha]; rfl
     cases hW:isW (tkF x) (tkW x) a with
     | true =>
      have e1:po++[a]=ts++(tw.take (k+1)).filter (isW (tkF x) (tkW x)):=by rw [hnx,List.filter_append,List.filter_cons_of_pos hW,hpo,List.append_assoc]; rfl
      have e2:pr=(tw.take (k+1)).filter (fun a=>!isW (tkF x) (tkW x) a):=by rw [hnx,List.filter_append,List.filter_cons_of_neg (by rw [hW]; decide),hpr]; simp
      have hE:((a.fl == tkF x) && ((a.wy == tkW x) && true))=true:=by rw [Bool.and_true]; have h:=hW; unfold isW at h; exact h
      repeat' (first | refine gq_ ?_|((conv=>whnf); first | refine drA (id:=15) ⟨tab_ok⟩ [7] ?_|refine drA ⟨tab_ok⟩ [] ?_|refine bto ?_|refine bfo ?_|refine wr_i ?_|refine And.intro ?_ ?_|refine opiv ⟨tab_ok⟩ (by rfl) (by rfl) (by rfl) (by rfl) (by rfl) (by rfl) ⟨by omega,by omega⟩ ?_|refine puiv ⟨tab_ok⟩ (by rfl) (by rfl) (by rfl) (by rfl) (by rfl) (by rfl) ⟨by omega,by omega⟩ ?_|refine opfv ⟨tab_ok⟩ (by rfl) (by rfl) (by rfl) (by rfl) ?_|refine pufv ⟨tab_ok⟩ (by rfl) (by rfl) (by rfl) (by rfl) ?_|refine opix (g:=g2) (off:=0+k*4+0) [.i .i64 a.fl,.i .i64 a.wy] (fun w1 hH=>rng_sub (i:=0) (n:=2) (wait_at (hob hH (A:=waitsO l (some ⟨g2,0,none⟩) tw.length c3 tw true) 1 rfl) ha) rfl) ⟨tab_ok⟩ (by rfl) (by rfl) (by simp only [Go.WideShapes.add_plain]; rfl) ?_|refine opix (g:=g2) (off:=0+k*4) [.i .i64 a.fl,.i .i64 a.wy,.i .i64 a.ca,.i .i64 a.si] (fun w1 hH=>wait_at (hob hH (A:=waitsO l (some ⟨g2,0,none⟩) tw.length c3 tw true) 1 rfl) ha) ⟨tab_ok⟩ (by rfl) (by rfl) (by simp only [Go.WideShapes.add_plain]; rfl) ?_|refine opb1 (e:=76) ⟨tab_ok⟩ [.i .i64 a.fl,.i .i64 a.wy,.i .i64 a.ca,.i .i64 a.si] (by rfl) (by rfl) ?_|intro b9 | refine br_t hE ?_|refine opap 2 3 (e:=76) (lo:=lw) (size:=4) (bytes:=32) (z:=.agg #[.int .i64 0,.int .i64 0,.int .i64 0,.int .i64 0]) (A:=waitsO lw Ap po.length cp po true) (vals:=rowsOf waitL po) (cells:=waitL a) (zs:=rowsOf waitL (po++[a])) (n2:=(po++[a]).length) (fun B' d'=>waitsO lw B' (po++[a]).length d' (po++[a]) true) (by rfl) (by rfl) (by rfl) (by rfl) rfl rfl (fun w h=>h) (fun A' c' w h=>h) (fun _ _=>rfl) (by rfl) (by rfl) (by rfl) (by rfl) Tryz.underlying32 (by kernel_rfl) rfl (by decide) (by decide) (waitL_one _) (by omega) (fun w1 hH=>hlw w1 hH.upd) (by simp) (by rw [rowsOf_append,rowsOf_one]) (fun B' d'=>?_)|refine back ⟨(k+1,Ar,cr,B',d',pr,po++[a]),by show k+1≤_; omega,e2,e1⟩ (wk ?_) ?_|refine fin_s ?_))
      all_goals first | (show tw.length - (k+1) < tw.length - k; omega)|skip
      all_goals (repeat' (first | exact trivial | rfl | ((conv=>whnf); refine And.intro ?_ ?_)))
     | false =>
      have e1:po=ts++(tw.take (k+1)).filter (isW (tkF x) (tkW x)):=by rw [hnx,List.filter_append,List.filter_cons_of_neg (by rw [hW]; decide),hpo]; simp
      have e2:pr++[a]=(tw.take (k+1)).filter (fun a=>!isW (tkF x) (tkW x) a):=by rw [hnx,List.filter_append,List.filter_cons_of_pos (by rw [hW]; rfl),hpr]; rfl
      have hE:((a.fl == tkF x) && ((a.wy == tkW x) && true))=false:=by rw [Bool.and_true]; have h:=hW; unfold isW at h; exact h
      repeat' (first | refine gq_ ?_|((conv=>whnf); first | refine drA (id:=15) ⟨tab_ok⟩ [7] ?_|refine drA ⟨tab_ok⟩ [] ?_|refine bto ?_|refine bfo ?_|refine wr_i ?_|refine And.intro ?_ ?_|refine opiv ⟨tab_ok⟩ (by rfl) (by rfl) (by rfl) (by rfl) (by rfl) (by rfl) ⟨by omega,by omega⟩ ?_|refine puiv ⟨tab_ok⟩ (by rfl) (by rfl) (by rfl) (by rfl) (by rfl) (by rfl) ⟨by omega,by omega⟩ ?_|refine opfv ⟨tab_ok⟩ (by rfl) (by rfl) (by rfl) (by rfl) ?_|refine pufv ⟨tab_ok⟩ (by rfl) (by rfl) (by rfl) (by rfl) ?_|refine opix (g:=g2) (off:=0+k*4+0) [.i .i64 a.fl,.i .i64 a.wy] (fun w1 hH=>rng_sub (i:=0) (n:=2) (wait_at (hob hH (A:=waitsO l (some ⟨g2,0,none⟩) tw.length c3 tw true) 1 rfl) ha) rfl) ⟨tab_ok⟩ (by rfl) (by rfl) (by simp only [Go.WideShapes.add_plain]; rfl) ?_|refine opix (g:=g2) (off:=0+k*4) [.i .i64 a.fl,.i .i64 a.wy,.i .i64 a.ca,.i .i64 a.si] (fun w1 hH=>wait_at (hob hH (A:=waitsO l (some ⟨g2,0,none⟩) tw.length c3 tw true) 1 rfl) ha) ⟨tab_ok⟩ (by rfl) (by rfl) (by simp only [Go.WideShapes.add_plain]; rfl) ?_|refine opb1 (e:=76) ⟨tab_ok⟩ [.i .i64 a.fl,.i .i64 a.wy,.i .i64 a.ca,.i .i64 a.si] (by rfl) (by rfl) ?_|intro b9 | refine br_f hE ?_|refine opap 3 3 (e:=76) (lo:=lw) (size:=4) (bytes:=32) (z:=.agg #[.int .i64 0,.int .i64 0,.int .i64 0,.int .i64 0]) (A:=waitsO lw Ar pr.length cr pr true) (vals:=rowsOf waitL pr) (cells:=waitL a) (zs:=rowsOf waitL (pr++[a])) (n2:=(pr++[a]).length) (fun B' d'=>waitsO lw B' (pr++[a]).length d' (pr++[a]) true) (by rfl) (by rfl) (by rfl) (by rfl) rfl rfl (fun w h=>h) (fun A' c' w h=>h) (fun _ _=>rfl) (by rfl) (by rfl) (by rfl) (by rfl) Tryz.underlying32 (by kernel_rfl) rfl (by decide) (by decide) (waitL_one _) (by omega) (fun w1 hH=>hlw w1 hH.upd) (by simp) (by rw [rowsOf_append,rowsOf_one]) (fun B' d'=>?_)|refine back ⟨(k+1,B',d',Ap,cp,pr++[a],po),by show k+1≤_; omega,e2,e1⟩ (wk ?_) ?_|refine fin_s ?_))
      all_goals first | (show tw.length - (k+1) < tw.length - k; omega)|skip
      all_goals (repeat' (first | exact trivial | rfl | ((conv=>whnf); refine And.intro ?_ ?_)))
    ·obtain rfl:k=tw.length:=by omega
     rw [List.take_length] at hpr hpo
     have heT2:tkN D.c D.cars D.waits (n+1)=(tc.set n z,pr,po):=by rw [heT,hpr,hpo]
     repeat' (first | refine gs_ ?_|((conv=>whnf); first | refine bto ?_|refine bfo ?_|refine wr_i ?_|refine back ⟨(n+1,lw,Ar,cr,Ap,cp,tc.set n z,pr,po),⟨by show n+1≤_; omega,hlw0⟩,heT2⟩ (wkh [carsO lo (some ⟨g,0,none⟩) D.cars.length c1 (tc.set n z) true,waitsO lw Ar pr.length cr pr true,waitsO lw Ap po.length cp po true] (fun w1 hH=>(hH.sub (List.Sublist.cons₂ _ (List.Sublist.cons _ (List.Sublist.refl _)))).perm (List.Perm.cons _ (List.Perm.swap _ _ _))) (wk ?_)) ?_|refine fin_s ?_))
     all_goals first | (show D.cars.length - (n+1) < D.cars.length - n; omega)|skip
     all_goals (repeat' (first | exact trivial | rfl | ((conv=>whnf); refine And.intro ?_ ?_)))
 ·obtain rfl:n=D.cars.length:=by omega
  have hTP:tickP G=(tc,tw,ts):=htp.trans hTN
  refine sm_run ⟨tab_ok⟩ ?_
  repeat' (first | refine gs_ ?_|((conv=>whnf); first | refine bto ?_|refine bfo ?_|refine wr_i ?_|refine fin fun w' hH=>?_|refine fin_s ?_))
  have oc:CarsAt lo (some ⟨g,0,none⟩) D.cars.length c1 tc w':=hob hH (A:=carsO lo (some ⟨g,0,none⟩) D.cars.length c1 tc true) 0 rfl
  have ow:WaitsAt l A3 tw.length c3 tw w':=hob hH (A:=waitsO l A3 tw.length c3 tw true) 1 rfl
  have oo:WaitsAt lw Ao ts.length co ts w':=hob hH (A:=waitsO lw Ao ts.length co ts true) 2 rfl
  have hb:Blk w' q 72 (grpA D (.slice (some ⟨g,0,none⟩) D.cars.length c1) (.slice A3 tw.length c3)):=by
   have h:=hH.row 0 _ rfl rfl
   rw [rowA_nil rfl rfl] at h
   exact h
  rw [htg,hTP]
  refine ⟨(⟨some ⟨g,0,none⟩,c1,A3,c3⟩,Ao,co),rfl,⟨h0, ?_, ?_,own_base ow hl3⟩,oo,hH.upd,fun b hb'=>?_,fun b hb'=>⟨?_,fun hb2=>?_⟩⟩
  ·show Blk w' q _ (grpA _ (.slice _ tc.length c1) _)
   rw [l1]; exact hb
  ·show CarsAt lo _ tc.length c1 tc w'
   rw [l1]; exact oc
  ·rcases List.mem_cons.1 hb' with rfl | hb'
   ·have:=(hH.wf 0 _ rfl rfl).2.2 rfl
    rw [hlwe]; exact this
   ·rcases List.mem_append.1 hb' with h | h
    ·have:=hH.own (carsO lo (some ⟨g,0,none⟩) D.cars.length c1 tc true) (List.mem_cons_self ..) rfl b h
     rw [hlwe]; exact this
    ·have:=hH.own (waitsO l A3 tw.length c3 tw true) (List.mem_cons_of_mem _ (List.mem_cons_self ..)) rfl b h
     rw [hlwe]; exact this
  ·exact own_low oo b hb'
  ·rcases List.mem_cons.1 hb2 with rfl | hb2
   ·exact own_ne_ty oo hb (by decide) hb'
   ·have dd:=hH.dis
    rcases List.mem_append.1 hb2 with h | h
    ·exact (List.pairwise_cons.1 dd).1 (waitsO lw Ao ts.length co ts true) (List.mem_cons_of_mem _ (List.mem_cons_self ..)) (.inl rfl) b h hb'
    ·exact (List.pairwise_cons.1 (List.pairwise_cons.1 dd).2).1 (waitsO lw Ao ts.length co ts true) (List.mem_cons_self ..) (.inl rfl) b h hb'
end Rg
namespace Rk
open Go.RowKit Ba Mem En Go.Proofs.YtpiiblkiddcgcaaGreat.Ty Mo Go.Proofs.YtpiiblkiddcgcaaGreat.St Ce
open Ri (trV sp rn opB Said MsgV msgC tickV hearV entV aimF mayRe said_s said_n)
open Qu (btw)
open Tm (cl cl_lo cl_hi)
open Fl (mayB belB leaE)
open Rf (massR floorsR levelR)
open Gr (wrG)
open Lc (nearestT spanT tripRT renewT quotaT)
set_option maxRecDepth 100000
attribute [local irreducible] Go.Calls lvB
theorem clampR (n:Int) (w:World):Calls Tryz.prog 130 #[.int .i64 n] w fun e w'=>e=.returned (.int .i64 (cl n))∧Since w w':=by
 refine ent tab_ok [.i .i64 n] Tryz.func130 Tryz.ntmps130 rfl rfl ?_
 repeat' (first | refine gs_ ?_|((conv=>whnf); first | refine b3_ (fun h=>?_) (fun h=>?_)|refine fin_s ?_))
 all_goals (refine congrArg (Value.int .i64) ?_; unfold cl; (repeat' split) <;> omega)
theorem addR (a b:Int) (w:World):Calls Tryz.prog 131 #[.int .i64 a,.int .i64 b] w fun e w'=>e=.returned (.int .i64 (cl (cl a+cl b)))∧Since w w':=by
 have h1:=cl_lo a; have h2:=cl_hi a; have h3:=cl_lo b; have h4:=cl_hi b
 refine ent tab_ok [.i .i64 a,.i .i64 b] Tryz.func131 Tryz.ntmps131 rfl rfl ?_
 repeat' (first | refine gs_ ?_|((conv=>whnf); first | refine wr_i ?_|refine callS (f:=130) (.i .i64 (cl _)) (clampR _) ?_|refine fin_s ?_))
 all_goals rfl
theorem roomR (n:Int) (w:World):Calls Tryz.prog 148 #[.int .i64 n] w fun e w'=>e=.returned (.int .i64 (btw n 0 64))∧Since w w':=by
 refine ent tab_ok [.i .i64 n] Tryz.func148 Tryz.ntmps148 rfl rfl ?_
 repeat' (first | refine gs_ ?_|((conv=>whnf); first | refine callS (f:=189) (.i .i64 (btw n 0 64)) (nearestT n 0 64) ?_|refine fin_s ?_))
 all_goals rfl
theorem aimKR (l:LeaseV) (w:World):Calls Tryz.prog 135 #[.agg #[.int .i64 l.se,.int .i64 l.fl,.int .i64 l.fm,.int .i64 l.to,.int .i64 l.ma,.int .i64 l.ca,.int .i64 l.ph,.int .i64 l.un,.int .i64 l.re,.int .i64 l.gr]] w fun e w'=>e=.returned (.tuple #[.int .i64 (aimF l),.bool true])∧Since w w':=by
 refine ent tab_ok [.a [.i .i64 l.se,.i .i64 l.fl,.i .i64 l.fm,.i .i64 l.to,.i .i64 l.ma,.i .i64 l.ca,.i .i64 l.ph,.i .i64 l.un,.i .i64 l.re,.i .i64 l.gr]] Tryz.func135 Tryz.ntmps135 rfl rfl ?_
 repeat' (first | refine gs_ ?_|((conv=>whnf); first | intro b | refine b3_ (fun h=>?_) (fun h=>?_)|refine fin_s ?_))
 all_goals (unfold aimF; simp [den,denL, *])
attribute [local irreducible] btw fl ms
set_option maxHeartbeats 4000000 in
theorem mayR (c:CfgV) (a:AskV) (w:World):Calls Tryz.prog 145 #[(aCfg c),.agg #[.int .i64 a.se,.int .i64 a.fl,.int .i64 a.fm,.int .i64 a.to,.int .i64 a.ma]] w fun e w'=>e=.returned (.bool (mayB c a))∧Since w w':=by
 refine ent tab_ok [.a (sCfg c),.a [.i .i64 a.se,.i .i64 a.fl,.i .i64 a.fm,.i .i64 a.to,.i .i64 a.ma]] Tryz.func145 Tryz.ntmps145 rfl rfl ?_
 repeat' (first | refine gs_ ?_|((conv=>whnf); first | intro b | refine callS (f:=189) (.i .i64 (btw _ _ _)) (nearestT _ _ _) ?_|refine callS (f:=112) (.i .i64 (fl _)) (floorsR _) ?_|refine callS (f:=94) (.i .i64 (ms _)) (massR _) ?_|refine b3_ (fun h=>?_) (fun h=>?_)|refine fin_s ?_))
 all_goals exact congrArg Value.bool (by unfold mayB belB; simp_all [bne,Rf.ibeq] <;> (intros; omega))
theorem countKR {lo n c:Nat} {A:Option Addr} {ls:List LeaseV} (f:Int) (w:World) (ho:leaE.At lo A n c ls w) (hn:ls.length=n) (hl:n≤1000000) :
  Calls Tryz.prog 137 #[.slice A n c,.int .i64 f] w fun e w'=>e=.returned (.int .i64 (Fl.cn ls f))∧Since w w':=by
 obtain ⟨g,hA⟩:=Ek.addr ho
 refine entH tab_ok (Hold.addObj (ob:=[]) (Hold.nil _ tab [] _ w) (rwO leaE lo A n c ls false) ho (by intro k; cases k) (by intro r hr; cases hr) (by intro A hA; cases hA)) [.v (.slice A n c),.i .i64 f] Tryz.func137 Tryz.ntmps137 rfl rfl ?_
 repeat' (first | refine gs_ ?_|((conv=>whnf); first | intro b | refine fin_s ?_))
 conv=>whnf
 refine lp ⟨tab_ok⟩ (ι:={k:Nat // k≤n}) (fun x=>match x with | ⟨k,_⟩=>⟨[(0,.v (.slice A n c)),(1,.i .i64 f),(5,.i .i64 ((Fl.cn (ls.take k) f:Nat):Int)),(6,.i .i64 (k:Int))],[],[rwO leaE lo A n c ls false]⟩) (fun x=>n - x.1) ⟨0,Nat.zero_le _⟩ (wk ?_) ?_
 ·repeat' (first | exact trivial | rfl | ((conv=>whnf); refine And.intro ?_ ?_))
 rintro ⟨k,hk⟩
 have hck:Fl.cn (ls.take k) f≤n:=by have:=Fl.cn_le (ls.take k) f; rw [List.length_take] at this; omega
 by_cases hlt:k < n
 ·obtain ⟨x,hx⟩:∃ x,ls[k]?=some x:=⟨_,List.getElem?_eq_getElem (by omega)⟩
  obtain rfl:=hA (by omega)
  have hc:=Fl.cn_take (f:=f) hx
  by_cases hpx:x.fl=f
  ·rw [if_pos hpx] at hc
   repeat' (first | refine gs_ ?_|((conv=>whnf); first | refine bto ?_|refine bfo ?_|refine wr_i ?_|refine br_t (beq_iff_eq.2 hpx) ?_|refine opiv ⟨tab_ok⟩ (by rfl) (by rfl) (by rfl) (by rfl) (by rfl) (by rfl) ⟨by omega,by omega⟩ ?_|refine opfv ⟨tab_ok⟩ (by rfl) (by rfl) (by rfl) (by rfl) ?_|refine opxc (g:=g) (off:=0+k*10+0+1) (.i .i64 x.fl) (fun w hH=>cell_k (k:=1) (Ek.rng (hob hH (A:=rwO leaE lo (some ⟨g,0,none⟩) n c ls false) 0 rfl) hx) rfl) ⟨tab_ok⟩ (by rfl) (by rfl) (by simp only [Go.WideShapes.add_plain]; rfl) ?_|refine back ⟨k+1,by omega⟩ (wk ?_) ?_|refine fin_s ?_))
   all_goals first | (show n - (k+1) < n - k; omega)|skip
   all_goals (repeat' (first | exact trivial | rfl | ((conv=>whnf); refine And.intro ?_ ?_)))
   all_goals (simp only [den]; rw [hc]; rfl)
  ·rw [if_neg hpx] at hc
   repeat' (first | refine gs_ ?_|((conv=>whnf); first | refine bto ?_|refine bfo ?_|refine wr_i ?_|refine br_f (beq_eq_false_iff_ne.2 hpx) ?_|refine opiv ⟨tab_ok⟩ (by rfl) (by rfl) (by rfl) (by rfl) (by rfl) (by rfl) ⟨by omega,by omega⟩ ?_|refine opfv ⟨tab_ok⟩ (by rfl) (by rfl) (by rfl) (by rfl) ?_|refine opxc (g:=g) (off:=0+k*10+0+1) (.i .i64 x.fl) (fun w hH=>cell_k (k:=1) (Ek.rng (hob hH (A:=rwO leaE lo (some ⟨g,0,none⟩) n c ls false) 0 rfl) hx) rfl) ⟨tab_ok⟩ (by rfl) (by rfl) (by simp only [Go.WideShapes.add_plain]; rfl) ?_|refine back ⟨k+1,by omega⟩ (wk ?_) ?_|refine fin_s ?_))
   all_goals first | (show n - (k+1) < n - k; omega)|skip
   all_goals (repeat' (first | exact trivial | rfl | ((conv=>whnf); refine And.intro ?_ ?_)))
   all_goals (simp only [den]; rw [hc]; rfl)
 ·obtain rfl:k=n:=by omega
  repeat' (first | refine gs_ ?_|((conv=>whnf); first | refine bto ?_|refine bfo ?_|refine wr_i ?_|refine fin_s ?_))
  all_goals (rw [List.take_of_length_le (by omega)]; rfl)
attribute [local irreducible] trV opB cl sp rn nr
set_option maxHeartbeats 4000000 in
theorem rideR (c:CfgV) (l:LeaseV) (x:CarV) (now:Int) (hu:cl l.un=l.un) (w:World):Calls Tryz.prog 58 #[(aCfg c),.agg #[.int .i64 l.se,.int .i64 l.fl,.int .i64 l.fm,.int .i64 l.to,.int .i64 l.ma,.int .i64 l.ca,.int .i64 l.ph,.int .i64 l.un,.int .i64 l.re,.int .i64 l.gr],.agg #[.int .i64 x.ds,.int .i64 x.da,.int .i64 x.un,.int .i64 x.wy,.int .i64 x.ti,.int .i64 x.ju,.int .i64 x.lo,.bool x.bl,.bool x.br,.int .i64 x.mo,.int .i64 x.ta,.bool x.ho,.int .u64 x.sp,.int .u64 x.su,.int .u64 x.sd],.int .i64 now] w (Said w (tickV c l x now)):=by
 have hO:∀ f,opB x f=(lvB x.un && (lvN x.un == f) && (x.ds == 2)):=fun f=>by unfold opB; rfl
 refine ent tab_ok [.a (sCfg c),.a [.i .i64 l.se,.i .i64 l.fl,.i .i64 l.fm,.i .i64 l.to,.i .i64 l.ma,.i .i64 l.ca,.i .i64 l.ph,.i .i64 l.un,.i .i64 l.re,.i .i64 l.gr],.a (sCar x),.i .i64 now] Tryz.func58 Tryz.ntmps58 rfl rfl ?_
 repeat' (first | refine gs_ ?_|((conv=>whnf); first | intro b | refine callS (f:=130) (.i .i64 (cl _)) (clampR _) ?_|refine callS (f:=132) (.i .i64 (sp _)) (spanT _) ?_|refine callS (f:=131) (.i .i64 (cl (cl _+cl _))) (addR _ _) ?_|refine callS (f:=89) (.t [.i .i64 (lvN _),.b (lvB _)]) (levelR _) ?_|refine b3_ (fun h=>?_) (fun h=>?_)|refine And.intro ?_ ?_|refine opb1 (e:=48) ⟨tab_ok⟩ [.i .i64 _,.i .i64 _,.i .i64 0,.i .i64 0] (by rfl) (by rfl) ?_|refine said_s (b:=_) ?_ (by rfl)|refine said_n ?_|refine fin_s ?_))
 all_goals first | (simp [tickV,hO,hu, *]; done)|(simp_all [tickV]; done)|(exfalso; omega)
theorem nr_iff (a b c:Int):nr a b c=decide ((if ms a - ms b < 0 then -(ms a - ms b) else ms a - ms b)≤ms c):=by unfold nr ab; rfl
attribute [local irreducible] mayRe
theorem mayReE (c:CfgV) (l:LeaseV):mayRe c l=(((l.ph == 2) || (l.ph == 4)) && decide (l.re < rn c.re)):=by unfold mayRe; rfl
set_option maxHeartbeats 8000000 in
theorem hearKR (c:CfgV) (l:LeaseV) (x:CarV) (now:Int) (m:MsgV) (w:World):Calls Tryz.prog 149 #[(aCfg c),.agg #[.int .i64 l.se,.int .i64 l.fl,.int .i64 l.fm,.int .i64 l.to,.int .i64 l.ma,.int .i64 l.ca,.int .i64 l.ph,.int .i64 l.un,.int .i64 l.re,.int .i64 l.gr],.agg #[.int .i64 x.ds,.int .i64 x.da,.int .i64 x.un,.int .i64 x.wy,.int .i64 x.ti,.int .i64 x.ju,.int .i64 x.lo,.bool x.bl,.bool x.br,.int .i64 x.mo,.int .i64 x.ta,.bool x.ho,.int .u64 x.sp,.int .u64 x.su,.int .u64 x.sd],.int .i64 now,.agg (msgC m)] w (Said w (hearV c l x now m)):=by
 have b1:=ms_lo x.lo; have b2:=ms_hi x.lo; have b3:=ms_lo l.ma; have b4:=ms_hi l.ma; have b5:=ms_lo c.sl; have b6:=ms_hi c.sl
 have hN:=nr_iff x.lo l.ma c.sl
 have hM:=mayReE c l
 refine ent tab_ok [.a (sCfg c),.a [.i .i64 l.se,.i .i64 l.fl,.i .i64 l.fm,.i .i64 l.to,.i .i64 l.ma,.i .i64 l.ca,.i .i64 l.ph,.i .i64 l.un,.i .i64 l.re,.i .i64 l.gr],.a (sCar x),.i .i64 now,.a [.i .i64 m.ki,.i .i64 m.a,.i .i64 m.b,.i .i64 m.c]] Tryz.func149 Tryz.ntmps149 rfl rfl ?_
 repeat' (first | refine gs_ ?_|((conv=>whnf); first | intro b | refine bto ?_|refine bfo ?_|refine callS (f:=94) (.i .i64 (ms _)) (massR _) ?_|refine wr (wrG _ (by omega) (by omega)) ?_|refine Wr.mk ?_|refine callS (f:=140) (.i .i64 (trV c)) (tripRT c) ?_|refine callS (f:=197) (.i .i64 (rn c.re)) (renewT c) ?_|refine callS (f:=132) (.i .i64 (sp _)) (spanT _) ?_|refine callS (f:=131) (.i .i64 (cl (cl _+cl _))) (addR _ _) ?_|refine b3_ (fun h=>?_) (fun h=>?_)|refine And.intro ?_ ?_|refine opb1 (e:=48) ⟨tab_ok⟩ [.i .i64 _,.i .i64 _,.i .i64 0,.i .i64 0] (by rfl) (by rfl) ?_|refine said_s (b:=_) ?_ (by rfl)|refine said_n ?_|refine fin_s ?_))
 all_goals first | (simp [hearV,hN,hM, *]; done)|(simp_all [hearV]; done)|(exfalso; omega)|skip
end Rk
namespace En
open Go.RowKit Ba Mem
section
variable {X:Cx} {w w':World} {s:St}
theorem callG {ι:Type} {f:FuncId} {vs:List SV} {K:SV→St→Prop} {r0 r1:Row} {mr:List Row} {A0 A1 A2 A3:Asr} {obr:List Asr} (v:ι→SV) (c0 c1:ι→List SV) (B0 B1 B2 B3:ι→Asr)
  (hc:∀ w,Hold X s.m s.ob w→Calls X.P f (denL s.m vs).toArray w fun e w'=>∃ x,e=.returned (den s.m (v x))∧Blk w' r0.g r0.t (denL s.m (c0 x)).toArray∧Blk w' r1.g r1.t (denL s.m (c1 x)).toArray∧(∀ B∈[B0 x,B1 x,B2 x,B3 x],B.st w')∧Upd (r0.g::r1.g::([A0,A1,A2,A3].flatMap Asr.F)) w w'∧(∀ B∈[B0 x,B1 x,B2 x,B3 x],∀ g∈B.F,g∈[A0,A1,A2,A3].flatMap Asr.F∨w.heap.size≤g)∧[B0 x,B1 x,B2 x,B3 x].Pairwise (fun A B=>∀ g∈A.F,g∉B.F))
  (h:∀ x,K (v x) ⟨s.fr,⟨r0.g,r0.t,r0.live,r0.off,r0.pre,c0 x,r0.suf,r0.rw⟩::⟨r1.g,r1.t,r1.live,r1.off,r1.pre,c1 x,r1.suf,r1.rw⟩::mr,B0 x::B1 x::B2 x::B3 x::obr⟩)
  (hm:s.m=r0::r1::mr:=by rfl) (hob:s.ob=A0::A1::A2::A3::obr:=by rfl)
  (hl:((r0.live && r0.rw && r0.pre.isEmpty && r0.suf.isEmpty) && (r1.live && r1.rw && r1.pre.isEmpty && r1.suf.isEmpty))=true:=by rfl) (hA:(A0.rw && A1.rw && A2.rw && A3.rw)=true:=by rfl)
  (he:entChk X.P f=true:=by kernel_rfl) (hv:∀ x,(okV s.m.length (v x) && okL s.m.length (c0 x) && okL s.m.length (c1 x))=true:=by intro x; rfl):CallVC X f vs s K:=by
 simp only [Bool.and_eq_true,List.isEmpty_iff] at hl hA
 obtain ⟨⟨⟨⟨l0,w0⟩,p0⟩,s0⟩,⟨⟨l1,w1⟩,p1⟩,s1⟩:=hl
 have hAw:∀ A∈[A0,A1,A2,A3],A.rw=true:=by
  intro A hm
  simp only [List.mem_cons,List.not_mem_nil,or_false] at hm
  rcases hm with rfl | rfl | rfl | rfl
  ·exact hA.1.1.1
  ·exact hA.1.1.2
  ·exact hA.1.2
  ·exact hA.2
 refine ⟨entC he,fun w hH=>(hc w hH).mono ?_⟩
 rintro e w' ⟨x,rfl,b0,b1,hB,hu,hF,hD⟩
 have hvx:=hv x
 simp only [Bool.and_eq_true] at hvx
 have row0:s.m[0]?=some r0:=by rw [hm]; rfl
 have row1:s.m[1]?=some r1:=by rw [hm]; rfl
 obtain ⟨m',hm'⟩:∃ m':List Row,m'=⟨r0.g,r0.t,r0.live,r0.off,r0.pre,c0 x,r0.suf,r0.rw⟩::⟨r1.g,r1.t,r1.live,r1.off,r1.pre,c1 x,r1.suf,r1.rw⟩::mr:=⟨_,rfl⟩
 have hlen:m'.length=s.m.length:=by rw [hm',hm]; rfl
 have hE:Ext s.m m':=fun j r hj=>by
  rw [hm] at hj; rw [hm']
  match j,hj with
  | 0,hj=>cases hj; exact ⟨_,rfl,rfl,rfl⟩
  | 1,hj=>cases hj; exact ⟨_,rfl,rfl,rfl⟩
  | j+2,hj=>exact ⟨r,hj,rfl,rfl⟩
 have inA:∀ A∈[A0,A1,A2,A3],A∈s.ob:=fun A h=>by rw [hob]; exact (List.mem_append_left obr h:A∈[A0,A1,A2,A3]++obr)
 have inO:∀ A∈obr,A∈s.ob:=fun A h=>by rw [hob]; exact (List.mem_append_right [A0,A1,A2,A3] h:A∈[A0,A1,A2,A3]++obr)
 have dis2:∀ A∈[A0,A1,A2,A3],∀ C∈obr,∀ g∈A.F,g∉C.F:=fun A h C hC=>by
  have q:=hH.dis
  rw [hob] at q
  exact (List.pairwise_append.1 (show List.Pairwise _ ([A0,A1,A2,A3]++obr) from q)).2.2 A h C hC (.inl (hAw A h))
 have old:∀ (j:Nat) (q:Row),m'[j]?=some q→(j=0∧q.g=r0.g∧q.t=r0.t∧q.off=r0.off∧q.pre=r0.pre∧q.suf=r0.suf∧q.rw=r0.rw∧q.cs=c0 x)∨(j=1∧q.g=r1.g∧q.t=r1.t∧q.off=r1.off∧q.pre=r1.pre∧q.suf=r1.suf∧q.rw=r1.rw∧q.cs=c1 x)∨(2≤j∧s.m[j]?=some q):=fun j q hj=>by
  rw [hm'] at hj; rw [hm]
  match j,hj with
  | 0,hj=>cases hj; exact .inl ⟨rfl,rfl,rfl,rfl,rfl,rfl,rfl,rfl⟩
  | 1,hj=>cases hj; exact .inr (.inl ⟨rfl,rfl,rfl,rfl,rfl,rfl,rfl,rfl⟩)
  | j+2,hj=>exact .inr (.inr ⟨by omega,hj⟩)
 -- a row of before with the same block
 have bef:∀ (j:Nat) (q:Row),m'[j]?=some q→q.live=true→∃ q':Row,s.m[j]?=some q'∧q'.live=true∧q'.g=q.g:=fun j q hj hq=>by
  rcases old j q hj with ⟨rfl,e,_⟩ | ⟨rfl,e,_⟩ | ⟨_,e⟩
  ·exact ⟨r0,row0,l0,e.symm⟩
  ·exact ⟨r1,row1,l1,e.symm⟩
  ·exact ⟨q,e,hq,rfl⟩
 have farA:∀ A∈[A0,A1,A2,A3],∀ (j:Nat) (q:Row),m'[j]?=some q→q.live=true→q.g∉A.F:=fun A h j q hj hq=>by
  obtain ⟨q',e1,e2,e3⟩:=bef j q hj hq
  rw [← e3]; exact hH.far A (inA A h) j q' e1 e2
 have ltr:∀ (j:Nat) (q:Row),m'[j]?=some q→q.live=true→q.g < w.heap.size:=fun j q hj hq=>by
  obtain ⟨q',e1,e2,e3⟩:=bef j q hj hq
  rw [← e3]; exact (hH.row j q' e1 e2).lt
 have notT:∀ g,g∈[A0,A1,A2,A3].flatMap Asr.F→∃ A∈[A0,A1,A2,A3],g∈A.F:=fun g hg=>List.mem_flatMap.1 hg
 refine ⟨v x,m',B0 x::B1 x::B2 x::B3 x::obr,by rw [den_ext hE _ hvx.1.1],by rw [hlen]; exact hvx.1.1,hE, ?_,by rw [hm']; exact h x⟩
 refine ⟨hH.upd.comp hu (fun g hg=>?_),fun j q hj hq=>?_,fun j q hj hq=>?_,fun i j q q' hi hj hq hq' hne=>?_,fun C hC=>?_,fun C hC j q hj hq=>?_,fun C hC hr g hg=>?_, ?_⟩
 ·rcases List.mem_cons.1 hg with rfl | hg
  ·exact (hH.wf 0 r0 row0 l0).2.2 w0
  rcases List.mem_cons.1 hg with rfl | hg
  ·exact (hH.wf 1 r1 row1 l1).2.2 w1
  obtain ⟨A,h1,h2⟩:=notT g hg
  exact hH.own A (inA A h1) (hAw A h1) g h2
 ·rcases old j q hj with ⟨rfl,e1,e2,e3,e4,e5,e6,e7⟩ | ⟨rfl,e1,e2,e3,e4,e5,e6,e7⟩ | ⟨hj2,e⟩
  ·rw [rowA_nil (e4.trans p0) (e5.trans s0),e1,e2,e7,denL_ext hE _ hvx.1.2]; exact b0
  ·rw [rowA_nil (e4.trans p1) (e5.trans s1),e1,e2,e7,denL_ext hE _ hvx.2]; exact b1
  ·rw [rowA_ext hE (hH.wf j q e hq).1]
   refine hu.blk (hH.row j q e hq) (fun hg=>?_)
   rcases List.mem_cons.1 hg with hg | hg
   ·exact hH.ne j 0 q r0 e row0 hq l0 (by omega) hg
   rcases List.mem_cons.1 hg with hg | hg
   ·exact hH.ne j 1 q r1 e row1 hq l1 (by omega) hg
   obtain ⟨A,h1,h2⟩:=notT _ hg
   exact hH.far A (inA A h1) j q e hq h2
 ·rw [hlen]
  rcases old j q hj with ⟨rfl,e1,e2,e3,e4,e5,e6,e7⟩ | ⟨rfl,e1,e2,e3,e4,e5,e6,e7⟩ | ⟨hj2,e⟩
  ·rw [e7,e4,e3,e6,e1]; exact ⟨hvx.1.2,(hH.wf 0 r0 row0 l0).2⟩
  ·rw [e7,e4,e3,e6,e1]; exact ⟨hvx.2,(hH.wf 1 r1 row1 l1).2⟩
  ·exact hH.wf j q e hq
 ·obtain ⟨a1,a2,a3,a4⟩:=bef i q hi hq
  obtain ⟨d1,d2,d3,d4⟩:=bef j q' hj hq'
  rw [← a4,← d4]
  exact hH.ne i j a1 d1 a2 d2 a3 d3 hne
 ·rcases List.mem_append.1 (show C∈[B0 x,B1 x,B2 x,B3 x]++obr from hC) with hC | hC
  ·exact hB C hC
  ·refine C.up hu (fun g hg hgT=>?_) (hH.obj C (inO C hC))
   rcases List.mem_cons.1 hgT with rfl | hgT
   ·exact hH.far C (inO C hC) 0 r0 row0 l0 hg
   rcases List.mem_cons.1 hgT with rfl | hgT
   ·exact hH.far C (inO C hC) 1 r1 row1 l1 hg
   obtain ⟨A,h1,h2⟩:=notT g hgT
   exact dis2 A h1 C hC g h2 hg
 ·rcases List.mem_append.1 (show C∈[B0 x,B1 x,B2 x,B3 x]++obr from hC) with hC | hC
  ·intro hg
   rcases hF C hC _ hg with h1 | h1
   ·obtain ⟨A,h2,h3⟩:=notT _ h1
    exact farA A h2 j q hj hq h3
   ·have:=ltr j q hj hq; omega
  ·obtain ⟨q',e1,e2,e3⟩:=bef j q hj hq
   rw [← e3]; exact hH.far C (inO C hC) j q' e1 e2
 ·rcases List.mem_append.1 (show C∈[B0 x,B1 x,B2 x,B3 x]++obr from hC) with hC | hC
  ·rcases hF C hC g hg with h1 | h1
   ·obtain ⟨A,h2,h3⟩:=notT g h1
    exact hH.own A (inA A h2) (hAw A h2) g h3
   ·exact .inr (Nat.le_trans hH.upd.size h1)
  ·exact hH.own C (inO C hC) hr g hg
 ·show ([B0 x,B1 x,B2 x,B3 x]++obr).Pairwise _
  rw [List.pairwise_append]
  refine ⟨List.Pairwise.imp (R:=fun A B:Asr=>∀ g∈A.F,g∉B.F) (S:=fun A B:Asr=>A.rw=true∨B.rw=true→∀ g∈A.F,g∉B.F) (fun {a b} h _=>h) hD, ?_,fun B hB C hC _ g hg hgC=>?_⟩
  ·have q:=hH.dis
   rw [hob] at q
   exact (List.pairwise_append.1 (show List.Pairwise _ ([A0,A1,A2,A3]++obr) from q)).2.1
  ·rcases hF B hB g hg with h1 | h1
   ·obtain ⟨A,h2,h3⟩:=notT g h1
    exact dis2 A h2 C hC g h3 hgC
   ·have:=C.lt (hH.obj C (inO C hC)) g hgC; omega
end
end En
namespace Rk
open Go.RowKit Ba Mem En Go.Proofs.YtpiiblkiddcgcaaGreat.Ty Mo Go.Proofs.YtpiiblkiddcgcaaGreat.St Co
open Gr (GrV CarsAt WaitsAt carL waitL waitsO pairO grpA)
open Et (carsO car_at)
open Rg (RO RP FP)
open Ri (MsgV msgC)
open Qu (askE atS)
open Le (isS)
open Fl (leaE)
set_option maxRecDepth 100000
attribute [local irreducible] Go.Calls
theorem own_dis {w:World} {lo1 lo2 k1 k2 n1 n2 c1 c2 m1 m2:Nat} {e1 e2:TypeId} {A1 A2:Option Addr} {xs ys:List Value} (h1:w.ownsRow lo1 e1 k1 (.slice A1 n1 c1) m1 xs) (h2:w.ownsRow lo2 e2 k2 (.slice A2 n2 c2) m2 ys) (hm1:m1=n1) (hm2:m2=n2) (hne:e1≠e2):∀ g∈blkOf A1,g∉blkOf A2:=by
 subst hm1 hm2
 intro g hg hg2
 rcases own_at h1 with ⟨h,_⟩ | ⟨g1,cur,h,_,B1,_⟩
 ·subst h; cases hg
 ·subst h
  have e:g=g1:=by simpa [blkOf] using hg
  subst e
  exact own_ne_ty h2 B1 hne hg2
structure XP where
 q:Nat
 g:Nat
 P:RP
 AQ:Option Addr
 cQ:Nat
 AL:Option Addr
 cL:Nat
 AE:Option Addr
 cE:Nat
def xcL (K:KV) (n:Nat) (p:XP):List SV:=[.i .i64 K.G.c.ca,.i .i64 K.G.c.fl,.i .i64 K.G.c.ft,.i .i64 K.G.c.se,.i .i64 K.G.c.dr,.i .i64 K.G.c.dw,.i .i64 K.G.c.ho,.i .i64 K.G.c.re,.i .i64 K.G.c.yi,.i .i64 K.G.c.qu,.i .i64 K.G.c.qo,.i .i64 K.G.c.lo,.i .i64 K.G.c.sl,.i .i64 K.G.c.rt,.i .i64 K.G.c.cp,.i .i64 K.G.c.tr,.i .i64 K.G.c.de,.i .i64 K.G.c.wi,.p 1 0,.v (.slice p.AQ K.Q.length p.cQ),.v (.slice p.AL K.L.length p.cL),.v (.slice p.AE n p.cE)]
def xcA (K:KV) (n:Nat) (p:XP):Array Value:=#[.int .i64 K.G.c.ca,.int .i64 K.G.c.fl,.int .i64 K.G.c.ft,.int .i64 K.G.c.se,.int .i64 K.G.c.dr,.int .i64 K.G.c.dw,.int .i64 K.G.c.ho,.int .i64 K.G.c.re,.int .i64 K.G.c.yi,.int .i64 K.G.c.qu,.int .i64 K.G.c.qo,.int .i64 K.G.c.lo,.int .i64 K.G.c.sl,.int .i64 K.G.c.rt,.int .i64 K.G.c.cp,.int .i64 K.G.c.tr,.int .i64 K.G.c.de,.int .i64 K.G.c.wi,.pointer (some ⟨p.g,0,none⟩),.slice p.AQ K.Q.length p.cQ,.slice p.AL K.L.length p.cL,.slice p.AE n p.cE]
def grS (K:KV) (p:XP):List SV:=[.i .i64 K.G.c.ca,.i .i64 K.G.c.fl,.i .i64 K.G.c.ft,.i .i64 K.G.c.se,.i .i64 K.G.c.dr,.i .i64 K.G.c.dw,.i .i64 K.G.c.ho,.i .i64 K.G.c.re,.i .i64 K.G.c.yi,.i .i64 K.G.c.qu,.i .i64 K.G.c.qo,.i .i64 K.G.c.lo,.i .i64 K.G.c.sl,.i .i64 K.G.c.rt,.i .i64 K.G.c.cp,.i .i64 K.G.c.tr,.i .i64 K.G.c.de,.i .i64 K.G.c.wi,.v (.slice p.P.A1 K.G.cars.length p.P.c1),.v (.slice p.P.A2 K.G.waits.length p.P.c2),.i .i64 K.G.now]
def CO (lo:Nat) (p:XP) (K:KV) (E:List EvV) (w:World):Prop :=
 lo≤p.q∧Blk w p.q 98 (xcA K E.length p)∧RO lo p.g K.G p.P w∧askE.At lo p.AQ K.Q.length p.cQ K.Q w∧leaE.At lo p.AL K.L.length p.cL K.L w∧evE.At lo p.AE E.length p.cE E w
abbrev xoM (K:KV) (n:Nat) (p:XP) (rw:Bool):List Row:=[⟨p.q,98,true,0,[],xcL K n p,[],rw⟩,⟨p.g,72,true,0,[],grS K p,[],rw⟩]
abbrev xo0 (lo:Nat) (K:KV) (p:XP) (rw:Bool):Asr:=pairO (carsO lo p.P.A1 K.G.cars.length p.P.c1 K.G.cars rw) (waitsO lo p.P.A2 K.G.waits.length p.P.c2 K.G.waits rw)
abbrev xoO (lo:Nat) (K:KV) (E:List EvV) (p:XP) (rw:Bool):List Asr:=[xo0 lo K p rw,rwO askE lo p.AQ K.Q.length p.cQ K.Q rw,rwO leaE lo p.AL K.L.length p.cL K.L rw,rwO evE lo p.AE E.length p.cE E rw]
def FX (p:XP):List Nat:=p.q::p.g::((blkOf p.P.A1++blkOf p.P.A2)++(blkOf p.AQ++(blkOf p.AL++(blkOf p.AE++[]))))
theorem CO.dis {lo:Nat} {p:XP} {K:KV} {E:List EvV} {w:World} (h:CO lo p K E w) (rw:Bool):(xoO lo K E p rw).Pairwise (fun A B=>∀ g∈A.F,g∉B.F):=by
 obtain ⟨h0,hB,⟨hg0,hGB,hC,hW⟩,hQ,hL,hE⟩:=h
 have k1:∀ g∈blkOf p.P.A1++blkOf p.P.A2,g∉blkOf p.AQ:=fun g hg=>(List.mem_append.1 hg).elim (own_dis hC hQ rfl rfl (by decide) g) (own_dis hW hQ rfl rfl (by decide) g)
 have k2:∀ g∈blkOf p.P.A1++blkOf p.P.A2,g∉blkOf p.AL:=fun g hg=>(List.mem_append.1 hg).elim (own_dis hC hL rfl rfl (by decide) g) (own_dis hW hL rfl rfl (by decide) g)
 have k3:∀ g∈blkOf p.P.A1++blkOf p.P.A2,g∉blkOf p.AE:=fun g hg=>(List.mem_append.1 hg).elim (own_dis hC hE rfl rfl (by decide) g) (own_dis hW hE rfl rfl (by decide) g)
 simp only [List.pairwise_cons,List.mem_cons,List.not_mem_nil,or_false,List.Pairwise.nil,and_true]
 refine ⟨?_, ?_, ?_,fun _ h=>h.elim⟩
 ·rintro B (rfl | rfl | rfl)
  ·exact k1
  ·exact k2
  ·exact k3
 ·rintro B (rfl | rfl)
  ·exact own_dis hQ hL rfl rfl (by decide)
  ·exact own_dis hQ hE rfl rfl (by decide)
 ·rintro B rfl
  exact own_dis hL hE rfl rfl (by decide)
theorem CO.out {lo:Nat} {p:XP} {K:KV} {E:List EvV} {w:World} (h:CO lo p K E w) (rw:Bool):∀ A∈xoO lo K E p rw,A.st w∧p.q∉A.F∧p.g∉A.F∧∀ g∈A.F,g∈FX p:=by
 obtain ⟨h0,hB,⟨hg0,hGB,hC,hW⟩,hQ,hL,hE⟩:=h
 intro A hA
 simp only [List.mem_cons,List.not_mem_nil,or_false] at hA
 rcases hA with rfl | rfl | rfl | rfl
 ·refine ⟨⟨hC,hW⟩,fun h=>(List.mem_append.1 h).elim (own_ne_ty hC hB (by decide)) (own_ne_ty hW hB (by decide)),fun h=>(List.mem_append.1 h).elim (own_ne_ty hC hGB (by decide)) (own_ne_ty hW hGB (by decide)),fun g hg=>?_⟩
  exact List.mem_cons_of_mem _ (List.mem_cons_of_mem _ (List.mem_append_left _ hg))
 ·exact ⟨hQ,own_ne_ty hQ hB (by decide),own_ne_ty hQ hGB (by decide),fun g hg=>List.mem_cons_of_mem _ (List.mem_cons_of_mem _ (List.mem_append_right _ (List.mem_append_left _ hg)))⟩
 ·exact ⟨hL,own_ne_ty hL hB (by decide),own_ne_ty hL hGB (by decide),fun g hg=>List.mem_cons_of_mem _ (List.mem_cons_of_mem _ (List.mem_append_right _ (List.mem_append_right _ (List.mem_append_left _ hg))))⟩
 ·exact ⟨hE,own_ne_ty hE hB (by decide),own_ne_ty hE hGB (by decide),fun g hg=>List.mem_cons_of_mem _ (List.mem_cons_of_mem _ (List.mem_append_right _ (List.mem_append_right _ (List.mem_append_right _ (List.mem_append_left _ hg)))))⟩
theorem CO.ne {lo:Nat} {p:XP} {K:KV} {E:List EvV} {w:World} (h:CO lo p K E w):p.q≠p.g:=fun e=>by
 have h1:=h.2.1; have h2:=h.2.2.1.2.1
 exact Blk.ne_ h1 h2 (by decide) e
theorem hold_cx {lo n:Nat} {p:XP} {K:KV} {E:List EvV} {S:List Nat} {w:World} (rw:Bool) (hS:rw=true→∀ g∈FX p,g∈S) (h:CO lo p K E w):Hold ⟨Tryz.prog,tab,S,w,n,[]⟩ (xoM K E.length p rw) (xoO lo K E p rw) w:=by
 have ho:=h.out rw
 have hne:=h.ne
 have hrw:∀ A∈xoO lo K E p rw,A.rw=rw:=by
  intro A hA
  simp only [List.mem_cons,List.not_mem_nil,or_false] at hA
  rcases hA with rfl | rfl | rfl | rfl
  ·show (rw && rw)=rw; cases rw <;> rfl
  all_goals rfl
 refine ⟨Upd.refl _ _,fun j r hj hl=>?_,fun j r hj hl=>?_,fun i j r r' hi hj _ _ hn=>?_,fun A hA=>(ho A hA).1,fun A hA j r hj _=>?_,fun A hA hr g hg=>.inl (hS (by rw [← hrw A hA]; exact hr) g ((ho A hA).2.2.2 g hg)),List.Pairwise.imp (R:=fun A B:Asr=>∀ g∈A.F,g∉B.F) (S:=fun A B:Asr=>A.rw=true∨B.rw=true→∀ g∈A.F,g∉B.F) (fun {a b} h _=>h) (h.dis rw)⟩
 ·match j,hj with
  | 0,hj=>cases hj; exact h.2.1
  | 1,hj=>cases hj; exact h.2.2.1.2.1
  | j+2,hj=>simp at hj
 ·match j,hj with
  | 0,hj=>cases hj; exact ⟨rfl,rfl,fun hr=>.inl (hS hr _ (List.mem_cons_self ..))⟩
  | 1,hj=>cases hj; exact ⟨rfl,rfl,fun hr=>.inl (hS hr _ (List.mem_cons_of_mem _ (List.mem_cons_self ..)))⟩
  | j+2,hj=>simp at hj
 ·match i,j,hi,hj with
  | 0,0,_,_=>exact absurd rfl hn
  | 0,1,hi,hj=>cases hi; cases hj; exact hne
  | 1,0,hi,hj=>cases hi; cases hj; exact fun e=>hne e.symm
  | 1,1,_,_=>exact absurd rfl hn
  | i+2,_,hi,_=>simp at hi
  | _,j+2,_,hj=>simp at hj
 ·match j,hj with
  | 0,hj=>cases hj; exact (ho A hA).2.1
  | 1,hj=>cases hj; exact (ho A hA).2.2.1
  | j+2,hj=>simp at hj
def CX (lo:Nat) (p:XP) (w:World) (v:Value) (K:KV) (E:List EvV) (e:Ending) (w':World):Prop:=∃ p':XP,(p'.q=p.q∧p'.g=p.g)∧e=.returned v∧CO lo p' K E w'∧Upd (FX p) w w'∧∀ g∈FX p',g∈FX p∨w.heap.size≤g
theorem fin_cx {lo n l0 l1 l2 l3:Nat} (i j k:Nat) {p p':XP} {K:KV} {E:List EvV} {w:World} {V:Value} {v:SV} {cs0 cs1:List SV} {st:St}
  (hr0:st.m[0]?=some ⟨p.q,98,true,0,[],cs0,[],true⟩) (hr1:st.m[1]?=some ⟨p.g,72,true,0,[],cs1,[],true⟩)
  (h0:st.ob[0]?=some (xo0 l0 K p' true)) (h1:st.ob[i]?=some (rwO askE l1 p'.AQ K.Q.length p'.cQ K.Q true)) (h2:st.ob[j]?=some (rwO leaE l2 p'.AL K.L.length p'.cL K.L true)) (h3:st.ob[k]?=some (rwO evE l3 p'.AE E.length p'.cE E true))
  (hq:p'.q=p.q) (hg:p'.g=p.g) (hv:den st.m v=V) (hlq:lo≤p.q) (hlg:lo≤p.g) (b0:lo≤l0) (b1:lo≤l1) (b2:lo≤l2) (b3:lo≤l3) (hc0:(denL st.m cs0).toArray=xcA K E.length p') (hc1:(denL st.m cs1).toArray=grpA K.G (.slice p'.P.A1 K.G.cars.length p'.P.c1) (.slice p'.P.A2 K.G.waits.length p'.P.c2)) :
  Fin ⟨Tryz.prog,tab,FX p,w,n,[]⟩ (CX lo p w V K E) v st:=by
 refine fin fun w' hH=>?_
 have o0:=hob hH 0 h0; have o1:=hob hH i h1; have o2:=hob hH j h2; have o3:=hob hH k h3
 have r0:=hH.row 0 _ hr0 rfl
 have r1:=hH.row 1 _ hr1 rfl
 rw [rowA_nil rfl rfl,hc0] at r0
 rw [rowA_nil rfl rfl,hc1] at r1
 refine ⟨p',⟨hq,hg⟩,by rw [hv],⟨by rw [hq]; exact hlq,by rw [hq]; exact r0,⟨by rw [hg]; exact hlg,by rw [hg]; exact r1,own_base o0.1 b0,own_base o0.2 b0⟩,Ek.base o1 b1,Ek.base o2 b2,Ek.base o3 b3⟩,hH.upd,fun b hb=>?_⟩
 rcases List.mem_cons.1 hb with rfl | hb
 ·rw [hq]; exact (hH.wf 0 _ hr0 rfl).2.2 rfl
 rcases List.mem_cons.1 hb with rfl | hb
 ·rw [hg]; exact (hH.wf 1 _ hr1 rfl).2.2 rfl
 rcases List.mem_append.1 hb with hb | hb
 ·exact hH.own _ (List.mem_of_getElem? h0) rfl b hb
 rcases List.mem_append.1 hb with hb | hb
 ·exact hH.own _ (List.mem_of_getElem? h1) rfl b hb
 rcases List.mem_append.1 hb with hb | hb
 ·exact hH.own _ (List.mem_of_getElem? h2) rfl b hb
 rcases List.mem_append.1 hb with hb | hb
 ·exact hH.own _ (List.mem_of_getElem? h3) rfl b hb
 ·cases hb
theorem CX.parts {lo:Nat} {p:XP} {w w':World} {v:Value} {K:KV} {E:List EvV} {e:Ending} (h:CX lo p w v K E e w') (A0 A1 A2 A3:Asr) (hA:[A0,A1,A2,A3].flatMap Asr.F=(blkOf p.P.A1++blkOf p.P.A2)++(blkOf p.AQ++(blkOf p.AL++(blkOf p.AE++[])))):∃ x:XP,e=.returned v∧Blk w' p.q 98 (xcA K E.length { x with g:=p.g })∧Blk w' p.g 72 (grpA K.G (.slice x.P.A1 K.G.cars.length x.P.c1) (.slice x.P.A2 K.G.waits.length x.P.c2))∧(∀ B∈xoO lo K E x true,B.st w')∧Upd (p.q::p.g::([A0,A1,A2,A3].flatMap Asr.F)) w w'∧(∀ B∈xoO lo K E x true,∀ g∈B.F,g∈[A0,A1,A2,A3].flatMap Asr.F∨w.heap.size≤g)∧(xoO lo K E x true).Pairwise (fun A B=>∀ g∈A.F,g∉B.F):=by
 obtain ⟨x,⟨hq,hg⟩,h1,h2,h3,h4⟩:=h
 have ho:=h2.out true
 rw [hA]
 refine ⟨x,h1,by rw [← hq,← hg]; exact h2.2.1,by rw [← hg]; exact h2.2.2.1.2.1,fun B hB=>(ho B hB).1,h3,fun B hB g hgB=>?_,h2.dis true⟩
 rcases h4 g ((ho B hB).2.2.2 g hgB) with h | h
 ·rcases List.mem_cons.1 h with rfl | h
  ·rw [← hq] at hgB; exact absurd hgB (ho B hB).2.1
  rcases List.mem_cons.1 h with rfl | h
  ·rw [← hg] at hgB; exact absurd hgB (ho B hB).2.2.1
  ·exact .inl h
 ·exact .inr h
end Rk
namespace Rk
open Go.RowKit Ba Mem En Go.Proofs.YtpiiblkiddcgcaaGreat.Ty Mo Go.Proofs.YtpiiblkiddcgcaaGreat.St Co
open Gr (GrV CarsAt WaitsAt carL waitL waitsO pairO grpA)
open Et (carsO car_at)
open Rg (RO RP FP)
open Ri (MsgV msgC)
open Qu (askE atS oQ)
open Le (isS atP oI)
open Fl (leaE)
set_option maxRecDepth 100000
attribute [local irreducible] Go.Calls
set_option maxHeartbeats 1000000
theorem ofR {lo:Nat} {p:XP} {K:KV} {E:List EvV} {w:World} (hg:CO lo p K E w) (hl:K.L.length≤10000) (s:Int):Calls Tryz.prog 146 #[.pointer (some ⟨p.q,0,none⟩),.int .i64 s] w fun e w'=>e=.returned (.int .i64 (oI (atP K.L (isS s))))∧Since w w':=by
 obtain ⟨q,g0,P,AQ,cQ,AL,cL,AE,cE⟩:=p
 obtain ⟨g,hA⟩:=Ek.addr hg.2.2.2.2.1
 have hA:0 < K.L.length→AL=some ⟨g,0,none⟩:=hA
 obtain ⟨p,hp⟩:∃ p:XP,p=⟨q,g0,P,AQ,cQ,AL,cL,AE,cE⟩:=⟨_,rfl⟩
 refine entH tab_ok (hold_cx (S:=[]) false (by simp) hg) [.p 0 0,.i .i64 s] Tryz.func146 Tryz.ntmps146 rfl rfl ?_
 repeat' (first | refine gs_ ?_|((conv=>whnf); first | intro b | refine fin_s ?_))
 conv=>whnf
 refine lp ⟨tab_ok⟩ (ι:={k:Nat // k≤K.L.length∧∀ j,j < k→∀ hj:j < K.L.length,isS s K.L[j]=false}) (fun x=>match x with | ⟨k,_⟩=>⟨[(0,.p 0 0),(1,.i .i64 s),(5,.i .i64 (k:Int))],xoM K E.length ⟨q,g0,P,AQ,cQ,AL,cL,AE,cE⟩ false,xoO lo K E ⟨q,g0,P,AQ,cQ,AL,cL,AE,cE⟩ false⟩) (fun x=>K.L.length - x.1) ⟨0,Nat.zero_le _,fun j hj=>by omega⟩ (wk ?_) ?_
 ·repeat' (first | exact trivial | rfl | ((conv=>whnf); refine And.intro ?_ ?_))
 rintro ⟨k,hk,hno⟩
 by_cases hlt:k < K.L.length
 ·obtain ⟨x,hx⟩:∃ x,K.L[k]?=some x:=⟨_,List.getElem?_eq_getElem hlt⟩
  obtain ⟨hkl,hxe⟩:=List.getElem?_eq_some_iff.1 hx
  obtain rfl:=hA (by omega)
  by_cases hpx:x.se=s
  ·repeat' (first | refine gs_ ?_|((conv=>whnf); first | intro b | refine bto ?_|refine bfo ?_|refine wr_i ?_|refine opiv ⟨tab_ok⟩ (by rfl) (by rfl) (by rfl) (by rfl) (by rfl) (by rfl) ⟨by omega,by omega⟩ ?_|refine opfv ⟨tab_ok⟩ (by rfl) (by rfl) (by rfl) (by rfl) ?_|refine opxc (g:=g) (off:=0+k*10+0+0) (.i .i64 x.se) (fun w1 hH=>cell_k (k:=0) (Ek.rng (hob hH (A:=rwO leaE lo (some ⟨g,0,none⟩) K.L.length cL K.L false) 2 rfl) hx) rfl) ⟨tab_ok⟩ (by rfl) (by rfl) (by first | (simp only [Go.WideShapes.add_plain]; done)|(simp only [Go.WideShapes.add_plain]; rfl)) ?_|refine br_t (beq_iff_eq.2 hpx) ?_|refine fin_s ?_))
   have e:atP K.L (isS s)=some k:=List.findIdx?_eq_some_iff_getElem.2 ⟨hkl,by rw [hxe]; simp [isS,hpx],fun j hj=>by simpa using hno j hj (by omega)⟩
   rw [e]; rfl
  ·have hpf:isS s x=false:=by simp [isS,hpx]
   repeat' (first | refine gs_ ?_|((conv=>whnf); first | intro b | refine bto ?_|refine bfo ?_|refine wr_i ?_|refine opiv ⟨tab_ok⟩ (by rfl) (by rfl) (by rfl) (by rfl) (by rfl) (by rfl) ⟨by omega,by omega⟩ ?_|refine opfv ⟨tab_ok⟩ (by rfl) (by rfl) (by rfl) (by rfl) ?_|refine opxc (g:=g) (off:=0+k*10+0+0) (.i .i64 x.se) (fun w1 hH=>cell_k (k:=0) (Ek.rng (hob hH (A:=rwO leaE lo (some ⟨g,0,none⟩) K.L.length cL K.L false) 2 rfl) hx) rfl) ⟨tab_ok⟩ (by rfl) (by rfl) (by first | (simp only [Go.WideShapes.add_plain]; done)|(simp only [Go.WideShapes.add_plain]; rfl)) ?_|refine br_f (beq_eq_false_iff_ne.2 hpx) ?_|refine back ⟨k+1,by omega,fun j hj hjl=>(Nat.lt_succ_iff_lt_or_eq.1 hj).elim (fun h=>hno j h hjl) (fun h=>by subst h; rw [hxe]; exact hpf)⟩ (wk ?_) ?_|refine fin_s ?_))
   all_goals first | (show K.L.length - (k+1) < K.L.length - k; omega)|skip
   all_goals (repeat' (first | exact trivial | rfl | ((conv=>whnf); refine And.intro ?_ ?_)))
 ·obtain rfl:k=K.L.length:=by omega
  have e:atP K.L (isS s)=none:=List.findIdx?_eq_none_iff.2 fun x hx=>by
   obtain ⟨j,hj,rfl⟩:=List.mem_iff_getElem.1 hx
   exact hno j (by omega) hj
  repeat' (first | refine gs_ ?_|((conv=>whnf); first | intro b | refine bto ?_|refine bfo ?_|refine wr_i ?_|refine fin_s ?_))
  rw [e]; rfl
theorem placeR {lo:Nat} {p:XP} {K:KV} {E:List EvV} {w:World} (hg:CO lo p K E w) (hl:K.Q.length≤10000) (s:Int):Calls Tryz.prog 147 #[.pointer (some ⟨p.q,0,none⟩),.int .i64 s] w fun e w'=>e=.returned (.int .i64 (oQ (atS K.Q s)))∧Since w w':=by
 obtain ⟨q,g0,P,AQ,cQ,AL,cL,AE,cE⟩:=p
 obtain ⟨g,hA⟩:=Ek.addr hg.2.2.2.1
 have hA:0 < K.Q.length→AQ=some ⟨g,0,none⟩:=hA
 refine entH tab_ok (hold_cx (S:=[]) false (by simp) hg) [.p 0 0,.i .i64 s] Tryz.func147 Tryz.ntmps147 rfl rfl ?_
 repeat' (first | refine gs_ ?_|((conv=>whnf); first | intro b | refine fin_s ?_))
 conv=>whnf
 refine lp ⟨tab_ok⟩ (ι:={k:Nat // k≤K.Q.length∧∀ j,j < k→∀ hj:j < K.Q.length,Qu.isS s K.Q[j]=false}) (fun x=>match x with | ⟨k,_⟩=>⟨[(0,.p 0 0),(1,.i .i64 s),(5,.i .i64 (k:Int))],xoM K E.length ⟨q,g0,P,AQ,cQ,AL,cL,AE,cE⟩ false,xoO lo K E ⟨q,g0,P,AQ,cQ,AL,cL,AE,cE⟩ false⟩) (fun x=>K.Q.length - x.1) ⟨0,Nat.zero_le _,fun j hj=>by omega⟩ (wk ?_) ?_
 ·repeat' (first | exact trivial | rfl | ((conv=>whnf); refine And.intro ?_ ?_))
 rintro ⟨k,hk,hno⟩
 by_cases hlt:k < K.Q.length
 ·obtain ⟨x,hx⟩:∃ x,K.Q[k]?=some x:=⟨_,List.getElem?_eq_getElem hlt⟩
  obtain ⟨hkl,hxe⟩:=List.getElem?_eq_some_iff.1 hx
  obtain rfl:=hA (by omega)
  by_cases hpx:x.se=s
  ·repeat' (first | refine gs_ ?_|((conv=>whnf); first | intro b | refine bto ?_|refine bfo ?_|refine wr_i ?_|refine opiv ⟨tab_ok⟩ (by rfl) (by rfl) (by rfl) (by rfl) (by rfl) (by rfl) ⟨by omega,by omega⟩ ?_|refine opfv ⟨tab_ok⟩ (by rfl) (by rfl) (by rfl) (by rfl) ?_|refine opxc (g:=g) (off:=0+k*5+0) (.i .i64 x.se) (fun w1 hH=>cell_k (k:=0) (Ek.rng (hob hH (A:=rwO askE lo (some ⟨g,0,none⟩) K.Q.length cQ K.Q false) 1 rfl) hx) rfl) ⟨tab_ok⟩ (by rfl) (by rfl) (by first | (simp only [Go.WideShapes.add_plain]; done)|(simp only [Go.WideShapes.add_plain]; rfl)) ?_|refine br_t (beq_iff_eq.2 hpx) ?_|refine fin_s ?_))
   have e:atS K.Q s=some k:=List.findIdx?_eq_some_iff_getElem.2 ⟨hkl,by rw [hxe]; simp [Qu.isS,hpx],fun j hj=>by simpa using hno j hj (by omega)⟩
   rw [e]; rfl
  ·have hpf:Qu.isS s x=false:=by simp [Qu.isS,hpx]
   repeat' (first | refine gs_ ?_|((conv=>whnf); first | intro b | refine bto ?_|refine bfo ?_|refine wr_i ?_|refine opiv ⟨tab_ok⟩ (by rfl) (by rfl) (by rfl) (by rfl) (by rfl) (by rfl) ⟨by omega,by omega⟩ ?_|refine opfv ⟨tab_ok⟩ (by rfl) (by rfl) (by rfl) (by rfl) ?_|refine opxc (g:=g) (off:=0+k*5+0) (.i .i64 x.se) (fun w1 hH=>cell_k (k:=0) (Ek.rng (hob hH (A:=rwO askE lo (some ⟨g,0,none⟩) K.Q.length cQ K.Q false) 1 rfl) hx) rfl) ⟨tab_ok⟩ (by rfl) (by rfl) (by first | (simp only [Go.WideShapes.add_plain]; done)|(simp only [Go.WideShapes.add_plain]; rfl)) ?_|refine br_f (beq_eq_false_iff_ne.2 hpx) ?_|refine back ⟨k+1,by omega,fun j hj hjl=>(Nat.lt_succ_iff_lt_or_eq.1 hj).elim (fun h=>hno j h hjl) (fun h=>by subst h; rw [hxe]; exact hpf)⟩ (wk ?_) ?_|refine fin_s ?_))
   all_goals first | (show K.Q.length - (k+1) < K.Q.length - k; omega)|skip
   all_goals (repeat' (first | exact trivial | rfl | ((conv=>whnf); refine And.intro ?_ ?_)))
 ·obtain rfl:k=K.Q.length:=by omega
  have e:atS K.Q s=none:=List.findIdx?_eq_none_iff.2 fun x hx=>by
   obtain ⟨j,hj,rfl⟩:=List.mem_iff_getElem.1 hx
   exact hno j (by omega) hj
  repeat' (first | refine gs_ ?_|((conv=>whnf); first | intro b | refine bto ?_|refine bfo ?_|refine wr_i ?_|refine fin_s ?_))
  rw [e]; rfl
theorem sayR {lo:Nat} {p:XP} {K:KV} {E:List EvV} {w:World} (hg:CO lo p K E w) (hl:E.length≤10000) (s:Int) (m:MsgV):Calls Tryz.prog 133 #[.pointer (some ⟨p.q,0,none⟩),.int .i64 s,.agg (msgC m)] w (CX lo p w (.tuple #[]) K (E++[EvV.mk s m])):=by
 have h0:=hg.1
 have h1:=hg.2.2.1.1
 obtain ⟨q,g0,P,AQ,cQ,AL,cL,AE,cE⟩:=p
 refine entH tab_ok (hold_cx true (fun _ g h=>h) hg) [.p 0 0,.i .i64 s,.a [.i .i64 m.ki,.i .i64 m.a,.i .i64 m.b,.i .i64 m.c]] Tryz.func133 Tryz.ntmps133 rfl rfl ?_
 repeat' (first | refine gs_ ?_|((conv=>whnf); first | intro b | refine bto ?_|refine bfo ?_|refine opb1 (e:=110) ⟨tab_ok⟩ [.i .i64 s,.i .i64 m.ki,.i .i64 m.a,.i .i64 m.b,.i .i64 m.c] (by rfl) (by rfl) ?_|refine opap 3 3 (e:=110) (lo:=lo) (size:=5) (bytes:=40) (z:=.agg #[.int .i64 0,.int .i64 0,.int .i64 0,.int .i64 0,.int .i64 0]) (A:=rwO evE lo AE E.length cE E true) (vals:=rowsOf evC E) (cells:=evC (EvV.mk s m)) (zs:=rowsOf evC (E++[EvV.mk s m])) (n2:=E.length+1) (fun A' c'=>rwO evE lo A' (E.length+1) c' (E++[EvV.mk s m]) true) (by rfl) (by rfl) (by rfl) (by rfl) rfl rfl (fun w h=>h) (fun A' c' w h=>h) (fun _ _=>rfl) (by rfl) (by rfl) (by rfl) (by rfl) Tryz.underlying51 (by kernel_rfl) rfl (by decide) (by decide) (evE.one _) (by omega) (fun w hH=>by have h:q < w.heap.size:=(hH.row 0 _ rfl rfl).lt; have h0:lo≤q:=h0; omega) rfl (by rw [rowsOf_append,rowsOf_one]) (fun A' c'=>?_)|refine fin_s ?_))
 all_goals (conv=>whnf)
 all_goals exact fin_cx 1 2 3 (p:=⟨q,g0,P,AQ,cQ,AL,cL,AE,cE⟩) (p':=⟨q,g0,P,AQ,cQ,AL,cL,A',c'⟩) (by rfl) (by rfl) (by rfl) (by rfl) (by rfl) (by rw [List.length_append]; rfl) rfl rfl (by rfl) h0 h1 (Nat.le_refl _) (Nat.le_refl _) (Nat.le_refl _) (Nat.le_refl _) (by rw [List.length_append]; rfl) (by rfl)
end Rk
namespace En
open Go.RowKit Ba Mem
section
variable {X:Cx} {s:St} {o:Oper} {t:TypeId}
theorem pus_h (hX:X.Ok) {K:SV→Prop} {y y2:Ty} {x a1:Operand} {A:Option Addr} {len cap h1:Nat} {k1:IntKind} {H:Int} (ho:o.op=.slice t x none (some a1) none) (hx:evO x s.fr=some (.v (.slice A len cap))) (h3:evO a1 s.fr=some (.i k1 H)) (hy:tyO t X.tab=some y) (hs:y.sl=true) (he:tyO y.el X.tab=some y2)
  (hb:H=h1∧h1≤cap) (h:K (.v (.slice A h1 cap))):PuVC X o s K :=
 ⟨⟨.v (.slice A h1 cap),rfl,fun a hf w=>by
  obtain ⟨d,i,T⟩:=(hX.tab _ _ hy).out
  obtain ⟨d',i',T'⟩:=(hX.tab _ _ he).out
  refine exec_slice (s:=y2.size) t y.el x none (some a1) none ho (by rw [(evO_of hf hx).2]; rfl) (by rw [T.un,T.sl hs]) (by rw [T'.inf]; simp [T'.size]) (by
   have e2:=(evO_of hf h3).2
   simp only [Option.map,e2,den]
   exact sb_h w k1 hb.1 hb.2) ?_ (Nat.sub_zero _) (Nat.sub_zero _)
  split
  ·rfl
  ·cases A with
   | none=>rfl
   | some a=>simp [Addr.add],h⟩⟩
theorem pus_l (hX:X.Ok) {K:SV→Prop} {y y2:Ty} {x a1:Operand} {A:Option Addr} {len cap l:Nat} {k1:IntKind} {L:Int} (ho:o.op=.slice t x (some a1) none none) (hx:evO x s.fr=some (.v (.slice A len cap))) (h2:evO a1 s.fr=some (.i k1 L)) (hy:tyO t X.tab=some y) (hs:y.sl=true) (he:tyO y.el X.tab=some y2)
  (hb:L=l∧l≤len) (h:K (.v (.slice (cutA cap l A y2.size) (len - l) (cap - l)))):PuVC X o s K :=
 ⟨⟨.v (.slice (cutA cap l A y2.size) (len - l) (cap - l)),rfl,fun a hf w=>by
  obtain ⟨d,i,T⟩:=(hX.tab _ _ hy).out
  obtain ⟨d',i',T'⟩:=(hX.tab _ _ he).out
  exact exec_slice (s:=y2.size) t y.el x (some a1) none none ho (by rw [(evO_of hf hx).2]; rfl) (by rw [T.un,T.sl hs]) (by rw [T'.inf]; simp [T'.size]) (by
   have e1:=(evO_of hf h2).2
   simp only [Option.map,e1,den]
   exact sb_l w k1 hb.1 hb.2) rfl rfl rfl,h⟩⟩
end
theorem reads_take {w:World} {B size n k:Nat} {A:Option Addr} {xs:List Value} (h:Reads w B size A n xs) (hk:k≤n):Reads w B size A k (xs.take (k*size)) :=
 ⟨by rw [List.length_take,h.1]; exact Nat.min_eq_left (Nat.mul_le_mul_right _ hk),fun hn=>by
  obtain ⟨ad,e,hb,hc⟩:=h.2 (by omega)
  refine ⟨ad,e,hb,fun j u hu=>hc j u ?_⟩
  rw [List.getElem?_take] at hu
  split at hu
  ·exact hu
  ·cases hu⟩
section
variable {α:Type} {E:Ek α} {lo n c k:Nat} {A:Option Addr} {ls:List α} {w:World}
theorem Ek.rd_take (h:E.At lo A n c ls w) (hn:ls.length=n) (hk:k≤n):Reads w w.heap.size E.k A k (rowsOf E.c (ls.take k)):=by
 have:=reads_take (own_reads h) hk
 rwa [rowsOf_take E.len (by omega)] at this
theorem Ek.rd_drop (h:E.At lo A n c ls w) (hn:ls.length=n) (hk:k≤n):Reads w w.heap.size E.k (cutA c k A E.k) (n - k) (rowsOf E.c (ls.drop k)):=by
 rcases own_at h with ⟨h1,h2,h3⟩ | ⟨g,cur,h1,h2,h3,h4,_⟩
 ·subst h2
  refine ⟨?_,fun h=>by omega⟩
  rw [rowsOf_len E.len,List.length_drop,hn]
 ·have:=reads_cut (own_reads h) hk h4
  rwa [rowsOf_drop E.len (by omega)] at this
theorem Ek.ones (E:Ek α) (ls:List α):∀ u∈rowsOf E.c ls,u.oneCell'=true:=rowsOf_one' E.one ls
end
end En
end Go.Proofs.YtpiiblkiddcgcaaGreat
