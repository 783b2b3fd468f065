/-
  Wanted: GatewayStale 1.
  No condition.
-/
import Derived.Test.YtepfmfalebmcnaaGreatDoorQH16
import Derived.Test.YtepfmfalebmcnaaGreatDoorQL0
set_option linter.all false
namespace Go.Proofs.YtepfmfalebmcnaaGreatDoor
namespace Gw
open Go.RowKit Ba Mem En Go.Proofs.YtepfmfalebmcnaaGreatDoor.Ty
open Mg (PktV pktC bytesOf mayB bytesF bytesH bytes_isB)
open Fm (frm frames)
open Byt (BV isB)
open Fl (leaE)
open Qu (askE)
open Co (KV newK Hold.ob NrP toNp Nr)
set_option maxRecDepth 100000
theorem bytesA (p:PktV) (h:mayB p=true) (w:World):Calls Tryz.prog 20 #[.agg (pktC p)] w fun e w'=>∃ x:Option Addr×Nat,e=.returned (.slice x.1 (bytesOf p).length x.2)∧byteE.At w.heap.size x.1 (bytesOf p).length x.2 (bytesOf p) w'∧Since w w':=by
 cases hh:p.has with
 | false =>
  have e:bytesOf p=Mg.headL p:=by unfold bytesOf; rw [if_neg (by rw [hh]; decide)]
  have hb:Mg.headB p=true:=by rw [Mg.may_not hh,Bool.and_eq_true] at h; exact h.1
  rw [e]
  exact bytesF p hb hh w
 | true =>
  rw [bytes_b p hh]
  exact bytesH p h hh w
def goodJ (jd:List Int) (i:Nat):List Int:=(jd.take i).filter fun z=>z != 165
theorem good_no {jd:List Int} {i:Nat}:∀ z∈goodJ jd i,z≠165:=fun z hz=>by
 have:=(List.mem_filter.1 hz).2
 simpa using this
theorem good_at {jd:List Int} {i:Nat} (h:i < jd.length):jd[i]?=some (jd.getD i 0):=by
 rw [List.getD,List.getElem?_eq_getElem h]; rfl
theorem good_skip {jd:List Int} {i:Nat} (h:i < jd.length) (hz:jd.getD i 0=165):goodJ jd (i+1)=goodJ jd i:=by
 unfold goodJ
 rw [List.take_succ,good_at h,List.filter_append,hz]
 simp
theorem good_add {jd:List Int} {i:Nat} (h:i < jd.length) (hz:jd.getD i 0≠165):goodJ jd (i+1)=goodJ jd i++[jd.getD i 0]:=by
 unfold goodJ
 have e:[jd.getD i 0].filter (fun z=>z != 165)=[jd.getD i 0]:=List.filter_cons_of_pos (bne_iff_ne.2 hz)
 rw [List.take_succ,good_at h,Option.toList_some,List.filter_append,e]
theorem good_sub {jd:List Int} {i:Nat} (h:∀ z∈jd,isB z):∀ z∈goodJ jd i,isB z:=fun z hz=>h z (List.mem_of_mem_take (List.mem_filter.1 hz).1)
def capJ (ss:Nat→StepD) (aa k:Nat):Nat:=sumT ss k+if k≤aa then 0 else 300
theorem cap_at {ss:Nat→StepD} {aa k:Nat}:sumT ss k≤capJ ss aa k∧capJ ss aa k≤sumT ss k+300∧capJ ss aa k+(ss k).n≤capJ ss aa (k+1)∧(k=aa→capJ ss aa k+300+(ss k).n=capJ ss aa (k+1)):=by
 have e:sumT ss (k+1)=sumT ss k+(ss k).n:=rfl
 unfold capJ
 rw [e]
 refine ⟨?_, ?_, ?_, ?_⟩
 ·omega
 ·split <;> omega
 ·split <;> split <;> omega
 ·intro h
  rw [if_pos (by omega),if_neg (by omega)]
  omega
attribute [local irreducible] Go.Calls doV tickG frm frames bytesOf capJ goodJ
theorem hold_tj {a:Option Addr} {len nt:Nat} {ss:Nat→StepD} {jA:Option Addr} {jn:Nat} {jd:List Int} {w:World} (h:StR a len ss w) (ht:Lib.TabIs Tryz.prog w "internal/strconv.uint64pow10" .u64 Lib.pow10Tab) (hj:BV w jA jn jd):Hold ⟨Tryz.prog,tab,[],w,nt,[]⟩ [] [stO a len ss,tbO,bvO jA jn jd] w :=
 Hold.addObj (hold_tb h ht) (bvO jA jn jd) hj (by intro k; cases k) (by intro r hr; cases hr) (by
  intro A hA k
  simp only [List.mem_cons,List.not_mem_nil,or_false] at hA
  rcases hA with rfl | rfl <;> (rcases k with k | k <;> cases k))
set_option maxHeartbeats 16000000 in
theorem staleF (c:CfgV) (p:PktV) (hpw:(Lit.int .i64 p.se).wf=true) (at_:Int) (hat:0≤at_∧at_≤255) {jA:Option Addr} {jn jc:Nat} {jd:List Int} {a:Option Addr} {len cap:Nat} {ss:Nat→StepD} {w:World} (h:StR a len ss w) (hj:BV w jA jn jd) (hw:∀ i,i < len→StepW (ss i)) (hlen:len≤9223372036854775807) (ht:Lib.TabIs Tryz.prog w "internal/strconv.uint64pow10" .u64 Lib.pow10Tab):Calls Tryz.prog 3 #[(aCfg c),.slice a len cap,.agg (pktC p),.slice jA jn jc,.int .u8 at_] w fun e w'=>e=.returned (.bool true)∧Since w w':=by
 obtain ⟨gb,off,hb⟩:=Ek.rd_addr h.r
 obtain ⟨jg,jo,hja⟩:∃ jg jo,0 < jn→jA=some ⟨jg,jo,none⟩:=by
  rcases Nat.eq_zero_or_pos jn with h0 | h0
  ·exact ⟨0,0,fun h=>by omega⟩
  ·obtain ⟨b,o,e,_⟩:=hj.addr (by omega)
   exact ⟨b,o,fun _=>e⟩
 have hjl:=hj.1
 have hjn:=hj.2.1
 have hjb:=hj.2.2.1
 refine entH tab_ok (hold_tj h ht hj) [.a (sCfg c),.v (.slice a len cap),.a [.i .i64 p.se,.i .i64 p.ep,.i .i64 p.sq,.i .i64 p.ak,.b p.has,.i .i64 p.ki,.i .i64 p.a,.i .i64 p.b,.i .i64 p.c],.v (.slice jA jn jc),.i .u8 at_] Tryz.func3 Tryz.ntmps3 rfl rfl ?_
 cases hl:litB ss len with
 | false =>
  repeat' (first | refine gs_ ?_|((conv=>whnf); first | intro b | refine callH (f:=16) (.b false) (fun w1 hH=>(by have:=light22 (cap:=cap) (Hold.ob hH (A:=stO a len ss) 0 rfl) hlen; rw [hl] at this; exact this)) ?_|refine callH (f:=18) (.b true) (fun w1 hH=>answersT w1) ?_|refine fin_s ?_))
  all_goals rfl
 | true =>
  obtain ⟨h3,h2⟩:=lit_of hl hw
  by_cases hj2:200 < jn
  ·repeat' (first | refine gs_ ?_|((conv=>whnf); first | intro b | refine bto ?_|refine bfo ?_|refine callH (f:=16) (.b true) (fun w1 hH=>(by have:=light22 (cap:=cap) (Hold.ob hH (A:=stO a len ss) 0 rfl) hlen; rw [hl] at this; exact this)) ?_|refine callH (f:=18) (.b true) (fun w1 hH=>answersT w1) ?_|refine fin_s ?_))
   all_goals rfl
  cases hm:mayB p with
  | false =>
   repeat' (first | refine gs_ ?_|((conv=>whnf); first | intro b | refine bto ?_|refine bfo ?_|refine callH (f:=16) (.b true) (fun w1 hH=>(by have:=light22 (cap:=cap) (Hold.ob hH (A:=stO a len ss) 0 rfl) hlen; rw [hl] at this; exact this)) ?_|refine callH (f:=17) (.b false) (fun w1 hH=>(by have:=mayPT p w1; rw [hm] at this; exact this)) ?_|refine callH (f:=18) (.b true) (fun w1 hH=>answersT w1) ?_|refine fin_s ?_))
   all_goals rfl
  | true =>
   by_cases hp0:p.ep=0
   ·repeat' (first | refine gs_ ?_|((conv=>whnf); first | intro b | refine bto ?_|refine bfo ?_|refine callH (f:=16) (.b true) (fun w1 hH=>(by have:=light22 (cap:=cap) (Hold.ob hH (A:=stO a len ss) 0 rfl) hlen; rw [hl] at this; exact this)) ?_|refine callH (f:=17) (.b true) (fun w1 hH=>(by have:=mayPT p w1; rw [hm] at this; exact this)) ?_|refine callH (f:=18) (.b true) (fun w1 hH=>answersT w1) ?_|refine fin_s ?_))
    all_goals rfl
   repeat' (first | refine gs_ ?_|((conv=>whnf); first | intro bp | refine bto ?_|refine bfo ?_|refine callH (f:=16) (.b true) (fun w1 hH=>(by have:=light22 (cap:=cap) (Hold.ob hH (A:=stO a len ss) 0 rfl) hlen; rw [hl] at this; exact this)) ?_|refine callH (f:=17) (.b true) (fun w1 hH=>(by have:=mayPT p w1; rw [hm] at this; exact this)) ?_|refine opb0 byteE (by rfl) (Tryz.underlying29) (by kernel_rfl) (fun g0=>?_)|refine fin_s ?_))
   conv=>whnf
   rename_i bc
   refine lp ⟨tab_ok⟩ (ι:={x:(Nat×Option Addr×Nat)×List Int // x.1.1≤jn∧x.2=goodJ jd x.1.1∧x.2.length≤x.1.1}) (fun x=>match x with | ⟨((i,A,cc),l),_⟩=>⟨[(1,.v (.slice a len cap)),(3,.v (.slice jA jn jc)),(4,.i .u8 at_),(5,.p 0 0),(7,.p 1 0),(11,.v (.slice A l.length cc)),(12,.i .i64 (i:Int))],[⟨bc,23,true,0,[],(sCfg c),[],true⟩,⟨bp,28,true,0,[],[.i .i64 p.se,.i .i64 p.ep,.i .i64 p.sq,.i .i64 p.ak,.b p.has,.i .i64 p.ki,.i .i64 p.a,.i .i64 p.b,.i .i64 p.c],[],true⟩],[stO a len ss,tbO,bvO jA jn jd,rwO byteE w.heap.size A l.length cc l true]⟩) (fun x=>jn - x.1.1.1) ⟨((0,some ⟨g0,0,none⟩,0),[]),Nat.zero_le _,by unfold goodJ; rfl,Nat.le_refl _⟩ (wk ?_) ?_
   ·repeat' (first | exact trivial | rfl | ((conv=>whnf); refine And.intro ?_ ?_))
   rintro ⟨⟨⟨i,A,cc⟩,l⟩,hi,hgl,hll⟩
   have hi:i≤jn:=hi
   have hgl:l=goodJ jd i:=hgl
   have hll:l.length≤i:=hll
   by_cases hlt2:i < jn
   ·have hja:=hja (by omega)
    subst hja
    by_cases hz:jd.getD i 0=165
    ·have hgl2:l=goodJ jd (i+1):=by rw [good_skip (by omega) hz]; exact hgl
     repeat' (first | refine gs_ ?_|((conv=>whnf); first | intro b | refine bto ?_|refine bfo ?_|refine wr_i ?_|refine br_f (bne_f hz) ?_|refine iv_ ?_|refine ui_ ?_|refine fv_ ?_|refine uf_ ?_|refine xc_ (g:=jg) (off:=jo+i*1) (.i .u8 (jd.getD i 0)) (fun w hH=>by rw [Nat.mul_one]; exact bv_rng (Hold.ob hH (A:=bvO (some ⟨jg,jo,none⟩) jn jd) 2 rfl) hlt2 rfl) ?_|refine En.back ⟨((i+1,A,cc),l),by show i+1≤jn; omega,hgl2,by show l.length≤i+1; omega⟩ (wkd ?_) ?_|refine fin_s ?_))
     all_goals first | (show jn - (i+1) < jn - i; omega)|skip
     all_goals (repeat' (first | exact trivial | rfl | ((conv=>whnf); refine And.intro ?_ ?_)))
    ·have hgl2:l++[jd.getD i 0]=goodJ jd (i+1):=by rw [good_add (by omega) hz,hgl]
     have hll2:(l++[jd.getD i 0]).length≤i+1:=by rw [List.length_append]; simp only [List.length_cons,List.length_nil]; omega
     repeat' (first | refine gs_ ?_|((conv=>whnf); first | intro b | refine bto ?_|refine bfo ?_|refine wr_i ?_|refine br_t (bne_iff_ne.2 hz) ?_|refine iv_ ?_|refine ui_ ?_|refine fv_ ?_|refine uf_ ?_|refine xc_ (g:=jg) (off:=jo+i*1) (.i .u8 (jd.getD i 0)) (fun w hH=>by rw [Nat.mul_one]; exact bv_rng (Hold.ob hH (A:=bvO (some ⟨jg,jo,none⟩) jn jd) 2 rfl) hlt2 rfl) ?_|refine opbn ⟨tab_ok⟩ 5 [_] [.i .u8 (jd.getD i 0)] (by rfl) (by rfl) (by rfl) ?_|refine opap 3 2 (e:=5) (lo:=w.heap.size) (size:=1) (bytes:=1) (z:=.int .u8 0) (A:=rwO byteE w.heap.size A l.length cc l true) (vals:=rowsOf byteE.c l) (cells:=[.int .u8 (jd.getD i 0)]) (zs:=rowsOf byteE.c (l++[jd.getD i 0])) (n2:=(l++[jd.getD i 0]).length) (fun A' c'=>rwO byteE w.heap.size A' (l++[jd.getD i 0]).length c' (l++[jd.getD i 0]) true) (by rfl) (by rfl) (by rfl) (by rfl) rfl rfl (fun w h=>h) (fun A' c' w h=>h) (fun _ _=>rfl) (by rfl) (by rfl) (by rfl) (by rfl) Tryz.underlying29 (by kernel_rfl) rfl (by decide) (by decide) (by intro u hu; simp at hu; rcases hu with rfl; rfl) (by omega) (fun w hH=>hH.upd.size) (by rw [List.length_append]; rfl) (by rw [rowsOf_append]; rfl) (fun A8 c8=>?_)|refine En.back ⟨((i+1,A8,c8),l++[jd.getD i 0]),by show i+1≤jn; omega,hgl2,hll2⟩ (wkd ?_) ?_|refine fin_s ?_))
     all_goals first | (show jn - (i+1) < jn - i; omega)|skip
     all_goals (repeat' (first | exact trivial | rfl | ((conv=>whnf); refine And.intro ?_ ?_)))
   ·obtain rfl:i=jn:=by omega
    have hbl:=by_len p
    have hfl0:(frm (bytesOf p)).length≤27:=by rw [Fm.frm_length]; omega
    obtain ⟨dd,hdd⟩:∃ dd,dd=l++frm (bytesOf p):=⟨_,rfl⟩
    have hddl:l.length+(frm (bytesOf p)).length=dd.length:=by rw [hdd,List.length_append]
    have hddB:∀ z∈dd,isB z:=by
     rw [hdd]
     intro z hz
     rcases List.mem_append.1 hz with hz | hz
     ·rw [hgl] at hz; exact good_sub hjb z hz
     ·exact Fm.frm_isB (bytes_isB _) z hz
    repeat' (first | refine gs_ ?_|((conv=>whnf); first | intro b | refine bto ?_|refine bfo ?_|refine callN (f:=20) (ι:=Option Addr×Nat) (fun x=>.v (.slice x.1 (bytesOf p).length x.2)) (fun x=>rwO byteE w.heap.size x.1 (bytesOf p).length x.2 (bytesOf p) true) (fun w1 hH=>(bytesA p hm w1).mono (by rintro e w' ⟨x,rfl,h1,h2⟩; exact ⟨x,rfl,Ek.base h1 hH.upd.size,h2,Ek.lows h1⟩)) (fun x=>?_)|refine callN (f:=19) (ι:=Option Addr×Nat) (fun z=>.v (.slice z.1 (frm (bytesOf p)).length z.2)) (fun z=>rwO byteE w.heap.size z.1 (frm (bytesOf p)).length z.2 (frm (bytesOf p)) true) (fun w1 hH=>(frmE x.1 x.2 (bytesOf p) (bytesOf p).length (frm (bytesOf p)).length w1 (Hold.ob hH (A:=rwO byteE w.heap.size x.1 (bytesOf p).length x.2 (bytesOf p) true) 4 rfl) (bytes_isB _) (by omega) rfl).mono (by rintro e w' ⟨z,rfl,h1,h2⟩; exact ⟨z,rfl,Ek.base h1 hH.upd.size,h2,Ek.lows h1⟩)) (fun z=>?_)|refine opapo 3 5 (e:=5) (lo:=w.heap.size) (size:=1) (bytes:=1) (z:=.int .u8 0) (A:=rwO byteE w.heap.size A l.length cc l true) (C:=rwO byteE w.heap.size z.1 (frm (bytesOf p)).length z.2 (frm (bytesOf p)) true) (vals:=rowsOf byteE.c l) (cells:=rowsOf byteE.c (frm (bytesOf p))) (zs:=rowsOf byteE.c dd) (n2:=dd.length) (fun A' c'=>rwO byteE w.heap.size A' dd.length c' dd true) (by rfl) (by rfl) (by rfl) (by rfl) rfl rfl (fun w h=>h) (fun A' c' w h=>h) (fun _ _=>rfl) (by rfl) (fun w h=>Ek.reads h) Tryz.underlying29 (by kernel_rfl) rfl (by decide) (by decide) (rowsOf_one' byteE.one _) (by omega) (fun w hH=>hH.upd.size) hddl (by rw [hdd,rowsOf_append]) (fun A9 c9=>?_)|refine callN (f:=21) (ι:=Nat×Gp×List Nat) (fun y=>.v (.pointer (some ⟨y.1,0,none⟩))) (fun y=>gsO y.1 c y.2.1 0 (gm0 y.2.1 y.2.2) (gs0 c) true) (fun w1 hH=>newS c w1) (fun y=>?_)|refine fin_s ?_))
    conv=>whnf
    rename_i y1
    obtain ⟨q1,x1,Sk1⟩:=y1
    obtain ⟨q2,x2,Sk2⟩:=y
    obtain ⟨aa,_,_,haa⟩:=cut_at at_ hat len
    refine lp ⟨tab_ok⟩ (ι:={v:(Nat×Gm×Gm)×Gs // v.1.1≤len∧GI c v.1.1 (sumT ss v.1.1) v.2∧v.2.xs=[]}) (fun v=>match v with | ⟨((k,m1,m2),g),_⟩=>⟨[(1,.v (.slice a len cap)),(4,.i .u8 at_),(5,.p 0 0),(7,.p 1 0),(11,.v (.slice A9 dd.length c9)),(13,.v (.pointer (some ⟨q1,0,none⟩))),(14,.v (.pointer (some ⟨q2,0,none⟩))),(15,.i .i64 (k:Int))],[⟨bc,23,true,0,[],(sCfg c),[],true⟩,⟨bp,28,true,0,[],[.i .i64 p.se,.i .i64 p.ep,.i .i64 p.sq,.i .i64 p.ak,.b p.has,.i .i64 p.ki,.i .i64 p.a,.i .i64 p.b,.i .i64 p.c],[],true⟩],[stO a len ss,tbO,bvO jA i jd,rwO byteE w.heap.size A9 dd.length c9 dd true,rwO byteE w.heap.size x.1 (bytesOf p).length x.2 (bytesOf p) true,rwO byteE w.heap.size z.1 (frm (bytesOf p)).length z.2 (frm (bytesOf p)) true,gsO q1 c x1 (capJ ss aa k) m1 g true,gsO q2 c x2 (capJ ss aa k) m2 g true]⟩) (fun v=>len - v.1.1.1) ⟨((0,gm0 x1 Sk1,gm0 x2 Sk2),gs0 c),Nat.zero_le _,GI.new c,rfl⟩ (wk ?_ (by rfl) (by rfl) (by show [_,_,_,_,_,_,gsO q1 c x1 (capJ ss aa 0) (gm0 x1 Sk1) (gs0 c) true,gsO q2 c x2 (capJ ss aa 0) (gm0 x2 Sk2) (gs0 c) true]=[_,_,_,_,_,_,gsO q1 c x1 0 (gm0 x1 Sk1) (gs0 c) true,gsO q2 c x2 0 (gm0 x2 Sk2) (gs0 c) true]; rw [show capJ ss aa 0=0 by unfold capJ; rfl])) ?_
    ·repeat' (first | exact trivial | rfl | ((conv=>whnf); refine And.intro ?_ ?_))
    rintro ⟨⟨⟨k,m1,m2⟩,g⟩,hk,hg,hxs⟩
    have hk:k≤len:=hk
    have hg:GI c k (sumT ss k) g:=hg
    have hxs:g.xs=[]:=hxs
    by_cases hlt:k < len
    ·have hb:=hb (by omega)
     subst hb
     have haa:=haa (by omega)
     have hW:=hw k hlt
     have hWl:=hW.l
     have hWc:=hW.c
     have hsm:=sumT_at (ss:=ss) hlt
     have hs1:sumT ss (k+1)=sumT ss k+(ss k).n:=rfl
     have hb64:n64 (ss k).b:=n64_of hW.b
     obtain ⟨hc1,hc2,hc3,hc4⟩:=cap_at (ss:=ss) (aa:=aa) (k:=k)
     have hc5:=(cap_at (ss:=ss) (aa:=aa) (k:=k+1)).2.1
     have hgB:GI c k (capJ ss aa k) g:=hg.more (Nat.le_refl _) hc1
     obtain ⟨fl,hfl⟩:∃ fl,fl=(frames (ss k).d).2.length:=⟨_,rfl⟩
     by_cases hno:(ss k).k=2∧0 < fl
     ·obtain ⟨hk2,hfl2⟩:=hno
      repeat' (first | refine gs_ ?_|((conv=>whnf); first | intro b2 | refine bto ?_|refine bfo ?_|refine wr_i ?_|refine br_t (beq_iff_eq.2 hk2) ?_|refine iv_ ?_|refine ui_ ?_|refine fv_ ?_|refine uf_ ?_|refine xc_ (g:=gb) (off:=off+k*4+0) (.i .i64 (ss k).k) (fun w hH=>rng_at (Ek.rd_rng (StR.r (Hold.ob hH (A:=stO (some ⟨gb,off,none⟩) len ss) 0 rfl)) hlt) rfl) ?_|refine xc_ (g:=gb) (off:=off+k*4+3) (.v (.slice (ss k).A (ss k).n (ss k).c)) (fun w hH=>rng_at (Ek.rd_rng (StR.r (Hold.ob hH (A:=stO (some ⟨gb,off,none⟩) len ss) 0 rfl)) hlt) rfl) ?_|refine callN (f:=22) (ι:=Option Addr×Nat) (fun y=>.v (.slice y.1 fl y.2)) (fun _=>noO) (fun w1 hH=>(leftT (StR.d (Hold.ob hH (A:=stO (some ⟨gb,off,none⟩) len ss) 0 rfl) k hlt) (by omega) hWc).mono (by rw [← hfl]; rintro e w' ⟨y,rfl,h2⟩; exact ⟨y,rfl,trivial,h2,fun g hg=>by cases hg⟩)) (fun yl=>?_)|refine callH (f:=18) (.b true) (fun w1 hH=>answersT w1) ?_|refine fin_s ?_))
      all_goals rfl
     have hd0:(ss k).k=2→(frames (ss k).d).2=[]:=fun e=>List.eq_nil_of_length_eq_zero (by have:¬ 0 < fl:=fun h=>hno ⟨e,h⟩; omega)
     obtain ⟨G',O',R',he1⟩:∃ G' O' R',doV c g (ss k).k (ss k).a (ss k).b (ss k).d=(G',O',R'):=⟨_,_,_,rfl⟩
     have hg1:GI c (k+1) (sumT ss k+(ss k).d.length) G':=by have:=hg.do_ (by omega) (k:=(ss k).k) (a:=(ss k).a) (d:=(ss k).d) (by omega) hb64; rwa [he1] at this
     have hxs2:G'.xs=[]:=by have:=do_xs2 (c:=c) (k:=(ss k).k) (a:=(ss k).a) (b:=(ss k).b) hxs hd0; rwa [he1] at this
     have hO:O'.length≤64:=by have:=do_len c g (ss k).k (ss k).a (ss k).b (ss k).d; rwa [he1] at this
     rw [hWl] at hg1
     have hL:=hg1.j.t.l
     have hQ:=hg1.j.t.q
     have hfl0:(ss k).k=2→fl=0:=fun e=>by have:¬ 0 < fl:=fun h=>hno ⟨e,h⟩; omega
     have heS:p.ep≠epochV g.x.2 p.se→doV c g 2 0 0 dd=(g,[],0):=fun hne=>by rw [hdd]; exact do_stale hxs (by rw [hgl]; exact good_no) hm hp0 hne
     conv=>whnf
     refine sgo ⟨tab_ok⟩ ?_
     repeat' ((conv=>whnf); first | refine br_not ?_|refine br_t (decide_eq_true (by omega)) ?_)
     refine sgo ⟨tab_ok⟩ ?_
     conv=>whnf
     refine ctt (c:=.seq (.region 14 _ false) _) (d:=.seq (.seq (.region 16 _ true) _) _) ⟨tab_ok⟩ (ι:=Unit) (fun _=>⟨[(1,.v (.slice (some ⟨gb,off,none⟩) len cap)),(4,.i .u8 at_),(5,.p 0 0),(7,.p 1 0),(11,.v (.slice A9 dd.length c9)),(13,.v (.pointer (some ⟨q1,0,none⟩))),(14,.v (.pointer (some ⟨q2,0,none⟩))),(15,.i .i64 (k:Int))],[⟨bc,23,true,0,[],(sCfg c),[],true⟩,⟨bp,28,true,0,[],[.i .i64 p.se,.i .i64 p.ep,.i .i64 p.sq,.i .i64 p.ak,.b p.has,.i .i64 p.ki,.i .i64 p.a,.i .i64 p.b,.i .i64 p.c],[],true⟩],[stO (some ⟨gb,off,none⟩) len ss,tbO,bvO jA i jd,rwO byteE w.heap.size A9 dd.length c9 dd true,rwO byteE w.heap.size x.1 (bytesOf p).length x.2 (bytesOf p) true,rwO byteE w.heap.size z.1 (frm (bytesOf p)).length z.2 (frm (bytesOf p)) true,gsO q1 c x1 (capJ ss aa k) m1 g true,gsO q2 c x2 (capJ ss aa k) m2 g true]⟩) ?_ ?_
     ·repeat' (first | refine gq_ ?_|((conv=>whnf); first | refine bto ?_|refine bfo ?_|refine wr_i ?_|refine br_eq (fun hk2=>?_) (fun hk2=>?_)|refine iv_ ?_|refine ui_ ?_|refine fv_ ?_|refine uf_ ?_|refine xc_ (g:=gb) (off:=off+k*4+0) (.i .i64 (ss k).k) (fun w hH=>rng_at (Ek.rd_rng (StR.r (Hold.ob hH (A:=stO (some ⟨gb,off,none⟩) len ss) 0 rfl)) hlt) rfl) ?_|refine xc_ (g:=gb) (off:=off+k*4+3) (.v (.slice (ss k).A (ss k).n (ss k).c)) (fun w hH=>rng_at (Ek.rd_rng (StR.r (Hold.ob hH (A:=stO (some ⟨gb,off,none⟩) len ss) 0 rfl)) hlt) rfl) ?_|refine callN (f:=22) (ι:=Option Addr×Nat) (fun y=>.v (.slice y.1 fl y.2)) (fun _=>noO) (fun w1 hH=>(leftT (StR.d (Hold.ob hH (A:=stO (some ⟨gb,off,none⟩) len ss) 0 rfl) k hlt) (by omega) hWc).mono (by rw [← hfl]; rintro e w' ⟨y,rfl,h2⟩; exact ⟨y,rfl,trivial,h2,fun g hg=>by cases hg⟩)) (fun yl=>?_)|refine En.meet () (wkd ?_)|refine fin_s ?_))
      all_goals (repeat' (first | exact trivial | rfl | ((conv=>whnf); refine And.intro ?_ ?_)))
     intro _
     conv=>whnf
     refine ctt (c:=.seq (.region 16 _ true) _) (d:=.seq (.region 20 _ false) _) ⟨tab_ok⟩ (ι:={v:Gm×Nat // v.2+(ss k).n≤capJ ss aa (k+1)∧sumT ss k≤v.2}) (fun v=>match v with | ⟨(m,B),_⟩=>⟨[(1,.v (.slice (some ⟨gb,off,none⟩) len cap)),(4,.i .u8 at_),(5,.p 0 0),(7,.p 1 0),(11,.v (.slice A9 dd.length c9)),(13,.v (.pointer (some ⟨q1,0,none⟩))),(14,.v (.pointer (some ⟨q2,0,none⟩))),(15,.i .i64 (k:Int))],[⟨bc,23,true,0,[],(sCfg c),[],true⟩,⟨bp,28,true,0,[],[.i .i64 p.se,.i .i64 p.ep,.i .i64 p.sq,.i .i64 p.ak,.b p.has,.i .i64 p.ki,.i .i64 p.a,.i .i64 p.b,.i .i64 p.c],[],true⟩],[stO (some ⟨gb,off,none⟩) len ss,tbO,bvO jA i jd,rwO byteE w.heap.size A9 dd.length c9 dd true,rwO byteE w.heap.size x.1 (bytesOf p).length x.2 (bytesOf p) true,rwO byteE w.heap.size z.1 (frm (bytesOf p)).length z.2 (frm (bytesOf p)) true,gsO q1 c x1 B m g true,gsO q2 c x2 (capJ ss aa k) m2 g true]⟩) ?_ ?_
     ·repeat' (first | refine gs_ ?_|((conv=>whnf); first | refine bto ?_|refine bfo ?_|refine wr_i ?_|refine cd (by omega) ?_|refine br_eq (fun hka=>?_) (fun hka=>?_)|refine br_ne (fun hne=>?_) (fun hne=>?_)|refine iv_ ?_|refine ui_ ?_|refine fv_ ?_|refine uf_ ?_|refine callH (f:=23) (.i .i64 (epochV g.x.2 p.se)) (fun w1 hH=>epochS (i:=p.se) (Hold.ob hH (A:=gsO q1 c x1 (capJ ss aa k) m1 g true) 6 rfl) hpw) ?_|refine doX 6 1 dd (capJ ss aa k+dd.length) (heS (by assumption)) hgB (by omega) (by omega) (Nat.le_refl _) (by decide) (fun w1 hH=>⟨Byt.BV.of_own (byte_own.1 (Hold.ob hH (A:=rwO byteE w.heap.size A9 dd.length c9 dd true) 3 rfl)) hddB,fun g hg hm=>(pair_at (R:=DisR) (fun _ _ h=>h.symm) hH.dis (i:=6) (j:=3) rfl rfl (by decide) (.inl rfl)) g hm (rdF_blk g hg)⟩) rfl rfl rfl rfl rfl (by decide) (fun us=>?_)|refine En.meet ⟨(us.1.1,capJ ss aa k+dd.length),by show capJ ss aa k+dd.length+(ss k).n≤_; omega,by show _≤capJ ss aa k+dd.length; omega⟩ (wkd ?_)|refine En.meet ⟨(m1,capJ ss aa k),hc3,hc1⟩ (wkd ?_)|refine fin_s ?_))
      all_goals (repeat' (first | exact trivial | rfl | ((conv=>whnf); refine And.intro ?_ ?_)))
     rintro ⟨⟨m,B⟩,hB1,hB2⟩
     have hB1:B+(ss k).n≤capJ ss aa (k+1):=hB1
     have hB2:sumT ss k≤B:=hB2
     have hgB2:GI c k B g:=hg.more (Nat.le_refl _) hB2
     repeat' (first | refine gs_ ?_|((conv=>whnf); first | refine bto ?_|refine bfo ?_|refine wr_i ?_|refine br_f (bne_refl _) ?_|refine iv_ ?_|refine ui_ ?_|refine fv_ ?_|refine uf_ ?_|refine opix (g:=gb) (off:=off+k*4) [.i .i64 (ss k).k,.i .i64 (ss k).a,.i .i64 (ss k).b,.v (.slice (ss k).A (ss k).n (ss k).c)] (fun w hH=>Ek.rd_rng (StR.r (Hold.ob hH (A:=stO (some ⟨gb,off,none⟩) len ss) 0 rfl)) hlt) ⟨tab_ok⟩ (by rfl) (by rfl) (by first | (simp only [Go.WideShapes.add_plain]; done)|(simp only [Go.WideShapes.add_plain]; rfl)) ?_|refine doX 6 1 (ss k).d (capJ ss aa (k+1)) he1 hgB2 (by omega) (by omega) (by omega) hW.k (fun w hH=>hz_st hH (i:=0) (j:=6) rfl rfl (by decide) hlt) rfl rfl rfl rfl rfl (by decide) (fun u1=>?_)|refine doX 7 1 (ss k).d (capJ ss aa (k+1)) he1 hgB (by omega) (by omega) (by omega) hW.k (fun w hH=>hz_st hH (i:=0) (j:=7) rfl rfl (by decide) hlt) rfl rfl rfl rfl rfl (by decide) (fun u2=>?_)|refine callH (f:=25) (.b true) (fun w hH=>sameT (Hold.ob hH (A:=osO u1.1.2.1 u1.1.2.2.1 u1.1.2.2.2) 8 rfl) (Hold.ob hH (A:=osO u2.1.2.1 u2.1.2.2.1 u2.1.2.2.2) 9 rfl) (u1.2.1.trans u2.2.1.symm) (outs_len u1.2.1) (outs_len u2.2.1) (by omega)) ?_|refine callH (f:=27) (.v (.pointer (some ⟨x1.q,0,none⟩))) (fun w1 hH=>coreS (Hold.ob hH (A:=gsO q1 c x1 (capJ ss aa (k+1)) u1.1.1 G' true) 6 rfl)) ?_|refine callN (f:=28) (ι:=NrP w.heap.size G'.x.1.L.length) (fun x=>.v (.slice x.1.2.1 G'.x.1.L.length x.1.2.2)) (fun x=>rwO leaE x.1.1 x.1.2.1 G'.x.1.L.length x.1.2.2 G'.x.1.L true) (fun w1 hH=>toNp (leasesS (Hold.ob hH (A:=gsO q1 c x1 (capJ ss aa (k+1)) u1.1.1 G' true) 6 rfl) (by omega)) hH.upd.size) (fun ul6=>?_)|refine callN (f:=30) (ι:=NrP w.heap.size G'.x.1.Q.length) (fun x=>.v (.slice x.1.2.1 G'.x.1.Q.length x.1.2.2)) (fun x=>rwO askE x.1.1 x.1.2.1 G'.x.1.Q.length x.1.2.2 G'.x.1.Q true) (fun w1 hH=>toNp (queueS (Hold.ob hH (A:=gsO q1 c x1 (capJ ss aa (k+1)) u1.1.1 G' true) 6 rfl) (by omega)) hH.upd.size) (fun uq6=>?_)|refine callH (f:=27) (.v (.pointer (some ⟨x2.q,0,none⟩))) (fun w1 hH=>coreS (Hold.ob hH (A:=gsO q2 c x2 (capJ ss aa (k+1)) u2.1.1 G' true) 7 rfl)) ?_|refine callN (f:=28) (ι:=NrP w.heap.size G'.x.1.L.length) (fun x=>.v (.slice x.1.2.1 G'.x.1.L.length x.1.2.2)) (fun x=>rwO leaE x.1.1 x.1.2.1 G'.x.1.L.length x.1.2.2 G'.x.1.L true) (fun w1 hH=>toNp (leasesS (Hold.ob hH (A:=gsO q2 c x2 (capJ ss aa (k+1)) u2.1.1 G' true) 7 rfl) (by omega)) hH.upd.size) (fun ul7=>?_)|refine callN (f:=30) (ι:=NrP w.heap.size G'.x.1.Q.length) (fun x=>.v (.slice x.1.2.1 G'.x.1.Q.length x.1.2.2)) (fun x=>rwO askE x.1.1 x.1.2.1 G'.x.1.Q.length x.1.2.2 G'.x.1.Q true) (fun w1 hH=>toNp (queueS (Hold.ob hH (A:=gsO q2 c x2 (capJ ss aa (k+1)) u2.1.1 G' true) 7 rfl) (by omega)) hH.upd.size) (fun uq7=>?_)|refine callH (f:=26) (.b true) (fun w hH=>Lc.sameL (by omega) (Hold.ob hH (A:=rwO leaE ul6.1.1 ul6.1.2.1 G'.x.1.L.length ul6.1.2.2 G'.x.1.L true) 10 rfl) (Hold.ob hH (A:=rwO leaE ul7.1.1 ul7.1.2.1 G'.x.1.L.length ul7.1.2.2 G'.x.1.L true) 11 rfl)) ?_|refine callH (f:=29) (.b true) (fun w hH=>Lc.sameA (by omega) (Hold.ob hH (A:=rwO askE uq6.1.1 uq6.1.2.1 G'.x.1.Q.length uq6.1.2.2 G'.x.1.Q true) 12 rfl) (Hold.ob hH (A:=rwO askE uq7.1.1 uq7.1.2.1 G'.x.1.Q.length uq7.1.2.2 G'.x.1.Q true) 13 rfl)) ?_|refine En.back ⟨((k+1,u1.1.1,u2.1.1),G'),by show k+1≤len; omega,hg1,hxs2⟩ (wkd ?_) ?_|refine fin_s ?_))
     all_goals first | (show len - (k+1) < len - k; omega)|skip
     all_goals (repeat' (first | exact trivial | rfl | ((conv=>whnf); refine And.intro ?_ ?_)))
    ·repeat' (first | refine gs_ ?_|((conv=>whnf); first | intro b | refine bto ?_|refine bfo ?_|refine callH (f:=18) (.b true) (fun w1 hH=>answersT w1) ?_|refine fin_s ?_))
     all_goals rfl
theorem staleL {H:Type} {enc:TypeId×Value→H} {x:DataW H×List MemPlace} (c:CfgV) (p:PktV) (hpw:(Lit.int .i64 p.se).wf=true) (at_:Int) (hat:(Lit.int .u8 at_).wf=true) {jA:Option Addr} {jn jc:Nat} {jd:List Int} {a:Option Addr} {len cap:Nat} {w:World} (hj:BV w jA jn jd) (ht:Lib.TabIs Tryz.prog w "internal/strconv.uint64pow10" .u64 Lib.pow10Tab) (hx:∃ m,DataW.trod enc Tryz.prog w 0 (fun _=>true) true m 24 (Value.cells (.slice a len cap)).toList=some x) (hU:∀ u∈x.1.weights Tryz.prog 24,u≤reachBytes):Calls Tryz.prog 3 #[(aCfg c),.slice a len cap,.agg (pktC p),.slice jA jn jc,.int .u8 at_] w fun e w'=>e=.returned (.bool true)∧Since w w':=by
 obtain ⟨ss,h1,h2,h3⟩:=steps_in hx hU
 exact staleF c p hpw at_ (u8_of hat) h1 hj h2 h3 ht
end Gw
end Go.Proofs.YtepfmfalebmcnaaGreatDoor
