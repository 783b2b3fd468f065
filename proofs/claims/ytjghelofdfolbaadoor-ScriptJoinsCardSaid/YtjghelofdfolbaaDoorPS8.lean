/-
  Wanted: part 8.
  No condition.
-/
import Derived.Test.YtjghelofdfolbaaDoorPS7
import Derived.WalkKit
import Derived.ProofKit
import Derived.OpenShut
set_option linter.all false
namespace Go.Proofs.YtjghelofdfolbaaDoor
namespace Sp
open Go.RowKit Ba Mem En Go.Proofs.YtjghelofdfolbaaDoor.Ty Gw
open Byt (BV isB)
open Co (Hold.ob)
open Sx Sw
set_option maxRecDepth 100000
attribute [local irreducible] Go.Calls printL stL litB hexI bsI
set_option maxHeartbeats 8000000 in
theorem joinsF {a b:Option Addr} {la lb ca cb:Nat} {sa sb:Nat→StepD} (s:List UInt8) (hsl:s.length≤9223372036854775807) {w:World} (hg:GkS w) (h1:StR a la sa w) (h2:StR b lb sb w) (w1:∀ i,i < la→StepW (sa i)) (w2:∀ i,i < lb→StepW (sb i)) (hla:la≤9223372036854775807) (hlb:lb≤9223372036854775807):Calls Tryd.prog 6 #[.slice a la ca,.slice b lb cb,.string ⟨s.toArray⟩] w fun e w'=>e=.returned (.bool true)∧Since w w':=by
 cases ba:litB sa la with
 | false =>
  refine entH tab_ok (hold_jn hg h1 h2) [.v (.slice a la ca),.v (.slice b lb cb),tx s] Tryd.func6 Tryd.ntmps6 rfl rfl ?_
  repeat' ((conv=>whnf); first | refine sgo ⟨tab_ok⟩ ?_|refine br_not ?_|refine br_t rfl ?_|refine br_f rfl ?_|refine br_t (by assumption) ?_|refine br_f (by assumption) ?_|refine br_t (decide_eq_true (by assumption)) ?_|refine br_f (decide_eq_false (by assumption)) ?_|refine br_t (beq_iff_eq.2 (by assumption)) ?_|refine br_f (beq_eq_false_iff_ne.2 (by assumption)) ?_|refine drA ⟨tab_ok⟩ [] ?_|refine kpt ?_|refine br_t (decide_eq_true (by omega)) ?_|refine br_f (decide_eq_false (by omega)) ?_|refine callH (f:=7) (.b false) (fun w1 hH=>by have:=light24 (cap:=ca) (Hold.ob hH (A:=stO a la sa) 1 rfl) hla; rw [ba] at this; exact this) ?_|refine callH (f:=8) (.b true) (fun w1 hH=>ans24 (Hold.ob hH (A:=gkO) 0 rfl)) ?_|refine fin_s ?_|refine fin_r ?_ ?_|refine fin_e ?_ ?_)
  all_goals rfl
 | true =>
 cases bb:litB sb lb with
 | false =>
  refine entH tab_ok (hold_jn hg h1 h2) [.v (.slice a la ca),.v (.slice b lb cb),tx s] Tryd.func6 Tryd.ntmps6 rfl rfl ?_
  repeat' ((conv=>whnf); first | refine sgo ⟨tab_ok⟩ ?_|refine br_not ?_|refine br_t rfl ?_|refine br_f rfl ?_|refine br_t (by assumption) ?_|refine br_f (by assumption) ?_|refine br_t (decide_eq_true (by assumption)) ?_|refine br_f (decide_eq_false (by assumption)) ?_|refine br_t (beq_iff_eq.2 (by assumption)) ?_|refine br_f (beq_eq_false_iff_ne.2 (by assumption)) ?_|refine drA ⟨tab_ok⟩ [] ?_|refine kpt ?_|refine br_t (decide_eq_true (by omega)) ?_|refine br_f (decide_eq_false (by omega)) ?_|refine callH (f:=7) (.b true) (fun w1 hH=>by have:=light24 (cap:=ca) (Hold.ob hH (A:=stO a la sa) 1 rfl) hla; rw [ba] at this; exact this) ?_|refine callH (f:=7) (.b false) (fun w1 hH=>by have:=light24 (cap:=cb) (Hold.ob hH (A:=stO b lb sb) 2 rfl) hlb; rw [bb] at this; exact this) ?_|refine callH (f:=8) (.b true) (fun w1 hH=>ans24 (Hold.ob hH (A:=gkO) 0 rfl)) ?_|refine fin_s ?_|refine fin_r ?_ ?_|refine fin_e ?_ ?_)
  all_goals rfl
 | true =>
 by_cases hs:s.length≤1000
 ·obtain ⟨a3,a4⟩:=lit_of ba w1
  obtain ⟨b3,b4⟩:=lit_of bb w2
  have na:∀ i,i < la→(sa i).n≤20000:=fun i hi=>by have:=sumT_at (ss:=sa) hi; omega
  have nb:∀ i,i < lb→(sb i).n≤20000:=fun i hi=>by have:=sumT_at (ss:=sb) hi; omega
  have LA:=print_le h1 w1 la (Nat.le_refl _)
  have LB:=print_le h2 w2 lb (Nat.le_refl _)
  have hrd:=text_two h1 h2 w1 w2
  have hmid:=fun (hno:∀ c∈s,c≠10) (hl:lineV s=none)=>text_mid (lb:=lb) (sb:=sb) h1 w1 hno hl
  have hpa:=fun (w:World) (hg:GkS w) (h:StR a la sa w)=>printP_ (c:=ca) hg h (fun i hi=>⟨w_64 (w1 i hi).k,w_64 (w1 i hi).a,w_64 (w1 i hi).b,by have:=na i hi; omega⟩) (fun i hi=>by have:=na i hi; omega) (by omega) (by omega)
  have hpb:=fun (w:World) (hg:GkS w) (h:StR b lb sb w)=>printP_ (c:=cb) hg h (fun i hi=>⟨w_64 (w2 i hi).k,w_64 (w2 i hi).a,w_64 (w2 i hi).b,by have:=nb i hi; omega⟩) (fun i hi=>by have:=nb i hi; omega) (by omega) (by omega)
  obtain ⟨ta,eta⟩:∃ t,printL (stL la sa)=t:=⟨_,rfl⟩
  obtain ⟨tb,etb⟩:∃ t,printL (stL lb sb)=t:=⟨_,rfl⟩
  rw [eta] at LA hrd hmid hpa
  rw [etb] at LB hrd hmid hpb
  have hjl:((stL la sa++stL lb sb).map spD).length=la+lb:=by rw [List.length_map,List.length_append,stL_len,stL_len]
  have hjl2:(stL la sa++stL lb sb).length=la+lb:=by rw [List.length_append,stL_len,stL_len]
  have hq:=fun (w:World) (hg:GkS w)=>(parseP (ta++tb) (by rw [List.length_append]; omega) hg).mono fun e w' h=>rd_st h
  rw [hrd] at hq
  simp only [hjl] at hq
  have hbad:=fun (hno:∀ c∈s,c≠10) (hl:lineV s=none) (w:World) (hg:GkS w)=>(parseP (ta++s++[10]++tb) (by simp only [List.length_append,List.length_cons,List.length_nil]; omega) hg).mono fun e w' h=>rd_bad (hmid hno hl) h
  have hsame:∀ (y:List StepD×Option Addr×Nat) (A3:Option Addr) (c3:Nat) (w1:World),RdA w.heap.size ((stL la sa++stL lb sb).map spD) y.1 y.2.1 w1→stepE.At w.heap.size A3 (la+lb) c3 (stL la sa++stL lb sb) w1→StR a la sa w1→StR b lb sb w1→Calls Tryd.prog 12 #[.slice y.2.1 (la+lb) y.2.2,.slice A3 (la+lb) c3] w1 fun e w'=>e=.returned (.bool true)∧Since w1 w':=fun y A3 c3 w1 hr hA hs1 hs2=>by
   have e1:=hr.s
   rw [hjl] at e1
   have e2:=st_join (by rw [hjl2]; exact hA) hs1 hs2
   rw [hjl2] at e2
   have ha:=alike_gen hr.z hr.e (fun p hp=>by
    rcases List.mem_append.1 hp with hp | hp
    ·exact st_b hs1 p hp
    ·exact st_b hs2 p hp)
   have hol:y.1.length=la+lb:=by rw [← hjl,← hr.e,List.length_map]
   rw [hol] at ha
   exact same24 e1 e2 ha (by omega)
  refine entH tab_ok (hold_jn hg h1 h2) [.v (.slice a la ca),.v (.slice b lb cb),tx s] Tryd.func6 Tryd.ntmps6 rfl rfl ?_
  repeat' ((conv=>whnf); first | refine sgo ⟨tab_ok⟩ ?_|refine br_not ?_|refine br_t rfl ?_|refine br_f rfl ?_|refine br_t (by assumption) ?_|refine br_f (by assumption) ?_|refine br_t (decide_eq_true (by assumption)) ?_|refine br_f (decide_eq_false (by assumption)) ?_|refine br_t (beq_iff_eq.2 (by assumption)) ?_|refine br_f (beq_eq_false_iff_ne.2 (by assumption)) ?_|refine drA ⟨tab_ok⟩ [] ?_|refine kpt ?_|refine br_t (decide_eq_true (by omega)) ?_|refine br_f (decide_eq_false (by omega)) ?_|refine br_f (by rfl) ?_|refine br_t (beq_self_eq_true _) ?_|refine br_f (bne_refl _) ?_|refine opP (pvLen (xs:=s) (by rfl) (by rfl) Tryd.underlying9) ?_|refine callH (f:=7) (.b true) (fun w1 hH=>by have:=light24 (cap:=ca) (Hold.ob hH (A:=stO a la sa) 1 rfl) hla; rw [ba] at this; exact this) ?_|refine callH (f:=7) (.b true) (fun w1 hH=>by have:=light24 (cap:=cb) (Hold.ob hH (A:=stO b lb sb) 2 rfl) hlb; rw [bb] at this; exact this) ?_|refine callH (f:=9) (tx ta) (fun w1 hH=>hpa w1 (Hold.ob hH (A:=gkO) 0 rfl) (Hold.ob hH (A:=stO a la sa) 1 rfl)) ?_|refine callH (f:=9) (tx tb) (fun w1 hH=>hpb w1 (Hold.ob hH (A:=gkO) 0 rfl) (Hold.ob hH (A:=stO b lb sb) 2 rfl)) ?_|refine opP (pvCat (xs:=ta) (ys:=tb) (by rfl) (by rfl) (by rfl) ⟨by omega,by omega⟩) ?_|refine callN (f:=10) (ι:=List StepD×Option Addr×Nat) (fun y=>.t [.v (.slice y.2.1 (la+lb) y.2.2),.i .i64 0,.i .i64 0]) (fun y=>raO w.heap.size ((stL la sa++stL lb sb).map spD) y.1 y.2.1) (fun w1 hH=>(hq w1 (Hold.ob hH (A:=gkO) 0 rfl)).mono (by rintro e w' ⟨os,z,rfl,h1,h2⟩; exact ⟨(os,z),rfl,⟨h1.e,h1.z,h1.s,fun g hg=>Nat.le_trans hH.upd.size (h1.f g hg)⟩,h2,h1.f⟩)) (fun y=>?_)|refine opb0 stepE (by rfl) Tryd.underlying22 (by kernel_rfl) (fun ge=>?_)|refine opapo 4 1 (A:=rwO stepE w.heap.size (some ⟨ge,0,none⟩) 0 0 [] true) (C:=stO a la sa) (e:=40) (lo:=w.heap.size) (size:=4) (bytes:=48) (z:=.agg #[.int .i64 0,.int .i64 0,.int .i64 0,.slice none 0 0]) (vals:=rowsOf stepE.c ([])) (cells:=rowsOf stepE.c (stL la sa)) (zs:=rowsOf stepE.c (stL la sa)) (n2:=la) (fun A2 c2=>rwO stepE w.heap.size A2 (la) c2 (stL la sa) true) (by rfl) (by rfl) (by rfl) (by rfl) rfl rfl (fun w h=>h) (fun A' c' w h=>h) (fun _ _=>rfl) (by rfl) (fun w1 h=>st_reads h) Tryd.underlying22 (by kernel_rfl) rfl (by decide) (by decide) (rowsOf_one' (fun x u hu=>stepE.one x u hu) _) (by omega) (fun w hH=>hH.upd.size) (by omega) (by first | (rw [← rowsOf_append]; done)|(rw [← rowsOf_append]; rfl)) (fun A2 c2=>?_)|refine opapo 4 2 (A:=rwO stepE w.heap.size A2 la c2 (stL la sa) true) (C:=stO b lb sb) (e:=40) (lo:=w.heap.size) (size:=4) (bytes:=48) (z:=.agg #[.int .i64 0,.int .i64 0,.int .i64 0,.slice none 0 0]) (vals:=rowsOf stepE.c (stL la sa)) (cells:=rowsOf stepE.c (stL lb sb)) (zs:=rowsOf stepE.c (stL la sa++stL lb sb)) (n2:=la+lb) (fun A2 c2=>rwO stepE w.heap.size A2 (la+lb) c2 (stL la sa++stL lb sb) true) (by rfl) (by rfl) (by rfl) (by rfl) rfl rfl (fun w h=>h) (fun A' c' w h=>h) (fun _ _=>rfl) (by rfl) (fun w1 h=>st_reads h) Tryd.underlying22 (by kernel_rfl) rfl (by decide) (by decide) (rowsOf_one' (fun x u hu=>stepE.one x u hu) _) (by omega) (fun w hH=>hH.upd.size) (by omega) (by first | (rw [← rowsOf_append]; done)|(rw [← rowsOf_append]; rfl)) (fun A3 c3=>?_)|refine callH (f:=12) (.b true) (fun w1 hH=>hsame y A3 c3 w1 (Hold.ob hH (A:=raO w.heap.size ((stL la sa++stL lb sb).map spD) y.1 y.2.1) 3 rfl) (Hold.ob hH (A:=rwO stepE w.heap.size A3 (la+lb) c3 (stL la sa++stL lb sb) true) 4 rfl) (Hold.ob hH (A:=stO a la sa) 1 rfl) (Hold.ob hH (A:=stO b lb sb) 2 rfl)) ?_|refine opcb (bs:=s) (by rfl) (by rfl) Tryd.underlying9 Tryd.underlying38 Tryd.underlying5 (fun gx cx=>?_)|refine callH (f:=18) (tx (hexI (bsI s))) (fun w1 hH=>hexP (str_bv (Hold.ob hH (A:=strO gx s) 5 rfl) hsl) (by omega)) ?_|refine callH (f:=19) (tx (hexI (bsI s))) (fun w1 hH=>hexR (str_bv (Hold.ob hH (A:=strO gx s) 6 rfl) hsl) (by omega)) ?_|refine fin_s ?_|refine fin_r ?_ ?_|refine fin_e ?_ ?_)
  conv=>whnf
  refine lp ⟨tab_ok⟩ (ι:={i:Nat // i≤s.length∧∀ c∈s.take i,c≠10}) (fun x=>match x with | ⟨i,_⟩=>⟨[(0,.v (.slice a la ca)),(1,.v (.slice b lb cb)),(2,tx s),(10,.i .i64 (i:Int))],[],[gkO,stO a la sa,stO b lb sb]⟩) (fun x=>s.length - x.1) ⟨0,Nat.zero_le _,by intro c hc; simp at hc⟩ (wkd ?_) ?_
  ·repeat' (first | exact trivial | rfl | ((conv=>whnf); refine And.intro ?_ ?_))
  rintro ⟨i,hi,hno⟩
  by_cases hlt:i < s.length
  ·obtain ⟨c,hc⟩:∃ c,s[i]?=some c:=⟨_,List.getElem?_eq_getElem hlt⟩
   by_cases h10:c=10
   ·subst h10
    repeat' ((conv=>whnf); first | refine sgo ⟨tab_ok⟩ ?_|refine br_not ?_|refine br_t rfl ?_|refine br_f rfl ?_|refine br_t (by assumption) ?_|refine br_f (by assumption) ?_|refine br_t (decide_eq_true (by assumption)) ?_|refine br_f (decide_eq_false (by assumption)) ?_|refine br_t (beq_iff_eq.2 (by assumption)) ?_|refine br_f (beq_eq_false_iff_ne.2 (by assumption)) ?_|refine drA ⟨tab_ok⟩ [] ?_|refine kpt ?_|refine br_t (decide_eq_true (by omega)) ?_|refine br_f (decide_eq_false (by omega)) ?_|refine wr_i ?_|refine br_t (by rfl) ?_|refine opP (pvLen (xs:=s) (by rfl) (by rfl) Tryd.underlying9) ?_|refine opP (pvIdx (xs:=s) (j:=i) (by rfl) (by rfl) (by rfl) rfl hc Tryd.underlying9) ?_|refine callH (f:=8) (.b true) (fun w1 hH=>ans24 (Hold.ob hH (A:=gkO) 0 rfl)) ?_|refine fin_s ?_|refine fin_r ?_ ?_|refine fin_e ?_ ?_)
    all_goals rfl
   ·have hne:((c.toNat:Int) == 10)=false:=beq_eq_false_iff_ne.2 (fun h=>h10 (UInt8.toNat_inj.1 (by show c.toNat=10; omega)))
    have hnx:∀ x∈s.take (i+1),x≠10:=fun x hx=>by
     rw [List.take_add_one,hc] at hx
     rcases List.mem_append.1 hx with hx | hx
     ·exact hno x hx
     ·have:x=c:=by simpa using hx
      rw [this]; exact h10
    repeat' ((conv=>whnf); first | refine sgo ⟨tab_ok⟩ ?_|refine br_not ?_|refine br_t rfl ?_|refine br_f rfl ?_|refine br_t (by assumption) ?_|refine br_f (by assumption) ?_|refine br_t (decide_eq_true (by assumption)) ?_|refine br_f (decide_eq_false (by assumption)) ?_|refine br_t (beq_iff_eq.2 (by assumption)) ?_|refine br_f (beq_eq_false_iff_ne.2 (by assumption)) ?_|refine drA ⟨tab_ok⟩ [] ?_|refine kpt ?_|refine br_t (decide_eq_true (by omega)) ?_|refine br_f (decide_eq_false (by omega)) ?_|refine wr_i ?_|refine br_f hne ?_|refine opP (pvLen (xs:=s) (by rfl) (by rfl) Tryd.underlying9) ?_|refine opP (pvIdx (xs:=s) (j:=i) (by rfl) (by rfl) (by rfl) rfl hc Tryd.underlying9) ?_|refine En.back ⟨i+1,by omega,hnx⟩ (wkd ?_) ?_|refine fin_s ?_|refine fin_r ?_ ?_|refine fin_e ?_ ?_)
    all_goals first | (show s.length - (i+1) < s.length - i; omega)|skip
    all_goals (repeat' (first | exact trivial | rfl | ((conv=>whnf); refine And.intro ?_ ?_)))
  ·have hno2:∀ c∈s,c≠10:=fun c hc=>hno c (by rw [List.take_of_length_le (by omega)]; exact hc)
   have hrl:=fun (w:World)=>rlR s (by omega) w
   cases hl:lineV s with
   | some x =>
    rw [hl] at hrl
    repeat' ((conv=>whnf); first | refine sgo ⟨tab_ok⟩ ?_|refine br_not ?_|refine br_t rfl ?_|refine br_f rfl ?_|refine br_t (by assumption) ?_|refine br_f (by assumption) ?_|refine br_t (decide_eq_true (by assumption)) ?_|refine br_f (decide_eq_false (by assumption)) ?_|refine br_t (beq_iff_eq.2 (by assumption)) ?_|refine br_f (beq_eq_false_iff_ne.2 (by assumption)) ?_|intro b11 | refine drA ⟨tab_ok⟩ [] ?_|refine kpt ?_|refine br_t (decide_eq_true (by omega)) ?_|refine br_f (decide_eq_false (by omega)) ?_|refine opP (pvLen (xs:=s) (by rfl) (by rfl) Tryd.underlying9) ?_|refine callN (f:=20) (ι:=Option Addr×Nat) (fun z=>.t [.a [.i .i64 x.k,.i .i64 x.a,.i .i64 x.b,.v (.slice z.1 (zsN x.d).length z.2)],.b true]) (fun _=>nilO) (fun w1 hH=>(hrl w1).mono (by rintro e w' ⟨z,rfl,_,h⟩; exact ⟨z,rfl,trivial,h,by intro g hg; cases hg⟩)) (fun z=>?_)|refine callH (f:=8) (.b true) (fun w1 hH=>ans24 (Hold.ob hH (A:=gkO) 0 rfl)) ?_|refine fin_s ?_|refine fin_r ?_ ?_|refine fin_e ?_ ?_)
    all_goals rfl
   | none =>
    rw [hl] at hrl
    have hb:=hbad hno2 hl
    have hla1:IntKind.i64.wrap ((la:Int)+1)=((la+1:Nat):Int):=by rw [show (la:Int)+1=((la+1:Nat):Int) by omega]; exact wr64 _ (by omega) (by omega)
    repeat' ((conv=>whnf); first | refine sgo ⟨tab_ok⟩ ?_|refine br_not ?_|refine br_t rfl ?_|refine br_f rfl ?_|refine br_t (by assumption) ?_|refine br_f (by assumption) ?_|refine br_t (decide_eq_true (by assumption)) ?_|refine br_f (decide_eq_false (by assumption)) ?_|refine br_t (beq_iff_eq.2 (by assumption)) ?_|refine br_f (beq_eq_false_iff_ne.2 (by assumption)) ?_|intro b11 | refine drA ⟨tab_ok⟩ [] ?_|refine kpt ?_|refine br_t (decide_eq_true (by omega)) ?_|refine br_f (decide_eq_false (by omega)) ?_|refine wr hla1 ?_|refine br_t (by rfl) ?_|refine br_t (beq_self_eq_true _) ?_|refine opP (pvLen (xs:=s) (by rfl) (by rfl) Tryd.underlying9) ?_|refine callN (f:=20) (ι:=Option Addr×Nat) (fun z=>.t [.a [.i .i64 0,.i .i64 0,.i .i64 0,.v (.slice z.1 0 z.2)],.b false]) (fun _=>nilO) (fun w1 hH=>(hrl w1).mono (by rintro e w' ⟨z,he,_,h⟩; refine ⟨z, ?_,trivial,h,by intro g hg; cases hg⟩; rw [he]; show Ending.returned (.tuple #[.agg #[_,_,_,.slice z.1 (zsN []).length z.2],_])=_; rw [zsN_len]; rfl)) (fun z=>?_)|refine callH (f:=9) (tx ta) (fun w1 hH=>hpa w1 (Hold.ob hH (A:=gkO) 0 rfl) (Hold.ob hH (A:=stO a la sa) 1 rfl)) ?_|refine callH (f:=9) (tx tb) (fun w1 hH=>hpb w1 (Hold.ob hH (A:=gkO) 0 rfl) (Hold.ob hH (A:=stO b lb sb) 2 rfl)) ?_|refine opP (pvCat (xs:=ta) (ys:=s) (by rfl) (by rfl) (by rfl) ⟨by omega,by omega⟩) ?_|refine opP (pvCat (xs:=ta++s) (ys:=[10]) (by rfl) (by rfl) (by rfl) ⟨by rw [List.length_append]; omega,by show 0+1≤8388608; omega⟩) ?_|refine opP (pvCat (xs:=ta++s++[10]) (ys:=tb) (by rfl) (by rfl) (by rfl) ⟨by simp only [List.length_append,List.length_cons,List.length_nil]; omega,by omega⟩) ?_|refine callN (f:=10) (ι:=Option Addr×Nat) (fun z=>.t [.v (.slice z.1 0 z.2),.i .i64 ((la+1:Nat):Int),.i .i64 8]) (fun _=>nilO) (fun w1 hH=>(hb w1 (Hold.ob hH (A:=gkO) 0 rfl)).mono (by rintro e w' ⟨z,rfl,h⟩; exact ⟨z,rfl,trivial,h,by intro g hg; cases hg⟩)) (fun z2=>?_)|refine callH (f:=8) (.b true) (fun w1 hH=>ans24 (Hold.ob hH (A:=gkO) 0 rfl)) ?_|refine fin_s ?_|refine fin_r ?_ ?_|refine fin_e ?_ ?_)
    all_goals rfl
 ·refine entH tab_ok (hold_jn hg h1 h2) [.v (.slice a la ca),.v (.slice b lb cb),tx s] Tryd.func6 Tryd.ntmps6 rfl rfl ?_
  repeat' ((conv=>whnf); first | refine sgo ⟨tab_ok⟩ ?_|refine br_not ?_|refine br_t rfl ?_|refine br_f rfl ?_|refine br_t (by assumption) ?_|refine br_f (by assumption) ?_|refine br_t (decide_eq_true (by assumption)) ?_|refine br_f (decide_eq_false (by assumption)) ?_|refine br_t (beq_iff_eq.2 (by assumption)) ?_|refine br_f (beq_eq_false_iff_ne.2 (by assumption)) ?_|refine drA ⟨tab_ok⟩ [] ?_|refine kpt ?_|refine br_t (decide_eq_true (by omega)) ?_|refine br_f (decide_eq_false (by omega)) ?_|refine opP (pvLen (xs:=s) (by rfl) (by rfl) Tryd.underlying9) ?_|refine callH (f:=7) (.b true) (fun w1 hH=>by have:=light24 (cap:=ca) (Hold.ob hH (A:=stO a la sa) 1 rfl) hla; rw [ba] at this; exact this) ?_|refine callH (f:=7) (.b true) (fun w1 hH=>by have:=light24 (cap:=cb) (Hold.ob hH (A:=stO b lb sb) 2 rfl) hlb; rw [bb] at this; exact this) ?_|refine callH (f:=8) (.b true) (fun w1 hH=>ans24 (Hold.ob hH (A:=gkO) 0 rfl)) ?_|refine fin_s ?_|refine fin_r ?_ ?_|refine fin_e ?_ ?_)
  all_goals rfl
theorem joinsL {H:Type} {enc:TypeId×Value→H} {x y:DataW H×List MemPlace} {a b:Option Addr} {la lb ca cb:Nat} (u:ByteArray) (hu:u.size≤140737488351232) {w:World} (hg:GkS w) (hx:∃ m,DataW.trod enc Tryd.prog w 0 (fun _=>true) true m 22 (Value.cells (.slice a la ca)).toList=some x) (hU:∀ u∈x.1.weights Tryd.prog 22,u≤reachBytes) (hy:∃ m,DataW.trod enc Tryd.prog w 0 (fun _=>true) true m 22 (Value.cells (.slice b lb cb)).toList=some y) (hV:∀ u∈y.1.weights Tryd.prog 22,u≤reachBytes):Calls Tryd.prog 6 #[.slice a la ca,.slice b lb cb,.string u] w fun e w'=>e=.returned (.bool true)∧Since w w':=by
 obtain ⟨sa,h1,h2,h3⟩:=steps_in hx hU
 obtain ⟨sb,k1,k2,k3⟩:=steps_in hy hV
 obtain ⟨s,rfl⟩:∃ s:List UInt8,u=⟨s.toArray⟩:=⟨u.data.toList,by simp⟩
 exact joinsF s (by rw [tx_size] at hu; omega) hg h1 k1 h2 k2 h3 k3
end Sp
namespace Opn
open Go.RowKit
section
variable {P:Program} {W:World} {base:Nat}
theorem open_agg {t:TypeId} {v:Value} {ts:List TypeId} {fs} (hu:P.underlying t=some (.struct fs)) (hts:P.cellTypes P.depth t=some ts) (hn:P.cellsOf t=ts.length) (h:Value.okWide P W .any base t v) :
  ∃ cs:Array Value,v=.agg cs∧cs.size=ts.length∧∀ (i:Nat) (u:TypeId),ts[i]?=some u→∃ c,cs[i]?=some c∧Cell.okWide P W .any base u c:=by
 unfold Value.okWide at h
 rw [hu] at h
 obtain ⟨cs,rfl,hsz,ts',hts',_,hc⟩:=h
 rw [hts] at hts'
 obtain rfl:ts=ts':=by injection hts'
 refine ⟨cs,rfl,by omega,fun i u hi=>?_⟩
 obtain ⟨hlt,_⟩:=List.getElem?_eq_some_iff.1 hi
 have hcs:cs[i]?=some (cs[i]'(by omega)):=Array.getElem?_eq_getElem (by omega)
 obtain ⟨u',hu',hok⟩:=hc i _ hcs
 rw [Nat.mod_eq_of_lt hlt,hi] at hu'
 obtain rfl:u=u':=by injection hu'
 exact ⟨_,hcs,hok⟩
theorem cell_int {u:TypeId} {k:IntKind} {c:Value} (hu:P.underlying u=some (.int k)) (h:Cell.okWide P W .any base u c):∃ x,c=.int k x∧(Lit.int k x).wf=true:=by
 unfold Cell.okWide at h
 rw [hu] at h
 simp only at h
 unfold Cell.ok at h
 rw [hu] at h
 cases c with
 | int k' x =>
  simp only at h
  obtain ⟨rfl,hx⟩:=h
  exact ⟨x,rfl,by simpa [Lit.wf,IntKind.has] using hx⟩
 | _=>simp at h
theorem arr_of {cs:Array Value} {l:List Value} (hn:cs.size=l.length) (h:∀ (i:Nat) (c:Value),l[i]?=some c→cs[i]?=some c):cs=l.toArray:=by
 apply Array.ext_getElem?
 intro i
 rcases Nat.lt_or_ge i l.length with hi | hi
 ·have e:=List.getElem?_eq_getElem hi
  rw [h i _ e]
  simp [hi]
 ·rw [Array.getElem?_eq_none (by omega)]
  simp [hi]
def Each (cs:Array Value) (i:Nat) (l:List Value):Prop:=∀ (j:Nat) (c:Value),l[j]?=some c→cs[i+j]?=some c
theorem each_nil {cs:Array Value} {i:Nat}:Each cs i []:=fun _ _ h=>by simp at h
theorem each_cons {cs:Array Value} {i:Nat} {c:Value} {l:List Value} (h:cs[i]?=some c) (k:Each cs (i+1) l):Each cs i (c::l):=by
 intro j d hd
 cases j with
 | zero =>
  have:c=d:=by simpa using hd
  subst this; exact h
 | succ j =>
  have e:i+(j+1)=i+1+j:=by omega
  rw [e]
  exact k j d (by simpa using hd)
theorem arr_each {cs:Array Value} {l:List Value} (hn:cs.size=l.length) (h:Each cs 0 l):cs=l.toArray :=
 arr_of hn fun i c hi=>by have:=h i c hi; rwa [Nat.zero_add] at this
end
end Opn
end Go.Proofs.YtjghelofdfolbaaDoor
