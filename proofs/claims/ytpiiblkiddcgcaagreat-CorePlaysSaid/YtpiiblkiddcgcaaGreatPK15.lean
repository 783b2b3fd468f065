/-
  Wanted: part 15.
  No condition.
-/
import Derived.Test.YtpiiblkiddcgcaaGreatPK14
set_option linter.all false
namespace Go.Proofs.YtpiiblkiddcgcaaGreat
namespace Rk
open Go.RowKit Ba Mem En Go.Proofs.YtpiiblkiddcgcaaGreat.Ty Mo Go.Proofs.YtpiiblkiddcgcaaGreat.St Co
open Gr (GrV CarsAt WaitsAt carL waitL waitsO pairO grpA doR one one_in one_out loadR)
open Et (carsO car_at)
open Rg (RO RP FP carE)
open Ri (MsgV msgC)
open Qu (askE)
open Le (hasL ofL goodB)
open Fl (leaE)
open Lc (KopV kopC doK doE gdo gdo_id obF obK obE obStep ob_next ob_len CI PI EI ldK)
set_option maxRecDepth 100000
theorem ld_pi {c:CfgV} {n T:Nat} {K:KV} (h:PI c n T K) (l:LeaseV) (v:Int):PI c n T (ldK K l v):=⟨Lc.KI.ld h.k l v,h.u.grp _,EI.sub h.e (Gr.load_w _ _).2 (fun _ hy=>hy),by show (loadR K.G l.ca v).1.now≤T; rw [(Gr.load_w _ _).2]; exact h.t⟩
theorem good_hear {c:CfgV} {n T:Nat} {K:KV} (h:PI c n T K) (hT:T≤1000000) (s:Int) (m:MsgV) (hh:hasL K.L s=true):goodB K.G.c (hearR K (ofL K.L s) m).1=true:=by
 have:=((h.e _ (has_mem hh).1).hear ⟨h.k.now.1,by have:=h.t; omega⟩ (carAt K (ofL K.L s)) m).gd
 unfold hearR; rw [h.k.g.1]; exact this
attribute [local irreducible] Go.Calls
theorem hearX {lo n T:Nat} {c:CfgV} {x:XP} {K:KV} {E:List EvV} {w:World} (h:CO lo x K E w) (hP:PI c n T K) (hT:T≤9000) (s:Int) (m:MsgV):Calls Tryz.prog 71 #[.pointer (some ⟨x.q,0,none⟩),.int .i64 s,.agg (msgC m)] w (CZ lo x w (outF (evs s (hearM K s m)).length) (hearK K s m) (evs s (hearM K s m))):=by
 have hb:=Gr.ncars_bd c
 have:=hearCR h (by have:=hP.k.ll; omega) (by rw [hP.k.len]; omega) s m (fun l hl=>hP.k.inc (hP.k.okl l hl))
 rw [hear_same (good_hear hP (by omega) s m)] at this
 exact this
attribute [local irreducible] hearK hearM evs obF obK obE
set_option maxHeartbeats 4000000
theorem model10 {lo n T:Nat} {c:CfgV} {p:XP} {K:KV} {E:List EvV} {w:World} (hg:CO lo p K E w) (hP:PI c n T K) (hT:T≤9000) (a b:Int) (A:AskV) (m:MsgV):Calls Tryz.prog 22 #[.pointer (some ⟨p.q,0,none⟩),.agg (kopC ⟨10,a,b,A,m⟩).toArray] w (MP lo p (obK K) (obE K) w):=by
 have h0:=hg.1
 have h1:=hg.2.2.1.1
 have hlo:lo≤w.heap.size:=Nat.le_of_lt (Nat.lt_of_le_of_lt h0 hg.2.1.lt)
 have hll:=hP.k.ll
 have hb8:=Gr.ncars_bd c
 obtain ⟨q,g0,P,AQ,cQ,AL,cL,AE,cE⟩:=p
 refine entH tab_ok (hold_cx true (fun _ g h=>h) hg) [.p 0 0,.a [.i .i64 10,.i .i64 a,.i .i64 b,.i .i64 A.se,.i .i64 A.fl,.i .i64 A.fm,.i .i64 A.to,.i .i64 A.ma,.i .i64 m.ki,.i .i64 m.a,.i .i64 m.b,.i .i64 m.c]] Tryz.func22 Tryz.ntmps22 rfl rfl ?_
 repeat' ((conv=>whnf); first | refine sgo ⟨tab_ok⟩ ?_|refine br_not ?_|refine br_t rfl ?_|refine br_f rfl ?_|refine br_t (by assumption) ?_|refine br_f (by assumption) ?_|refine br_t (decide_eq_true (by assumption)) ?_|refine br_f (decide_eq_false (by assumption)) ?_|refine br_t (beq_iff_eq.2 (by assumption)) ?_|refine br_f (beq_eq_false_iff_ne.2 (by assumption)) ?_|refine kpt ?_|refine fin_s ?_|refine fin_r ?_ ?_|refine fin_e ?_ ?_)
 conv=>whnf
 intro b1
 repeat' ((conv=>whnf); first | refine sgo ⟨tab_ok⟩ ?_|refine br_not ?_|refine br_t rfl ?_|refine br_f rfl ?_|refine br_t (by assumption) ?_|refine br_f (by assumption) ?_|refine br_t (decide_eq_true (by assumption)) ?_|refine br_f (decide_eq_false (by assumption)) ?_|refine br_t (beq_iff_eq.2 (by assumption)) ?_|refine br_f (beq_eq_false_iff_ne.2 (by assumption)) ?_|refine kpt ?_|refine fin_s ?_|refine fin_r ?_ ?_|refine fin_e ?_ ?_)
 conv=>whnf
 refine sm_meet (ι:=Nat) (fun y=>⟨[(0,.p 0 0),(3,.p 2 0)],[⟨q,98,true,0,[],xcL K E.length ⟨q,g0,P,AQ,cQ,AL,cL,AE,cE⟩,[],true⟩,⟨g0,72,true,0,[],grS K ⟨q,g0,P,AQ,cQ,AL,cL,AE,cE⟩,[],true⟩,⟨y,50,true,0,[],[.i .i64 10,.i .i64 a,.i .i64 b,.i .i64 A.se,.i .i64 A.fl,.i .i64 A.fm,.i .i64 A.to,.i .i64 A.ma,.i .i64 m.ki,.i .i64 m.a,.i .i64 m.b,.i .i64 m.c],[],true⟩],xoO lo K E ⟨q,g0,P,AQ,cQ,AL,cL,AE,cE⟩ true⟩) ?_ (fun y=>?_)
 ·repeat' ((conv=>whnf); first | refine sgo ⟨tab_ok⟩ ?_|refine br_not ?_|refine br_t rfl ?_|refine br_f rfl ?_|refine br_t (by assumption) ?_|refine br_f (by assumption) ?_|refine br_t (decide_eq_true (by assumption)) ?_|refine br_f (decide_eq_false (by assumption)) ?_|refine br_t (beq_iff_eq.2 (by assumption)) ?_|refine br_f (beq_eq_false_iff_ne.2 (by assumption)) ?_|refine drA ⟨tab_ok⟩ [] ?_|refine kpt ?_|refine br_t (decide_eq_true (by omega)) ?_|refine br_f (decide_eq_false (by omega)) ?_|refine b3_ (fun h=>?_) (fun h=>?_)|refine meet b1 (wk ?_)|refine fin_s ?_|refine fin_r ?_ ?_|refine fin_e ?_ ?_)
  all_goals (repeat' (first | exact trivial | rfl | ((conv=>whnf); refine And.intro ?_ ?_)))
 repeat' ((conv=>whnf); first | refine sgo ⟨tab_ok⟩ ?_|refine br_not ?_|refine br_t rfl ?_|refine br_f rfl ?_|refine br_t (by assumption) ?_|refine br_f (by assumption) ?_|refine br_t (decide_eq_true (by assumption)) ?_|refine br_f (decide_eq_false (by assumption)) ?_|refine br_t (beq_iff_eq.2 (by assumption)) ?_|refine br_f (beq_eq_false_iff_ne.2 (by assumption)) ?_|refine kpt ?_|refine br_t (decide_eq_true (by omega)) ?_|refine br_f (decide_eq_false (by omega)) ?_|refine wr_i ?_|refine opb0 leaE (by rfl) Tryz.underlying96 (by kernel_rfl) (fun g4=>?_)|refine opao 4 2 (e:=101) (lo:=w.heap.size) (size:=10) (bytes:=80) (z:=.agg #[.int .i64 0,.int .i64 0,.int .i64 0,.int .i64 0,.int .i64 0,.int .i64 0,.int .i64 0,.int .i64 0,.int .i64 0,.int .i64 0]) (A:=rwO leaE w.heap.size (some ⟨g4,0,none⟩) 0 0 [] true) (E:=rwO leaE lo AL K.L.length cL K.L true) (vals:=[]) (cells:=rowsOf leaE.c K.L) (zs:=rowsOf leaE.c K.L) (n2:=K.L.length) (fun A1 c1=>rwO leaE w.heap.size A1 K.L.length c1 K.L true) (by rfl) (by rfl) (by rfl) (by rfl) (by rfl) rfl rfl (fun w h=>h) (fun A' c' w h=>h) (fun _ _=>rfl) (fun w1 h=>own_reads h) Tryz.underlying96 (by kernel_rfl) rfl (by decide) (by decide) (Ek.ones _ _) (by omega) (fun w hH=>hH.upd.size) (by omega) rfl (fun A5 c5=>?_)|refine fin_s ?_|refine fin_r ?_ ?_|refine fin_e ?_ ?_)
 conv=>whnf
 refine sm_know (p:=∃ g5,0 < K.L.length→A5=some ⟨g5,0,none⟩) (fun w1 hH=>Ek.addr (hob hH (A:=rwO leaE w.heap.size A5 K.L.length c5 K.L true) 4 rfl)) (fun hA5=>?_)
 obtain ⟨g5,hg5⟩:=hA5
 refine sm_hold _ (xoO lo K E ⟨q,g0,P,AQ,cQ,AL,cL,AE,cE⟩ true++[rwO leaE w.heap.size A5 K.L.length c5 K.L true,rwO evE w.heap.size none 0 0 [] true]) (by rfl) (fun w1 hH=>Hold.addObj (ob:=xoO lo K E ⟨q,g0,P,AQ,cQ,AL,cL,AE,cE⟩ true++[rwO leaE w.heap.size A5 K.L.length c5 K.L true]) hH (rwO evE w.heap.size none 0 0 [] true) (Ek.nil _ _ _) (by intro _ g hg; cases hg) (by intro r _ _ hg; cases hg) (by intro A hA _ g hg hg2; cases hg2)) ?_
 refine lpS ⟨tab_ok⟩ (ι:={y:(Nat×XP×(Option Addr×Nat))×(KV×List EvV×List EvV) // y.1.1≤K.L.length∧obF K y.1.1=(y.2.1,y.2.2.2)}) (fun y=>match y with | ⟨((k,x,(Ao,co)),(Kk,Es,es)),_⟩=>⟨[(0,.p 0 0),(6,.v (.slice Ao es.length co)),(7,.v (.slice A5 K.L.length c5)),(8,.i .i64 (k:Int))],[⟨q,98,true,0,[],xcL Kk Es.length x,[],true⟩,⟨g0,72,true,0,[],grS Kk x,[],true⟩],[xo0 lo Kk x true,rwO askE lo x.AQ Kk.Q.length x.cQ Kk.Q true,rwO leaE lo x.AL Kk.L.length x.cL Kk.L true,rwO evE lo x.AE Es.length x.cE Es true,rwO leaE w.heap.size A5 K.L.length c5 K.L true,rwO evE w.heap.size Ao es.length co es true]⟩) (fun y=>K.L.length - y.1.1.1) ⟨((0,⟨q,g0,P,AQ,cQ,AL,cL,AE,cE⟩,(none,0)),(K,E,[])),Nat.zero_le _,by unfold obF; rfl⟩ (wk ?_) ?_
 ·repeat' (first | exact trivial | rfl | ((conv=>whnf); refine And.intro ?_ ?_))
 rintro ⟨⟨⟨k,x,Ao,co⟩,⟨Kk,Es,es⟩⟩,hk,hfo⟩
 have hk:k≤K.L.length:=hk
 have hfo:obF K k=(Kk,es):=hfo
 have HPk:PI c n T Kk:=by have:=PI.ob (by omega) hP k; rw [hfo] at this; exact this
 have hesl:es.length≤k:=by have:=ob_len K k; rw [hfo] at this; exact this
 have hlen:=HPk.k.len
 by_cases hlt:k < K.L.length
 ·obtain ⟨l,hl⟩:∃ l,K.L[k]?=some l:=⟨_,List.getElem?_eq_getElem hlt⟩
  obtain rfl:=hg5 (by omega)
  obtain ⟨hca1,hca2⟩:=hP.k.okl l (List.mem_of_getElem? hl)
  have hs:=ob_next hl
  rw [hfo] at hs
  obtain ⟨se,fl,fm,t0,ma,ca,ph,un,re,gr⟩:=l
  obtain ⟨kc,hkc⟩:∃ kc:Nat,ca=(kc:Int):=⟨_,(Int.toNat_of_nonneg hca1).symm⟩
  subst hkc
  have hca2:(kc:Int) < (Gr.ncars c:Int):=hca2
  have hkl:kc < Kk.G.cars.length:=by omega
  obtain ⟨y,hy⟩:∃ y,Kk.G.cars[kc]?=some y:=⟨_,List.getElem?_eq_getElem hkl⟩
  have hyk:Kk.G.cars[kc]=y:=(List.getElem?_eq_some_iff.1 hy).2
  obtain ⟨xq,xg,⟨B1,d1,B2,d2⟩,BQ,dQ,BL,dL,BE,dE⟩:=x
  refine sm_know (p:=∃ g,B1=some ⟨g,0,none⟩) (fun w1 hH=>own_addr (hob hH (A:=xo0 lo Kk ⟨xq,xg,⟨B1,d1,B2,d2⟩,BQ,dQ,BL,dL,BE,dE⟩ true) 0 rfl).1 (by omega)) (fun hA=>?_)
  obtain ⟨gc,rfl⟩:=hA
  refine sm_run ⟨tab_ok⟩ ?_
  by_cases h2:ph=2
  ·have h4:¬ ph=4:=by omega
   obtain ⟨K2,hK2⟩:∃ K2,K2=(⟨⟨Kk.G.c,Kk.G.cars.set kc { y with lo:=ma },Kk.G.waits,Kk.G.now⟩,Kk.Q,Kk.L⟩:KV):=⟨_,rfl⟩
   have hld:Lc.ldK Kk ⟨se,fl,fm,t0,ma,(kc:Int),ph,un,re,gr⟩ ma=K2:=by
    rw [hK2]; unfold Lc.ldK Gr.loadR
    rw [show one Kk.G (kc:Int) (fun x=>({ x with lo:=ma },0))=_ from one_in hkl,hyk]
    rfl
   have HP2:PI c n T K2:=by rw [← hld]; exact ld_pi HPk _ _
   have hs2:obF K (k+1)=(hearK K2 se ⟨9,0,0,0⟩,es++evs se (hearM K2 se ⟨9,0,0,0⟩)):=by rw [hs]; unfold obStep; rw [if_pos h2]; simp only [hld]
   have hm1:=Lc.hearM_len K2 se ⟨9,0,0,0⟩
   have hel:(evs se (hearM K2 se ⟨9,0,0,0⟩)).length≤1:=by rw [Lc.evs_len]; exact hm1
   have hrow:grS Kk ⟨xq,xg,⟨some ⟨gc,0,none⟩,d1,B2,d2⟩,BQ,dQ,BL,dL,BE,dE⟩=grS K2 ⟨xq,xg,⟨some ⟨gc,0,none⟩,d1,B2,d2⟩,BQ,dQ,BL,dL,BE,dE⟩:=by rw [hK2]; simp only [grS,List.length_set]
   have hc:=fun (x2:XP) w1 (h:CO lo x2 K2 Es w1)=>hearX h HP2 hT se ⟨9,0,0,0⟩
   obtain ⟨K3,hK3⟩:∃ K3,K3=hearK K2 se ⟨9,0,0,0⟩:=⟨_,rfl⟩
   obtain ⟨E3,hE3⟩:∃ E3,E3=evs se (hearM K2 se ⟨9,0,0,0⟩):=⟨_,rfl⟩
   rw [← hK3,← hE3] at hs2
   simp only [← hK3,← hE3] at hc
   rw [← hE3] at hel
   have hes2:(es++E3).length=es.length+E3.length:=List.length_append
   repeat' ((conv=>whnf); first | refine sgo ⟨tab_ok⟩ ?_|refine br_not ?_|refine br_t rfl ?_|refine br_f rfl ?_|refine br_t (by assumption) ?_|refine br_f (by assumption) ?_|refine br_t (decide_eq_true (by assumption)) ?_|refine br_f (decide_eq_false (by assumption)) ?_|refine br_t (beq_iff_eq.2 (by assumption)) ?_|refine br_f (beq_eq_false_iff_ne.2 (by assumption)) ?_|refine drA (id:=28) ⟨tab_ok⟩ [11,17,20] ?_|refine kpt ?_|refine br_t (decide_eq_true (by omega)) ?_|refine br_f (decide_eq_false (by omega)) ?_|refine wr_i ?_|refine br_f (beq_eq_false_iff_ne.2 h4) ?_|refine br_t (beq_iff_eq.2 h2) ?_|refine And.intro ?_ ?_|refine opiv ⟨tab_ok⟩ (by rfl) (by rfl) (by rfl) (by rfl) (by rfl) (by rfl) ⟨by omega,by omega⟩ ?_|refine puiv ⟨tab_ok⟩ (by rfl) (by rfl) (by rfl) (by rfl) (by rfl) (by rfl) ⟨by omega,by omega⟩ ?_|refine opfv ⟨tab_ok⟩ (by rfl) (by rfl) (by rfl) (by rfl) ?_|refine pufv ⟨tab_ok⟩ (by rfl) (by rfl) (by rfl) (by rfl) ?_|refine opxc (g:=g5) (off:=0+k*10+6) (.i .i64 ph) (fun w1 hH=>cell_k (k:=6) (Ek.rng (hob hH (A:=rwO leaE w.heap.size (some ⟨g5,0,none⟩) K.L.length c5 K.L true) 4 rfl) hl) rfl) ⟨tab_ok⟩ (by rfl) (by rfl) (by first | (simp only [Go.WideShapes.add_plain]; done)|(simp only [Go.WideShapes.add_plain]; rfl)) ?_|refine opxc (g:=g5) (off:=0+k*10+5) (.i .i64 (kc:Int)) (fun w1 hH=>cell_k (k:=5) (Ek.rng (hob hH (A:=rwO leaE w.heap.size (some ⟨g5,0,none⟩) K.L.length c5 K.L true) 4 rfl) hl) rfl) ⟨tab_ok⟩ (by rfl) (by rfl) (by first | (simp only [Go.WideShapes.add_plain]; done)|(simp only [Go.WideShapes.add_plain]; rfl)) ?_|refine opxc (g:=g5) (off:=0+k*10+4) (.i .i64 ma) (fun w1 hH=>cell_k (k:=4) (Ek.rng (hob hH (A:=rwO leaE w.heap.size (some ⟨g5,0,none⟩) K.L.length c5 K.L true) 4 rfl) hl) rfl) ⟨tab_ok⟩ (by rfl) (by rfl) (by first | (simp only [Go.WideShapes.add_plain]; done)|(simp only [Go.WideShapes.add_plain]; rfl)) ?_|refine opxc (g:=g5) (off:=0+k*10+0) (.i .i64 se) (fun w1 hH=>cell_k (k:=0) (Ek.rng (hob hH (A:=rwO leaE w.heap.size (some ⟨g5,0,none⟩) K.L.length c5 K.L true) 4 rfl) hl) rfl) ⟨tab_ok⟩ (by rfl) (by rfl) (by first | (simp only [Go.WideShapes.add_plain]; done)|(simp only [Go.WideShapes.add_plain]; rfl)) ?_|refine opsc ⟨tab_ok⟩ 0 kc 6 carE (A:=xo0 lo Kk ⟨xq,xg,⟨some ⟨gc,0,none⟩,d1,B2,d2⟩,BQ,dQ,BL,dL,BE,dE⟩ true) (xo0 lo K2 ⟨xq,xg,⟨some ⟨gc,0,none⟩,d1,B2,d2⟩,BQ,dQ,BL,dL,BE,dE⟩ true) y { y with lo:=ma } (by rfl) (by rfl) (by first | (simp only [Go.WideShapes.add_plain,Int.toNat_natCast]; done)|(simp only [Go.WideShapes.add_plain,Int.toNat_natCast]; rfl)) (by rfl) (by rfl) rfl (fun w h=>h.1) hy (by decide) (by rfl) (fun w w' h k2 u=>by rw [hK2]; exact st_xo (G:=Kk.G) h k2 u) (List.mem_append_left _ (List.mem_singleton.2 rfl)) (fun g h=>h) ?_|refine callZ (f:=71) ⟨xq,xg,⟨some ⟨gc,0,none⟩,d1,B2,d2⟩,BQ,dQ,BL,dL,BE,dE⟩ K2 Es K3 E3 (fun x'=>.v (.slice x'.AE E3.length x'.cE)) (outF E3.length) (fun w1 _ h=>hc _ w1 h) (fun x'=>?_) h0 h1 (hm:=(by rw [← hrow,show xcL K2 Es.length ⟨xq,xg,⟨some ⟨gc,0,none⟩,d1,B2,d2⟩,BQ,dQ,BL,dL,BE,dE⟩=xcL Kk Es.length ⟨xq,xg,⟨some ⟨gc,0,none⟩,d1,B2,d2⟩,BQ,dQ,BL,dL,BE,dE⟩ by rw [hK2]; rfl])) (hob:=(by rw [show K2.Q=Kk.Q by rw [hK2],show K2.L=Kk.L by rw [hK2]]))|refine opao 5 3 (e:=110) (lo:=w.heap.size) (size:=5) (bytes:=40) (z:=.agg #[.int .i64 0,.int .i64 0,.int .i64 0,.int .i64 0,.int .i64 0]) (A:=rwO evE w.heap.size Ao es.length co es true) (E:=rwO evE lo x'.AE E3.length x'.cE E3 true) (vals:=rowsOf evC es) (cells:=rowsOf evC E3) (zs:=rowsOf evC (es++E3)) (n2:=(es++E3).length) (fun A' c'=>rwO evE w.heap.size A' (es++E3).length c' (es++E3) true) (by rfl) (by rfl) (by rfl) (by rfl) (by rfl) rfl rfl (fun w h=>h) (fun A' c' w h=>h) (fun _ _=>rfl) (fun w h=>Ek.reads h) Tryz.underlying51 (by kernel_rfl) rfl (by decide) (by decide) (rowsOf_one' evE.one _) (by omega) (fun w hH=>hH.upd.size) (by rw [List.length_append]) (by rw [rowsOf_append]) (fun A' c'=>?_)|refine back ⟨((k+1,x',(A',c')),(K3,E3,es++E3)),by show k+1≤_; omega,hs2⟩ (wkd ?_) ?_|refine fin_s ?_|refine fin_r ?_ ?_|refine fin_e ?_ ?_)
   all_goals first | (show K.L.length - (k+1) < K.L.length - k; omega)|skip
   all_goals (repeat' (first | exact trivial | rfl | ((conv=>whnf); refine And.intro ?_ ?_)))
  ·by_cases h4:ph=4
   ·obtain ⟨K2,hK2⟩:∃ K2,K2=(⟨⟨Kk.G.c,Kk.G.cars.set kc { y with lo:=0 },Kk.G.waits,Kk.G.now⟩,Kk.Q,Kk.L⟩:KV):=⟨_,rfl⟩
    have hld:Lc.ldK Kk ⟨se,fl,fm,t0,ma,(kc:Int),ph,un,re,gr⟩ 0=K2:=by
     rw [hK2]; unfold Lc.ldK Gr.loadR
     rw [show one Kk.G (kc:Int) (fun x=>({ x with lo:=0 },0))=_ from one_in hkl,hyk]
     rfl
    have HP2:PI c n T K2:=by rw [← hld]; exact ld_pi HPk _ _
    have hs2:obF K (k+1)=(hearK K2 se ⟨13,0,0,0⟩,es++evs se (hearM K2 se ⟨13,0,0,0⟩)):=by rw [hs]; unfold obStep; rw [if_neg h2,if_pos h4]; simp only [hld]
    have hm1:=Lc.hearM_len K2 se ⟨13,0,0,0⟩
    have hel:(evs se (hearM K2 se ⟨13,0,0,0⟩)).length≤1:=by rw [Lc.evs_len]; exact hm1
    have hrow:grS Kk ⟨xq,xg,⟨some ⟨gc,0,none⟩,d1,B2,d2⟩,BQ,dQ,BL,dL,BE,dE⟩=grS K2 ⟨xq,xg,⟨some ⟨gc,0,none⟩,d1,B2,d2⟩,BQ,dQ,BL,dL,BE,dE⟩:=by rw [hK2]; simp only [grS,List.length_set]
    have hc:=fun (x2:XP) w1 (h:CO lo x2 K2 Es w1)=>hearX h HP2 hT se ⟨13,0,0,0⟩
    obtain ⟨K3,hK3⟩:∃ K3,K3=hearK K2 se ⟨13,0,0,0⟩:=⟨_,rfl⟩
    obtain ⟨E3,hE3⟩:∃ E3,E3=evs se (hearM K2 se ⟨13,0,0,0⟩):=⟨_,rfl⟩
    rw [← hK3,← hE3] at hs2
    simp only [← hK3,← hE3] at hc
    rw [← hE3] at hel
    have hes2:(es++E3).length=es.length+E3.length:=List.length_append
    repeat' ((conv=>whnf); first | refine sgo ⟨tab_ok⟩ ?_|refine br_not ?_|refine br_t rfl ?_|refine br_f rfl ?_|refine br_t (by assumption) ?_|refine br_f (by assumption) ?_|refine br_t (decide_eq_true (by assumption)) ?_|refine br_f (decide_eq_false (by assumption)) ?_|refine br_t (beq_iff_eq.2 (by assumption)) ?_|refine br_f (beq_eq_false_iff_ne.2 (by assumption)) ?_|refine drA (id:=31) ⟨tab_ok⟩ [11,14] ?_|refine kpt ?_|refine br_t (decide_eq_true (by omega)) ?_|refine br_f (decide_eq_false (by omega)) ?_|refine wr_i ?_|refine br_f (beq_eq_false_iff_ne.2 h2) ?_|refine br_t (beq_iff_eq.2 h4) ?_|refine And.intro ?_ ?_|refine opiv ⟨tab_ok⟩ (by rfl) (by rfl) (by rfl) (by rfl) (by rfl) (by rfl) ⟨by omega,by omega⟩ ?_|refine puiv ⟨tab_ok⟩ (by rfl) (by rfl) (by rfl) (by rfl) (by rfl) (by rfl) ⟨by omega,by omega⟩ ?_|refine opfv ⟨tab_ok⟩ (by rfl) (by rfl) (by rfl) (by rfl) ?_|refine pufv ⟨tab_ok⟩ (by rfl) (by rfl) (by rfl) (by rfl) ?_|refine opxc (g:=g5) (off:=0+k*10+6) (.i .i64 ph) (fun w1 hH=>cell_k (k:=6) (Ek.rng (hob hH (A:=rwO leaE w.heap.size (some ⟨g5,0,none⟩) K.L.length c5 K.L true) 4 rfl) hl) rfl) ⟨tab_ok⟩ (by rfl) (by rfl) (by first | (simp only [Go.WideShapes.add_plain]; done)|(simp only [Go.WideShapes.add_plain]; rfl)) ?_|refine opxc (g:=g5) (off:=0+k*10+5) (.i .i64 (kc:Int)) (fun w1 hH=>cell_k (k:=5) (Ek.rng (hob hH (A:=rwO leaE w.heap.size (some ⟨g5,0,none⟩) K.L.length c5 K.L true) 4 rfl) hl) rfl) ⟨tab_ok⟩ (by rfl) (by rfl) (by first | (simp only [Go.WideShapes.add_plain]; done)|(simp only [Go.WideShapes.add_plain]; rfl)) ?_|refine opxc (g:=g5) (off:=0+k*10+4) (.i .i64 ma) (fun w1 hH=>cell_k (k:=4) (Ek.rng (hob hH (A:=rwO leaE w.heap.size (some ⟨g5,0,none⟩) K.L.length c5 K.L true) 4 rfl) hl) rfl) ⟨tab_ok⟩ (by rfl) (by rfl) (by first | (simp only [Go.WideShapes.add_plain]; done)|(simp only [Go.WideShapes.add_plain]; rfl)) ?_|refine opxc (g:=g5) (off:=0+k*10+0) (.i .i64 se) (fun w1 hH=>cell_k (k:=0) (Ek.rng (hob hH (A:=rwO leaE w.heap.size (some ⟨g5,0,none⟩) K.L.length c5 K.L true) 4 rfl) hl) rfl) ⟨tab_ok⟩ (by rfl) (by rfl) (by first | (simp only [Go.WideShapes.add_plain]; done)|(simp only [Go.WideShapes.add_plain]; rfl)) ?_|refine opsc ⟨tab_ok⟩ 0 kc 6 carE (A:=xo0 lo Kk ⟨xq,xg,⟨some ⟨gc,0,none⟩,d1,B2,d2⟩,BQ,dQ,BL,dL,BE,dE⟩ true) (xo0 lo K2 ⟨xq,xg,⟨some ⟨gc,0,none⟩,d1,B2,d2⟩,BQ,dQ,BL,dL,BE,dE⟩ true) y { y with lo:=0 } (by rfl) (by rfl) (by first | (simp only [Go.WideShapes.add_plain,Int.toNat_natCast]; done)|(simp only [Go.WideShapes.add_plain,Int.toNat_natCast]; rfl)) (by rfl) (by rfl) rfl (fun w h=>h.1) hy (by decide) (by rfl) (fun w w' h k2 u=>by rw [hK2]; exact st_xo (G:=Kk.G) h k2 u) (List.mem_append_left _ (List.mem_singleton.2 rfl)) (fun g h=>h) ?_|refine callZ (f:=71) ⟨xq,xg,⟨some ⟨gc,0,none⟩,d1,B2,d2⟩,BQ,dQ,BL,dL,BE,dE⟩ K2 Es K3 E3 (fun x'=>.v (.slice x'.AE E3.length x'.cE)) (outF E3.length) (fun w1 _ h=>hc _ w1 h) (fun x'=>?_) h0 h1 (hm:=(by rw [← hrow,show xcL K2 Es.length ⟨xq,xg,⟨some ⟨gc,0,none⟩,d1,B2,d2⟩,BQ,dQ,BL,dL,BE,dE⟩=xcL Kk Es.length ⟨xq,xg,⟨some ⟨gc,0,none⟩,d1,B2,d2⟩,BQ,dQ,BL,dL,BE,dE⟩ by rw [hK2]; rfl])) (hob:=(by rw [show K2.Q=Kk.Q by rw [hK2],show K2.L=Kk.L by rw [hK2]]))|refine opao 5 3 (e:=110) (lo:=w.heap.size) (size:=5) (bytes:=40) (z:=.agg #[.int .i64 0,.int .i64 0,.int .i64 0,.int .i64 0,.int .i64 0]) (A:=rwO evE w.heap.size Ao es.length co es true) (E:=rwO evE lo x'.AE E3.length x'.cE E3 true) (vals:=rowsOf evC es) (cells:=rowsOf evC E3) (zs:=rowsOf evC (es++E3)) (n2:=(es++E3).length) (fun A' c'=>rwO evE w.heap.size A' (es++E3).length c' (es++E3) true) (by rfl) (by rfl) (by rfl) (by rfl) (by rfl) rfl rfl (fun w h=>h) (fun A' c' w h=>h) (fun _ _=>rfl) (fun w h=>Ek.reads h) Tryz.underlying51 (by kernel_rfl) rfl (by decide) (by decide) (rowsOf_one' evE.one _) (by omega) (fun w hH=>hH.upd.size) (by rw [List.length_append]) (by rw [rowsOf_append]) (fun A' c'=>?_)|refine back ⟨((k+1,x',(A',c')),(K3,E3,es++E3)),by show k+1≤_; omega,hs2⟩ (wkd ?_) ?_|refine fin_s ?_|refine fin_r ?_ ?_|refine fin_e ?_ ?_)
    all_goals first | (show K.L.length - (k+1) < K.L.length - k; omega)|skip
    all_goals (repeat' (first | exact trivial | rfl | ((conv=>whnf); refine And.intro ?_ ?_)))
   ·have hs2:obF K (k+1)=(Kk,es):=by rw [hs]; unfold obStep; rw [if_neg h2,if_neg h4]
    repeat' ((conv=>whnf); first | refine sgo ⟨tab_ok⟩ ?_|refine br_not ?_|refine br_t rfl ?_|refine br_f rfl ?_|refine br_t (by assumption) ?_|refine br_f (by assumption) ?_|refine br_t (decide_eq_true (by assumption)) ?_|refine br_f (decide_eq_false (by assumption)) ?_|refine br_t (beq_iff_eq.2 (by assumption)) ?_|refine br_f (beq_eq_false_iff_ne.2 (by assumption)) ?_|refine kpt ?_|refine br_t (decide_eq_true (by omega)) ?_|refine br_f (decide_eq_false (by omega)) ?_|refine wr_i ?_|refine br_f (beq_eq_false_iff_ne.2 h4) ?_|refine br_f (beq_eq_false_iff_ne.2 h2) ?_|refine opiv ⟨tab_ok⟩ (by rfl) (by rfl) (by rfl) (by rfl) (by rfl) (by rfl) ⟨by omega,by omega⟩ ?_|refine puiv ⟨tab_ok⟩ (by rfl) (by rfl) (by rfl) (by rfl) (by rfl) (by rfl) ⟨by omega,by omega⟩ ?_|refine opfv ⟨tab_ok⟩ (by rfl) (by rfl) (by rfl) (by rfl) ?_|refine pufv ⟨tab_ok⟩ (by rfl) (by rfl) (by rfl) (by rfl) ?_|refine opxc (g:=g5) (off:=0+k*10+6) (.i .i64 ph) (fun w1 hH=>cell_k (k:=6) (Ek.rng (hob hH (A:=rwO leaE w.heap.size (some ⟨g5,0,none⟩) K.L.length c5 K.L true) 4 rfl) hl) rfl) ⟨tab_ok⟩ (by rfl) (by rfl) (by first | (simp only [Go.WideShapes.add_plain]; done)|(simp only [Go.WideShapes.add_plain]; rfl)) ?_|refine back ⟨((k+1,⟨xq,xg,⟨some ⟨gc,0,none⟩,d1,B2,d2⟩,BQ,dQ,BL,dL,BE,dE⟩,(Ao,co)),(Kk,Es,es)),by show k+1≤_; omega,hs2⟩ (wk ?_) ?_|refine fin_s ?_|refine fin_r ?_ ?_|refine fin_e ?_ ?_)
    all_goals first | (show K.L.length - (k+1) < K.L.length - k; omega)|skip
    all_goals (repeat' (first | exact trivial | rfl | ((conv=>whnf); refine And.intro ?_ ?_)))
 ·obtain rfl:k=K.L.length:=by omega
  have hE:obE K=es:=by unfold obE; rw [hfo]
  have hKK:obK K=Kk:=by unfold obK; rw [hfo]
  rw [hE,hKK]
  refine sm_run ⟨tab_ok⟩ ?_
  repeat' ((conv=>whnf); first | refine sgo ⟨tab_ok⟩ ?_|refine br_not ?_|refine br_t rfl ?_|refine br_f rfl ?_|refine br_t (by assumption) ?_|refine br_f (by assumption) ?_|refine br_t (decide_eq_true (by assumption)) ?_|refine br_f (decide_eq_false (by assumption)) ?_|refine br_t (beq_iff_eq.2 (by assumption)) ?_|refine br_f (beq_eq_false_iff_ne.2 (by assumption)) ?_|refine kpt ?_|refine br_t (decide_eq_true (by omega)) ?_|refine br_f (decide_eq_false (by omega)) ?_|refine wr_i ?_|refine fin_mp 1 2 3 w.heap.size Ao co (p:=⟨q,g0,P,AQ,cQ,AL,cL,AE,cE⟩) (p':={ x with q:=q,g:=g0 }) (by rfl) (by rfl) (by rfl) (by rfl) (by rfl) (by rfl) (fun w' hH=>⟨hob hH 5 rfl,fun g hg=>hH.own _ (List.mem_of_getElem? (i:=5) rfl) rfl g hg⟩) rfl rfl (by rfl) h0 h1 (Nat.le_refl _) (Nat.le_refl _) (Nat.le_refl _) (Nat.le_refl _) (by rfl) (by rfl)|refine fin_s ?_|refine fin_r ?_ ?_|refine fin_e ?_ ?_)
theorem modelT {lo n T:Nat} {c:CfgV} {p:XP} {K:KV} {E:List EvV} {w:World} (hg:CO lo p K E w) (hP:PI c n T K) (hn:n≤9000) (hT:T≤9000) (o:KopV):Calls Tryz.prog 22 #[.pointer (some ⟨p.q,0,none⟩),.agg (kopC o).toArray] w (MP lo p (doK K o) (doE K o) w):=by
 have hb:=Gr.ncars_bd c
 have hll:K.L.length≤10000:=by have:=hP.k.ll; omega
 have hlq:K.Q.length≤1000:=by have:=hP.k.lq; omega
 have hlc:K.G.cars.length≤10000:=by rw [hP.k.len]; omega
 have hlw:K.G.waits.length≤10000:=by have:=hP.k.g.2.2.2.2; omega
 have hmo:∀ x∈K.G.cars,x.mo=0∨x.mo=1:=fun x hx=>((Ct.mayB_iff c x).1 (hP.k.g.2.2.1 x hx).1).2.1
 obtain ⟨k,a,b,A,m⟩:=o
 have gd:∀ {j:Int},k=j+3→1≤j→j≤5→gdo K.G ⟨k,a,b,A,m⟩=(doR K.G j a b (b == 1)).1:=fun {j} e h1 h2=>by
  unfold gdo
  rw [if_pos (by show 4≤k∧k≤8; omega),show (KopV.k ⟨k,a,b,A,m⟩) - 3=j by show k - 3=j; omega]
 by_cases h1:k=1
 ·subst h1; exact model1 hg hll hlq a b A m
 by_cases h2:k=2
 ·subst h2; exact model2 hg hll hlc (fun l hl=>hP.k.inc (hP.k.okl l hl)) (fun s m=>good_hear hP (by omega) s m) a b A m
 by_cases h3:k=3
 ·subst h3; exact model3 hg hll hlq a b A m
 by_cases h10:k=10
 ·subst h10; exact model10 hg hP hT a b A m
 have e1:doE K ⟨k,a,b,A,m⟩=[]:=by unfold doE; rw [if_neg h1,if_neg h2,if_neg h10]
 have e2:doK K ⟨k,a,b,A,m⟩={ K with G:=gdo K.G ⟨k,a,b,A,m⟩ }:=by unfold doK; rw [if_neg h1,if_neg h2,if_neg h3,if_neg h10]
 rw [e1,e2]
 by_cases h4:k=4
 ·rw [gd (j:=1) (by omega) (by decide) (by decide)]; subst h4; exact model4 hg hlw a b A m
 by_cases h5:k=5
 ·rw [gd (j:=2) (by omega) (by decide) (by decide)]; subst h5; exact model5 hg hmo a b A m
 by_cases h6:k=6
 ·rw [gd (j:=3) (by omega) (by decide) (by decide)]; subst h6; exact model6 hg a b A m
 by_cases h7:k=7
 ·rw [gd (j:=4) (by omega) (by decide) (by decide)]; subst h7; exact model7 hg a b A m
 by_cases h8:k=8
 ·rw [gd (j:=5) (by omega) (by decide) (by decide)]; subst h8; exact model8 hg hlw a b A m
 rw [gdo_id (by show ¬ (4≤k∧k≤8); omega)]
 exact model0 hg k a b A m h1 h2 h3 h4 h5 h6 h7 h8 h10
end Rk
namespace Rk
open Go.RowKit Ba Mem En Go.Proofs.YtpiiblkiddcgcaaGreat.Ty Mo Go.Proofs.YtpiiblkiddcgcaaGreat.St Co
open Gr (GrV CarsAt WaitsAt carL waitL waitsO pairO grpA doR tickP tickG)
open Rg (WQ tick_WQ)
open Fl (leaE)
open Lc (KopV kopC kopE kop_open doK doE gdo obF obK obStep ldK CI PI doT toD)
set_option maxRecDepth 100000
section
variable {K:KV}
theorem end_ws (K:KV) (s:Int):(Co.endK K s).G.waits=K.G.waits:=by unfold Co.endK; split; exact (Gr.give_w _).1; rfl
theorem set_ws (K:KV) (l:LeaseV) (o:Bool):(setK K l o).G.waits=K.G.waits:=by
 unfold setK; split
 ·exact end_ws _ _
 ·exact (Gr.aim_w _ _ _).1
theorem hear_ws (K:KV) (s:Int) (m:Ri.MsgV):(hearK K s m).G.waits=K.G.waits:=by unfold hearK; split; exact set_ws _ _ _; rfl
theorem ob_ws (K:KV) (k:Nat):(obF K k).1.G.waits=K.G.waits:=by
 have key:∀ (ls:List LeaseV) (x:KV×List EvV),(ls.foldl obStep x).1.G.waits=x.1.G.waits:=by
  intro ls
  induction ls with
  | nil=>intro x; rfl
  | cons l r ih =>
   intro x
   rw [List.foldl_cons,ih]
   unfold obStep; split
   ·rw [hear_ws]; exact (Gr.load_w _ _).1
   ·split
    ·rw [hear_ws]; exact (Gr.load_w _ _).1
    ·rfl
 exact key _ _
theorem fold_ws (K:KV) (k:Nat):(foldK K k).1.G.waits=(tkK1 K).G.waits:=by
 have key:∀ (ls:List LeaseV) (x:KV×List EvV),(ls.foldl stepK x).1.G.waits=x.1.G.waits:=by
  intro ls
  induction ls with
  | nil=>intro x; rfl
  | cons l r ih=>intro x; rw [List.foldl_cons,ih]; exact set_ws _ _ _
 exact key _ _
theorem grant_ws (K:KV):(grantK K).G.waits=K.G.waits:=by unfold grantK; split; rfl; exact (Gr.take_w _ _).1
theorem WQ_do (h:WQ K.G.waits) (o:KopV):WQ (doK K o).G.waits:=by
 unfold doK
 split
 ·exact h
 split
 ·rw [hear_ws]; exact h
 split
 ·show WQ (Co.endK K o.q.se).G.waits
  rw [end_ws]; exact h
 split
 ·show WQ (obF K K.L.length).1.G.waits
  rw [ob_ws]; exact h
 ·show WQ (gdo K.G o).waits
  unfold gdo; split
  ·exact Rg.WQ.do_ h _ _ _ _
  ·exact h
theorem WQ_tick (h:WQ K.G.waits):WQ (tickK K).G.waits:=by
 unfold tickK
 rw [grant_ws,fold_ws]
 exact tick_WQ h
end
structure LV (c:CfgV) (n T:Nat) (K:KV):Prop where
 p:PI c n T K
 c:CI [] K
 w:WQ K.G.waits
section
variable {c:CfgV} {n T:Nat} {K:KV}
theorem LV.new (c:CfgV):LV c 0 0 (newK c):=⟨PI.new c,CI.new c,⟨(by intro a ha; cases ha),List.nodup_nil⟩⟩
theorem LV.do_ (h:LV c n T K) (hT:T≤1000000) (o:KopV):LV c (n+1) T (doK K o):=⟨h.p.do_ hT o,CI.do_ hT h.p h.c o,WQ_do h.w o⟩
theorem LV.tick (h:LV c n T K) (hT:T < 1000000):LV c n (T+1) (tickK K):=⟨h.p.tick hT,CI.tick h.p hT h.c,WQ_tick h.w⟩
theorem LV.more {n' T':Nat} (h:LV c n T K) (h1:n≤n') (h2:T≤T'):LV c n' T' K:=⟨h.p.more h1 h2,h.c,h.w⟩
theorem LV.len (h:LV c n T K):K.G.waits.length≤n∧K.G.cars.length≤8∧K.L.length≤T∧K.Q.length≤64:=by
 have:=Gr.ncars_bd c
 have h1:=h.p.k.len
 exact ⟨h.p.k.g.2.2.2.2,by omega,h.p.k.ll,h.p.k.lq⟩
end
theorem tickP_len (G:GrV):(tickP G).2.2.length≤G.cars.length:=by unfold tickP; exact (Gr.tk_wl _ _ _ _).2
theorem tickE_len (K:KV):(tickE K).length≤K.L.length+1:=by
 have h1:=fold_ev (K.L.take K.L.length) (tkK1 K,[])
 have h2:(grantE (foldK K K.L.length).1).length≤1:=by unfold grantE; split <;> simp
 unfold tickE
 rw [List.length_append]
 have h3:(foldK K K.L.length).2.length≤K.L.length:=by
  unfold foldK
  simpa using h1
 omega
attribute [local irreducible] Go.Calls doK doE tickK tickE newK tickP
def caO (lo q g:Nat) (x:XP) (K:KV) (E:List EvV) (l:Nat) (A:Option Addr) (c:Nat) (es:List EvV) (rw:Bool):Asr:=⟨FX { x with q:=q,g:=g }++blkOf A,rw,fun w=>CO lo { x with q:=q,g:=g } K E w∧evE.At l A es.length c es w,fun k h hs=>⟨hs.1.upd k (fun b hb=>h b (List.mem_append_left _ hb)),(rwO evE l A es.length c es true).up k (fun b hb=>h b (List.mem_append_right _ hb)) hs.2⟩,fun h b hb=>(List.mem_append.1 hb).elim (h.1.lt b) (own_lt h.2 b)⟩
section
variable {lo q g n T lw:Nat} {c:CfgV} {x:XP} {K:KV} {E:List EvV} {w:World}
theorem modON (hA:CO lo { x with q:=q,g:=g } K E w) (h:LV c n T K) (hn:n≤9000) (hT:T≤9000) (o:KopV):Calls Tryz.prog 22 #[.pointer (some ⟨q,0,none⟩),.agg (kopC o).toArray] w fun e w'=>∃ y:XP×List EvV×Nat×Option Addr×Nat,e=.returned (.slice y.2.2.2.1 (doE K o).length y.2.2.2.2)∧(caO lo q g y.1 (doK K o) y.2.1 y.2.2.1 y.2.2.2.1 y.2.2.2.2 (doE K o) true).st w'∧Upd (coO lo q g x K E true).F w w'∧∀ b∈(caO lo q g y.1 (doK K o) y.2.1 y.2.2.1 y.2.2.2.1 y.2.2.2.2 (doE K o) true).F,b∈(coO lo q g x K E true).F∨w.heap.size≤b:=by
 refine (modelT hA h.p hn hT o).mono ?_
 rintro e w' ⟨⟨q',g',x2,x3,x4,x5,x6,x7,x8⟩,E',l,A,cA,⟨h1,h2⟩,rfl,h3,h4,h5,h6,h7⟩
 have h1:q'=q:=h1
 have h2:g'=g:=h2
 subst h1 h2
 exact ⟨(⟨q',g',x2,x3,x4,x5,x6,x7,x8⟩,E',l,A,cA),rfl,⟨h3,h4⟩,h6,fun b hb=>(List.mem_append.1 hb).elim (h7 b) (h5 b)⟩
theorem tickCON (hA:CO lo { x with q:=q,g:=g } K E w) (h:LV c n T K) (hn:n≤9000) (hT:T < 9000) (hlw:lw≤w.heap.size):Calls Tryz.prog 17 #[.pointer (some ⟨q,0,none⟩)] w fun e w'=>∃ y:XP×Option Addr×Nat,e=.returned (.tuple #[.slice y.1.AE (tickE K).length y.1.cE,.slice y.2.1 (tickP K.G).2.2.length y.2.2])∧(coO lo q g y.1 (tickK K) (tickE K) true).st w'∧(waitsO lw y.2.1 (tickP K.G).2.2.length y.2.2 (tickP K.G).2.2 true).st w'∧Upd (coO lo q g x K E true).F w w'∧(∀ b∈(coO lo q g y.1 (tickK K) (tickE K) true).F,b∈(coO lo q g x K E true).F∨w.heap.size≤b)∧∀ b∈(waitsO lw y.2.1 (tickP K.G).2.2.length y.2.2 (tickP K.G).2.2 true).F,w.heap.size≤b∧b∉(coO lo q g y.1 (tickK K) (tickE K) true).F:=by
 refine (tickCR hA h.p h.c h.w (by omega) hT).mono ?_
 rintro e w' ⟨⟨⟨q',g',x2,x3,x4,x5,x6,x7,x8⟩,AW,cW⟩,⟨h1,h2⟩,rfl,h3,h4,h5,h6,h7⟩
 have h1:q'=q:=h1
 have h2:g'=g:=h2
 subst h1 h2
 exact ⟨(⟨q',g',x2,x3,x4,x5,x6,x7,x8⟩,AW,cW),rfl,h3,own_base h4 hlw,h5,h6,h7⟩
end
set_option maxHeartbeats 8000000 in
theorem playsF (c:CfgV) {a:Option Addr} {len cap:Nat} {os:Nat→KopV} {w:World} (h:kopE.Rd a len os w) (hlen:len≤9223372036854775807):Calls Tryz.prog 4 #[(aCfg c),.slice a len cap] w fun e w'=>e=.returned (.bool true)∧Since w w':=by
 obtain ⟨gb,off,hb⟩:=Ek.rd_addr h
 refine entH tab_ok (Hold.addObj (ob:=[]) (Hold.nil _ tab [] _ w) (rdO kopE a len os) h (by intro k; cases k) (by intro r hr; cases hr) (by intro A hA; cases hA)) [.a (sCfg c),.v (.slice a len cap)] Tryz.func4 Tryz.ntmps4 rfl rfl ?_
 repeat' ((conv=>whnf); first | refine sgo ⟨tab_ok⟩ ?_|refine br_not ?_|refine br_t rfl ?_|refine br_f rfl ?_|refine br_t (by assumption) ?_|refine br_f (by assumption) ?_|refine br_t (decide_eq_true (by assumption)) ?_|refine br_f (decide_eq_false (by assumption)) ?_|refine br_t (beq_iff_eq.2 (by assumption)) ?_|refine br_f (beq_eq_false_iff_ne.2 (by assumption)) ?_|intro b0 | refine drA ⟨tab_ok⟩ [] ?_|refine kpt ?_|refine callN (f:=14) (ι:={x:Nat×Nat×Pt×List Nat // w.heap.size≤x.1}) (fun x=>.v (.pointer (some ⟨x.1.2.1,0,none⟩))) (fun x=>kO x.1.1 x.1.2.1 x.1.2.2.1 (newK c) x.1.2.2.2 true) (fun w1 hH=>(newW c w1).mono (by rintro e w' ⟨q,p,S',rfl,h1,h2⟩; exact ⟨⟨(w1.heap.size,q,p,S'),hH.upd.size⟩,rfl,h1,h2,h1.low⟩)) (fun x=>?_)|refine callN (f:=15) (ι:={x:Nat×XP // w.heap.size≤x.1}) (fun x=>.v (.pointer (some ⟨x.1.2.q,0,none⟩))) (fun x=>coO x.1.1 x.1.2.q x.1.2.g x.1.2 (newK c) [] true) (fun w1 hH=>(newCR c w1).mono (by rintro e w' ⟨p',rfl,h1,h2⟩; exact ⟨⟨(w1.heap.size,p'),hH.upd.size⟩,rfl,h1,h2,h1.low⟩)) (fun y=>?_)|refine fin_s ?_|refine fin_r ?_ ?_|refine fin_e ?_ ?_)
 conv=>whnf
 obtain ⟨⟨lo,q,p,S0⟩,hlo⟩:=x
 obtain ⟨⟨lo2,P0⟩,hlo2⟩:=y
 obtain ⟨q2,hq2⟩:∃ q2,P0.q=q2:=⟨_,rfl⟩
 obtain ⟨g2,hg2⟩:∃ g2,P0.g=g2:=⟨_,rfl⟩
 simp only [hq2,hg2]
 refine lp ⟨tab_ok⟩ (ι:={x:(Nat×List Nat×XP×List EvV)×KV // (x.1.1≤60∧x.1.1≤len)∧LV c x.1.1 (50*x.1.1) x.2}) (fun x=>match x with | ⟨((i,S,P,E),K),_⟩=>⟨[(1,.v (.slice a len cap)),(5,.v (.pointer (some ⟨q,0,none⟩))),(6,.v (.pointer (some ⟨q2,0,none⟩))),(7,.i .i64 (i:Int))],[⟨b0,23,true,0,[],(sCfg c),[],true⟩],[rdO kopE a len os,kO lo q p K S true,coO lo2 q2 g2 P K E true]⟩) (fun x=>60 - x.1.1.1) ⟨((0,S0,P0,[]),newK c),⟨Nat.zero_le _,Nat.zero_le _⟩,LV.new c⟩ (wk ?_) ?_
 ·repeat' (first | exact trivial | rfl | ((conv=>whnf); refine And.intro ?_ ?_))
 rintro ⟨⟨⟨i,S,P,E⟩,K⟩,⟨hi60,hil⟩,HI⟩
 have hi60:i≤60:=hi60
 have hil:i≤len:=hil
 have HI:LV c i (50*i) K:=HI
 by_cases hlt:i < len
 ·by_cases h8:i < 60
  ·have hb:=hb (by omega)
   subst hb
   by_cases h9:(os i).k=9
   ·repeat' ((conv=>whnf); first | refine sgo ⟨tab_ok⟩ ?_|refine br_not ?_|refine br_t rfl ?_|refine br_f rfl ?_|refine br_t (by assumption) ?_|refine br_f (by assumption) ?_|refine br_t (decide_eq_true (by assumption)) ?_|refine br_f (decide_eq_false (by assumption)) ?_|refine br_t (beq_iff_eq.2 (by assumption)) ?_|refine br_f (beq_eq_false_iff_ne.2 (by assumption)) ?_|intro b1 | refine drA ⟨tab_ok⟩ [] ?_|refine kpt ?_|refine br_t (decide_eq_true (by omega)) ?_|refine br_f (decide_eq_false (by omega)) ?_|refine br_t (beq_iff_eq.2 h9) ?_|refine opiv ⟨tab_ok⟩ (by rfl) (by rfl) (by rfl) (by rfl) (by rfl) (by rfl) ⟨by omega,by omega⟩ ?_|refine puiv ⟨tab_ok⟩ (by rfl) (by rfl) (by rfl) (by rfl) (by rfl) (by rfl) ⟨by omega,by omega⟩ ?_|refine opix (g:=gb) (off:=off+i*12) [.i .i64 (os i).k,.i .i64 (os i).a,.i .i64 (os i).b,.i .i64 (os i).q.se,.i .i64 (os i).q.fl,.i .i64 (os i).q.fm,.i .i64 (os i).q.to,.i .i64 (os i).q.ma,.i .i64 (os i).m.ki,.i .i64 (os i).m.a,.i .i64 (os i).m.b,.i .i64 (os i).m.c] (fun w1 hH=>Ek.rd_rng (hob hH (A:=rdO kopE (some ⟨gb,off,none⟩) len os) 0 rfl) hlt) ⟨tab_ok⟩ (by rfl) (by rfl) (by simp only [Go.WideShapes.add_plain]; rfl) ?_|refine fin_s ?_|refine fin_r ?_ ?_|refine fin_e ?_ ?_)
    conv=>whnf
    refine lp ⟨tab_ok⟩ (ι:={x:(Nat×List Nat×XP×List EvV)×KV // x.1.1≤50∧LV c i (50*i+x.1.1) x.2}) (fun x=>match x with | ⟨((n,Sn,Pn,En),Kn),_⟩=>⟨[(1,.v (.slice (some ⟨gb,off,none⟩) len cap)),(5,.v (.pointer (some ⟨q,0,none⟩))),(6,.v (.pointer (some ⟨q2,0,none⟩))),(7,.i .i64 (i:Int)),(8,.p 1 0),(9,.i .i64 (n:Int))],[⟨b0,23,true,0,[],(sCfg c),[],true⟩,⟨b1,50,true,0,[],[.i .i64 (os i).k,.i .i64 (os i).a,.i .i64 (os i).b,.i .i64 (os i).q.se,.i .i64 (os i).q.fl,.i .i64 (os i).q.fm,.i .i64 (os i).q.to,.i .i64 (os i).q.ma,.i .i64 (os i).m.ki,.i .i64 (os i).m.a,.i .i64 (os i).m.b,.i .i64 (os i).m.c],[],true⟩],[rdO kopE (some ⟨gb,off,none⟩) len os,kO lo q p Kn Sn true,coO lo2 q2 g2 Pn Kn En true]⟩) (fun x=>50 - x.1.1.1) ⟨((0,S,P,E),K),Nat.zero_le _,HI⟩ (wk ?_) ?_
    ·repeat' (first | exact trivial | rfl | ((conv=>whnf); refine And.intro ?_ ?_))
    rintro ⟨⟨⟨n,Sn,Pn,En⟩,Kn⟩,hn50,HN⟩
    have hn50:n≤50:=hn50
    have HN:LV c i (50*i+n) Kn:=HN
    have HX:LV c (i+1) (50*(i+1)) Kn:=HN.more (by omega) (by omega)
    have HT:LV c i (50*i+(n+1)) (tickK Kn):=HN.tick (by omega)
    have hTK:KT Kn:=HN.p.k.kt (by omega) (by omega) (by omega)
    have hln:=HN.len
    have hl2:=HT.len
    have htw:=tickP_len Kn.G
    have hte:=tickE_len Kn
    by_cases hna:(n:Int) < (os i).a
    ·by_cases hn5:n < 50
     ·repeat' ((conv=>whnf); first | refine sgo ⟨tab_ok⟩ ?_|refine br_not ?_|refine br_t rfl ?_|refine br_f rfl ?_|refine br_t (by assumption) ?_|refine br_f (by assumption) ?_|refine br_t (decide_eq_true (by assumption)) ?_|refine br_f (decide_eq_false (by assumption)) ?_|refine br_t (beq_iff_eq.2 (by assumption)) ?_|refine br_f (beq_eq_false_iff_ne.2 (by assumption)) ?_|refine drA ⟨tab_ok⟩ [] ?_|refine kpt ?_|refine br_t (decide_eq_true (by omega)) ?_|refine br_f (decide_eq_false (by omega)) ?_|refine wr_i ?_|refine callO2N (f:=16) (A:=kO lo q p Kn Sn true) 1 (ι:=List Nat×Nr×Nr) (fun z=>.t [.v (.slice z.2.1.2.1 (tickE Kn).length z.2.1.2.2),.v (.slice z.2.2.2.1 (tickP Kn.G).2.2.length z.2.2.2.2)]) (fun z=>kO lo q p (tickK Kn) z.1 true) (fun z=>rwO evE z.2.1.1 z.2.1.2.1 (tickE Kn).length z.2.1.2.2 (tickE Kn) true) (fun z=>waitsO z.2.2.1 z.2.2.2.1 (tickP Kn.G).2.2.length z.2.2.2.2 (tickP Kn.G).2.2 true) (fun w1 hH hA=>Co.tickW hA hTK) (fun z=>?_)|refine callON (f:=17) (A:=coO lo2 q2 g2 Pn Kn En true) 2 (ι:=XP×Option Addr×Nat) (fun y=>.t [.v (.slice y.1.AE (tickE Kn).length y.1.cE),.v (.slice y.2.1 (tickP Kn.G).2.2.length y.2.2)]) (fun y=>coO lo2 q2 g2 y.1 (tickK Kn) (tickE Kn) true) (fun y=>waitsO w.heap.size y.2.1 (tickP Kn.G).2.2.length y.2.2 (tickP Kn.G).2.2 true) (fun w1 hH hA=>tickCON hA HN (by omega) (by omega) hH.upd.size) (fun y=>?_)|refine callH (f:=18) (.b true) (fun w1 hH=>sameE (by omega) (hob hH (A:=rwO evE z.2.1.1 z.2.1.2.1 (tickE Kn).length z.2.1.2.2 (tickE Kn) true) 3 rfl) (hob hH (A:=coO lo2 q2 g2 y.1 (tickK Kn) (tickE Kn) true) 2 rfl).2.2.2.2.2) ?_|refine callH (f:=19) (.b true) (fun w1 hH=>sameW21 (by omega) (hob hH (A:=waitsO z.2.2.1 z.2.2.2.1 (tickP Kn.G).2.2.length z.2.2.2.2 (tickP Kn.G).2.2 true) 4 rfl) (hob hH (A:=waitsO w.heap.size y.2.1 (tickP Kn.G).2.2.length y.2.2 (tickP Kn.G).2.2 true) 5 rfl)) ?_|refine callH (f:=20) (.b true) (fun w1 hH=>alikeC (x:={ y.1 with q:=q2,g:=g2 }) (hob hH (A:=kO lo q p (tickK Kn) z.1 true) 1 rfl) (hob hH (A:=coO lo2 q2 g2 y.1 (tickK Kn) (tickE Kn) true) 2 rfl) (pair_at (R:=DisR) (fun _ _ h=>h.symm) hH.dis (i:=1) (j:=2) rfl rfl (by decide) (.inl rfl)) (by omega) (by omega) (by omega) (by omega)) ?_|refine back ⟨((n+1,z.1,y.1,tickE Kn),tickK Kn),by show n+1≤50; omega,HT⟩ (wkd ?_) ?_|refine fin_s ?_|refine fin_r ?_ ?_|refine fin_e ?_ ?_)
      all_goals first | (show 50 - (n+1) < 50 - n; omega)|skip
      all_goals (repeat' (first | exact trivial | rfl | ((conv=>whnf); refine And.intro ?_ ?_)))
     ·obtain rfl:n=50:=by omega
      repeat' ((conv=>whnf); first | refine sgo ⟨tab_ok⟩ ?_|refine br_not ?_|refine br_t rfl ?_|refine br_f rfl ?_|refine br_t (by assumption) ?_|refine br_f (by assumption) ?_|refine br_t (decide_eq_true (by assumption)) ?_|refine br_f (decide_eq_false (by assumption)) ?_|refine br_t (beq_iff_eq.2 (by assumption)) ?_|refine br_f (beq_eq_false_iff_ne.2 (by assumption)) ?_|refine drA ⟨tab_ok⟩ [] ?_|refine kpt ?_|refine br_t (decide_eq_true (by omega)) ?_|refine br_f (decide_eq_false (by omega)) ?_|refine wr_i ?_|refine br_f (decide_eq_false (show ¬ ((50:Nat):Int) < 50 by decide)) ?_|refine back ⟨((i+1,Sn,Pn,En),Kn),⟨by show i+1≤60; omega,by show i+1≤len; omega⟩,HX⟩ (wkd ?_) ?_|refine fin_s ?_|refine fin_r ?_ ?_|refine fin_e ?_ ?_)
      all_goals first | (show 60 - (i+1) < 60 - i; omega)|skip
      all_goals (repeat' (first | exact trivial | rfl | ((conv=>whnf); refine And.intro ?_ ?_)))
    ·repeat' ((conv=>whnf); first | refine sgo ⟨tab_ok⟩ ?_|refine br_not ?_|refine br_t rfl ?_|refine br_f rfl ?_|refine br_t (by assumption) ?_|refine br_f (by assumption) ?_|refine br_t (decide_eq_true (by assumption)) ?_|refine br_f (decide_eq_false (by assumption)) ?_|refine br_t (beq_iff_eq.2 (by assumption)) ?_|refine br_f (beq_eq_false_iff_ne.2 (by assumption)) ?_|refine drA ⟨tab_ok⟩ [] ?_|refine kpt ?_|refine br_t (decide_eq_true (by omega)) ?_|refine br_f (decide_eq_false (by omega)) ?_|refine wr_i ?_|refine back ⟨((i+1,Sn,Pn,En),Kn),⟨by show i+1≤60; omega,by show i+1≤len; omega⟩,HX⟩ (wkd ?_) ?_|refine fin_s ?_|refine fin_r ?_ ?_|refine fin_e ?_ ?_)
     all_goals first | (show 60 - (i+1) < 60 - i; omega)|skip
     all_goals (repeat' (first | exact trivial | rfl | ((conv=>whnf); refine And.intro ?_ ?_)))
   ·obtain ⟨K',hK'⟩:∃ K',K'=doK K (os i):=⟨_,rfl⟩
    obtain ⟨es,hes⟩:∃ es,es=doE K (os i):=⟨_,rfl⟩
    have HD:LV c (i+1) (50*i) K':=by rw [hK']; exact HI.do_ (by omega) _
    have HX:LV c (i+1) (50*(i+1)) K':=HD.more (Nat.le_refl _) (by omega)
    have hln:=HD.len
    have hel:es.length≤50*i+1:=by rw [hes]; exact Lc.doE_len HI.p.k (os i)
    have c1:∀ w1,w.heap.size≤w1.heap.size→KW lo q p K S w1→_:=fun w1 hz hA=>toD (Φ:=fun S'=>KW lo q p (doK K (os i)) S') (doT hA HI.p.k (by omega) (by omega) (os i)) hz
    have c2:∀ w1,CO lo2 { P with q:=q2,g:=g2 } K E w1→_:=fun w1 hA=>modON (w:=w1) hA HI (by omega) (by omega) (os i)
    rw [← hK',← hes] at c1 c2
    repeat' ((conv=>whnf); first | refine sgo ⟨tab_ok⟩ ?_|refine br_not ?_|refine br_t rfl ?_|refine br_f rfl ?_|refine br_t (by assumption) ?_|refine br_f (by assumption) ?_|refine br_t (decide_eq_true (by assumption)) ?_|refine br_f (decide_eq_false (by assumption)) ?_|refine br_t (beq_iff_eq.2 (by assumption)) ?_|refine br_f (beq_eq_false_iff_ne.2 (by assumption)) ?_|intro b1 | refine drA ⟨tab_ok⟩ [] ?_|refine kpt ?_|refine br_t (decide_eq_true (by omega)) ?_|refine br_f (decide_eq_false (by omega)) ?_|refine wr_i ?_|refine opiv ⟨tab_ok⟩ (by rfl) (by rfl) (by rfl) (by rfl) (by rfl) (by rfl) ⟨by omega,by omega⟩ ?_|refine puiv ⟨tab_ok⟩ (by rfl) (by rfl) (by rfl) (by rfl) (by rfl) (by rfl) ⟨by omega,by omega⟩ ?_|refine opix (g:=gb) (off:=off+i*12) [.i .i64 (os i).k,.i .i64 (os i).a,.i .i64 (os i).b,.i .i64 (os i).q.se,.i .i64 (os i).q.fl,.i .i64 (os i).q.fm,.i .i64 (os i).q.to,.i .i64 (os i).q.ma,.i .i64 (os i).m.ki,.i .i64 (os i).m.a,.i .i64 (os i).m.b,.i .i64 (os i).m.c] (fun w1 hH=>Ek.rd_rng (hob hH (A:=rdO kopE (some ⟨gb,off,none⟩) len os) 0 rfl) hlt) ⟨tab_ok⟩ (by rfl) (by rfl) (by simp only [Go.WideShapes.add_plain]; rfl) ?_|refine fin_s ?_|refine fin_r ?_ ?_|refine fin_e ?_ ?_)
    conv=>whnf
    refine lp ⟨tab_ok⟩ (ι:=Unit) (fun _=>⟨[(1,.v (.slice (some ⟨gb,off,none⟩) len cap)),(5,.v (.pointer (some ⟨q,0,none⟩))),(6,.v (.pointer (some ⟨q2,0,none⟩))),(7,.i .i64 (i:Int)),(8,.p 1 0),(9,.i .i64 0)],[⟨b0,23,true,0,[],(sCfg c),[],true⟩,⟨b1,50,true,0,[],[.i .i64 (os i).k,.i .i64 (os i).a,.i .i64 (os i).b,.i .i64 (os i).q.se,.i .i64 (os i).q.fl,.i .i64 (os i).q.fm,.i .i64 (os i).q.to,.i .i64 (os i).q.ma,.i .i64 (os i).m.ki,.i .i64 (os i).m.a,.i .i64 (os i).m.b,.i .i64 (os i).m.c],[],true⟩],[rdO kopE (some ⟨gb,off,none⟩) len os,kO lo q p K S true,coO lo2 q2 g2 P K E true]⟩) (fun _=>0) () (wk ?_) ?_
    ·repeat' (first | exact trivial | rfl | ((conv=>whnf); refine And.intro ?_ ?_))
    intro _
    repeat' ((conv=>whnf); first | refine sgo ⟨tab_ok⟩ ?_|refine br_not ?_|refine br_t rfl ?_|refine br_f rfl ?_|refine br_t (by assumption) ?_|refine br_f (by assumption) ?_|refine br_t (decide_eq_true (by assumption)) ?_|refine br_f (decide_eq_false (by assumption)) ?_|refine br_t (beq_iff_eq.2 (by assumption)) ?_|refine br_f (beq_eq_false_iff_ne.2 (by assumption)) ?_|refine drA ⟨tab_ok⟩ [] ?_|refine kpt ?_|refine br_t (decide_eq_true (by omega)) ?_|refine br_f (decide_eq_false (by omega)) ?_|refine wr_i ?_|refine br_f (beq_eq_false_iff_ne.2 h9) ?_|refine callON (f:=21) (A:=kO lo q p K S true) 1 (ι:=List Nat×Option Addr×Nat) (fun x=>.v (.slice x.2.1 es.length x.2.2)) (fun x=>kO lo q p K' x.1 true) (fun x=>rwO evE w.heap.size x.2.1 es.length x.2.2 es true) (fun w1 hH hA=>c1 w1 hH.upd.size hA) (fun z=>?_)|refine callO (f:=22) (A:=coO lo2 q2 g2 P K E true) 2 (ι:=XP×List EvV×Nat×Option Addr×Nat) (fun y=>.v (.slice y.2.2.2.1 es.length y.2.2.2.2)) (fun y=>caO lo2 q2 g2 y.1 K' y.2.1 y.2.2.1 y.2.2.2.1 y.2.2.2.2 es true) (fun w1 hH hA=>c2 w1 hA) (fun y=>?_)|refine callH (f:=18) (.b true) (fun w1 hH=>sameE (by omega) (hob hH (A:=rwO evE w.heap.size z.2.1 es.length z.2.2 es true) 3 rfl) (hob hH (A:=caO lo2 q2 g2 y.1 K' y.2.1 y.2.2.1 y.2.2.2.1 y.2.2.2.2 es true) 2 rfl).2) ?_|refine callH (f:=20) (.b true) (fun w1 hH=>alikeC (x:={ y.1 with q:=q2,g:=g2 }) (hob hH (A:=kO lo q p K' z.1 true) 1 rfl) (hob hH (A:=caO lo2 q2 g2 y.1 K' y.2.1 y.2.2.1 y.2.2.2.1 y.2.2.2.2 es true) 2 rfl).1 (fun b hb hb2=>pair_at (R:=DisR) (fun _ _ h=>h.symm) hH.dis (i:=1) (j:=2) rfl rfl (by decide) (.inl rfl) b hb (List.mem_append_left _ hb2)) (by omega) (by omega) (by omega) (by omega)) ?_|refine back ⟨((i+1,z.1,y.1,y.2.1),K'),⟨by show i+1≤60; omega,by show i+1≤len; omega⟩,HX⟩ (wkh [rdO kopE (some ⟨gb,off,none⟩) len os,kO lo q p K' z.1 true,coO lo2 q2 g2 y.1 K' y.2.1 true] (fun w1 hH=>hH.pick [0,1,2] (.cons (.same rfl) (.cons (.same rfl) (.cons ⟨_,rfl,fun w h=>h.1,fun g hg=>List.mem_append_left _ hg,rfl⟩ .nil)))) (wk ?_)) ?_|refine fin_s ?_|refine fin_r ?_ ?_|refine fin_e ?_ ?_)
    all_goals first | (show 60 - (i+1) < 60 - i; omega)|skip
    all_goals (repeat' (first | exact trivial | rfl | ((conv=>whnf); refine And.intro ?_ ?_)))
  ·obtain rfl:i=60:=by omega
   repeat' ((conv=>whnf); first | refine sgo ⟨tab_ok⟩ ?_|refine br_not ?_|refine br_t rfl ?_|refine br_f rfl ?_|refine br_t (by assumption) ?_|refine br_f (by assumption) ?_|refine br_t (decide_eq_true (by assumption)) ?_|refine br_f (decide_eq_false (by assumption)) ?_|refine br_t (beq_iff_eq.2 (by assumption)) ?_|refine br_f (beq_eq_false_iff_ne.2 (by assumption)) ?_|refine drA ⟨tab_ok⟩ [] ?_|refine kpt ?_|refine br_t (decide_eq_true (by omega)) ?_|refine br_f (decide_eq_false (by omega)) ?_|refine wr_i ?_|refine br_f (decide_eq_false (show ¬ ((60:Nat):Int) < 60 by decide)) ?_|refine callS (f:=23) (.b true) (ansT) ?_|refine fin_s ?_|refine fin_r ?_ ?_|refine fin_e ?_ ?_)
   all_goals rfl
 ·repeat' ((conv=>whnf); first | refine sgo ⟨tab_ok⟩ ?_|refine br_not ?_|refine br_t rfl ?_|refine br_f rfl ?_|refine br_t (by assumption) ?_|refine br_f (by assumption) ?_|refine br_t (decide_eq_true (by assumption)) ?_|refine br_f (decide_eq_false (by assumption)) ?_|refine br_t (beq_iff_eq.2 (by assumption)) ?_|refine br_f (beq_eq_false_iff_ne.2 (by assumption)) ?_|refine drA ⟨tab_ok⟩ [] ?_|refine kpt ?_|refine br_t (decide_eq_true (by omega)) ?_|refine br_f (decide_eq_false (by omega)) ?_|refine wr_i ?_|refine callS (f:=23) (.b true) (ansT) ?_|refine fin_s ?_|refine fin_r ?_ ?_|refine fin_e ?_ ?_)
  all_goals rfl
theorem playsL {H:Type} {enc:TypeId×Value→H} {x:DataW H×List MemPlace} (c:CfgV) (a:Option Addr) (len cap:Nat) (w:World) (hx:∃ m,DataW.trod enc Tryz.prog w 0 (fun _=>true) true m 40 (Value.cells (.slice a len cap)).toList=some x) :
  Calls Tryz.prog 4 #[(aCfg c),.slice a len cap] w fun e w'=>e=.returned (.bool true)∧Since w w':=by
 obtain ⟨m,hm⟩:=hx
 obtain ⟨os,ho,hl⟩:=kop_open hm
 exact playsF c ho hl
end Rk
end Go.Proofs.YtpiiblkiddcgcaaGreat
