/-
  Wanted: part 13.
  No condition.
-/
import Derived.Test.YtpiiblkiddcgcaaGreatPK12
import Derived.Test.YtpiiblkiddcgcaaGreatPK9
set_option linter.all false
namespace Go.Proofs.YtpiiblkiddcgcaaGreat
namespace Rk
open Go.RowKit Ba Mem En Go.Proofs.YtpiiblkiddcgcaaGreat.Ty Mo Go.Proofs.YtpiiblkiddcgcaaGreat.St Co
open Gr (GrV CarsAt WaitsAt carL waitL waitsO pairO grpA takeR)
open Et (carsO car_at)
open Rg (RO RP FP takeGR)
open Ri (MsgV msgC trV)
open Qu (askE askC askC_one atS btw)
open Le (isS atP oI)
open Fl (leaE)
set_option maxRecDepth 100000
attribute [local irreducible] Go.Calls oldW trV
open Gr (idB)
open Rf (farR)
attribute [local irreducible] idB fr
set_option maxHeartbeats 1000000
theorem nrm_take {cs:List CarV} {k:Nat} {x:CarV} (hx:cs[k]?=some x):(cs.take (k+1)).countP nrmC=(cs.take k).countP nrmC+if nrmC x=true then 1 else 0:=by
 obtain ⟨hk,rfl⟩:=List.getElem?_eq_some_iff.1 hx
 rw [List.take_succ_eq_append_getElem hk,List.countP_append,List.countP_singleton]
theorem nr_next {f:Int} {cs:List CarV} {k:Nat} {x:CarV} (hx:cs[k]?=some x):nrL f cs (k+1)=if canB x=true∧((nrL f cs k).1 < 0∨fr x.un f < (nrL f cs k).2) then ((k:Int),fr x.un f) else nrL f cs k:=by
 show (match cs[k]? with | none=>_|some x=>_)=_
 rw [hx]
theorem nr_at (f:Int) (cs:List CarV):∀ k,k≤cs.length → -1≤(nrL f cs k).1∧(0≤(nrL f cs k).1→∃ b y,(nrL f cs k).1=((b:Nat):Int)∧b < cs.length∧cs[b]?=some y∧(nrL f cs k).2=fr y.un f∧canB y=true)
 | 0,_=>⟨Int.le_refl _,fun h=>absurd h (by show ¬ (0:Int) ≤ -1; decide)⟩
 | k+1,hk=>by
  have hx:cs[k]?=some cs[k]:=List.getElem?_eq_getElem (by omega)
  rw [nr_next hx]
  split
  ·rename_i h
   exact ⟨by show (-1:Int)≤(k:Int); omega,fun _=>⟨k,cs[k],rfl,by omega,hx,rfl,h.1⟩⟩
  ·exact nr_at f cs k (by omega)
def frA (K:KV) (a:AskV):Bool:=decide ((Fl.cn K.L a.fl:Int) < btw K.G.c.qo 1 8)
def grQ (K:KV):Option Nat:=if calmB K=true∧2≤K.G.cars.countP nrmC then K.Q.findIdx? (frA K) else none
def grtK (K:KV) (q b:Nat) (a:AskV):KV:=⟨(takeR K.G (b:Int) a.fm).1,K.Q.eraseIdx q,K.L++[⟨a.se,a.fl,a.fm,a.to,a.ma,(b:Int),1,Tm.cl (Tm.cl K.G.now+Tm.cl (trV K.G.c)),0,K.G.now⟩]⟩
def grR (K:KV):KV×List EvV:=match grQ K with
 | none=>(K,[])
 | some q=>let a:=K.Q.getD q ⟨0,0,0,0,0⟩; if nearI K a.fm < 0 then (K,[]) else (grtK K q (nearI K a.fm).toNat a,[⟨a.se,⟨4,nearI K a.fm,0,0⟩⟩])
theorem take_cc (G:GrV) (i f:Int):(takeR G i f).1.c=G.c:=take_c _ _ _
theorem grantKR {lo:Nat} {p:XP} {K:KV} {E:List EvV} {w:World} (hg:CO lo p K E w) (hl:K.L.length≤10000) (hq:K.Q.length≤1000) (hE:E.length≤9999) (hlc:K.G.cars.length≤10000) (hlw:K.G.waits.length≤10000) (hn:okN K) (hs:∀ a∈K.G.waits,okS K a) (hk1:∀ x∈K.G.cars,Gr.okT x) (hqf:∀ a∈K.Q,0≤a.fm∧a.fm≤1000000) :
  Calls Tryz.prog 60 #[.pointer (some ⟨p.q,0,none⟩)] w (CX lo p w (.tuple #[]) (grR K).1 (E++(grR K).2)):=by
 have h0:=hg.1
 have h1:=hg.2.2.1.1
 have hlo:lo≤w.heap.size:=Nat.le_of_lt (Nat.lt_of_le_of_lt h0 hg.2.1.lt)
 obtain ⟨q,g0,⟨A1,c1,A2,c2⟩,AQ,cQ,AL,cL,AE,cE⟩:=p
 obtain ⟨gc,hgA⟩:∃ g,0 < K.G.cars.length→A1=some ⟨g,0,none⟩:=by
  rcases own_at hg.2.2.1.2.2.1 with ⟨_,h0,_⟩ | ⟨g,_,h1,_⟩
  ·exact ⟨0,fun k=>by omega⟩
  ·exact ⟨g,fun _=>h1⟩
 by_cases hcalm:calmB K=true
 ·refine entH tab_ok (hold_cx true (fun _ g h=>h) hg) [.p 0 0] Tryz.func60 Tryz.ntmps60 rfl rfl ?_
  repeat' ((conv=>whnf); first | refine sgo ⟨tab_ok⟩ ?_|refine br_not ?_|refine br_t rfl ?_|refine br_f rfl ?_|refine br_t (by assumption) ?_|refine br_f (by assumption) ?_|refine br_t (decide_eq_true (by assumption)) ?_|refine br_f (decide_eq_false (by assumption)) ?_|refine br_t (beq_iff_eq.2 (by assumption)) ?_|refine br_f (beq_eq_false_iff_ne.2 (by assumption)) ?_|refine kpt ?_|refine callH (f:=136) (.b true) (fun w1 hH=>by have:=calmR (co_of (x:=⟨q,g0,⟨A1,c1,A2,c2⟩,AQ,cQ,AL,cL,AE,cE⟩) (K:=K) (E:=E) hH h0 h1) hlw hn hs; rw [hcalm] at this; exact this) ?_|refine fin_s ?_|refine fin_r ?_ ?_|refine fin_e ?_ ?_)
  conv=>whnf
  refine lpS ⟨tab_ok⟩ (ι:={k:Nat // k≤K.G.cars.length}) (fun y=>match y with | ⟨k,_⟩=>⟨[(0,.p 0 0),(2,.i .i64 (((K.G.cars.take k).countP nrmC:Nat):Int)),(3,.i .i64 (k:Int))],xoM K E.length ⟨q,g0,⟨A1,c1,A2,c2⟩,AQ,cQ,AL,cL,AE,cE⟩ true,xoO lo K E ⟨q,g0,⟨A1,c1,A2,c2⟩,AQ,cQ,AL,cL,AE,cE⟩ true⟩) (fun y=>K.G.cars.length - y.1) ⟨0,Nat.zero_le _⟩ (wk ?_) ?_
  ·repeat' (first | exact trivial | rfl | ((conv=>whnf); refine And.intro ?_ ?_))
  rintro ⟨k,hk⟩
  refine sm_run ⟨tab_ok⟩ ?_
  have hck:(K.G.cars.take k).countP nrmC≤k:=by have:=List.countP_le_length (p:=nrmC) (l:=K.G.cars.take k); rw [List.length_take] at this; omega
  by_cases hlt:k < K.G.cars.length
  ·obtain ⟨x,hx⟩:∃ x,K.G.cars[k]?=some x:=⟨_,List.getElem?_eq_getElem hlt⟩
   have hnx:=nrm_take hx
   obtain rfl:=hgA (by omega)
   by_cases hm:x.mo=0
   ·cases hb:x.br with
    | false =>
     have hnr:nrmC x=true:=by unfold nrmC; rw [hm,hb]; rfl
     rw [if_pos hnr] at hnx
     repeat' ((conv=>whnf); first | refine sgo ⟨tab_ok⟩ ?_|refine br_not ?_|refine br_t rfl ?_|refine br_f rfl ?_|refine br_t (by assumption) ?_|refine br_f (by assumption) ?_|refine br_t (decide_eq_true (by assumption)) ?_|refine br_f (decide_eq_false (by assumption)) ?_|refine br_t (beq_iff_eq.2 (by assumption)) ?_|refine br_f (beq_eq_false_iff_ne.2 (by assumption)) ?_|refine kpt ?_|refine br_t (decide_eq_true (by omega)) ?_|refine br_f (decide_eq_false (by omega)) ?_|refine wr_i ?_|refine opiv ⟨tab_ok⟩ (by rfl) (by rfl) (by rfl) (by rfl) (by rfl) (by rfl) ⟨by omega,by omega⟩ ?_|refine opfv ⟨tab_ok⟩ (by rfl) (by rfl) (by rfl) (by rfl) ?_|refine puiv ⟨tab_ok⟩ (by rfl) (by rfl) (by rfl) (by rfl) (by rfl) (by rfl) ⟨by omega,by omega⟩ ?_|refine pufv ⟨tab_ok⟩ (by rfl) (by rfl) (by rfl) (by rfl) ?_|refine opxc (g:=gc) (off:=0+k*15+9) (.i .i64 x.mo) (fun w1 hH=>cell_k (k:=9) (car_at (hob hH (A:=xo0 lo K ⟨q,g0,⟨some ⟨gc,0,none⟩,c1,A2,c2⟩,AQ,cQ,AL,cL,AE,cE⟩ true) 0 rfl).1 hx) rfl) ⟨tab_ok⟩ (by rfl) (by rfl) (by first | (simp only [Go.WideShapes.add_plain]; done)|(simp only [Go.WideShapes.add_plain]; rfl)) ?_|refine opxc (g:=gc) (off:=0+k*15+8) (.b x.br) (fun w1 hH=>cell_k (k:=8) (car_at (hob hH (A:=xo0 lo K ⟨q,g0,⟨some ⟨gc,0,none⟩,c1,A2,c2⟩,AQ,cQ,AL,cL,AE,cE⟩ true) 0 rfl).1 hx) rfl) ⟨tab_ok⟩ (by rfl) (by rfl) (by first | (simp only [Go.WideShapes.add_plain]; done)|(simp only [Go.WideShapes.add_plain]; rfl)) ?_|refine br_t (beq_iff_eq.2 hm) ?_|refine br_f hb ?_|refine back ⟨k+1,by omega⟩ (wk ?_) ?_|refine fin_s ?_|refine fin_r ?_ ?_|refine fin_e ?_ ?_)
     all_goals first | (show K.G.cars.length - (k+1) < K.G.cars.length - k; omega)|skip
     all_goals (repeat' (first | exact trivial | rfl | ((conv=>whnf); refine And.intro ?_ ?_)))
     all_goals (simp only [den]; rw [hnx]; rfl)
    | true =>
     have hnr:¬ nrmC x=true:=by unfold nrmC; rw [hm,hb]; decide
     rw [if_neg hnr] at hnx
     repeat' ((conv=>whnf); first | refine sgo ⟨tab_ok⟩ ?_|refine br_not ?_|refine br_t rfl ?_|refine br_f rfl ?_|refine br_t (by assumption) ?_|refine br_f (by assumption) ?_|refine br_t (decide_eq_true (by assumption)) ?_|refine br_f (decide_eq_false (by assumption)) ?_|refine br_t (beq_iff_eq.2 (by assumption)) ?_|refine br_f (beq_eq_false_iff_ne.2 (by assumption)) ?_|refine kpt ?_|refine br_t (decide_eq_true (by omega)) ?_|refine br_f (decide_eq_false (by omega)) ?_|refine wr_i ?_|refine opiv ⟨tab_ok⟩ (by rfl) (by rfl) (by rfl) (by rfl) (by rfl) (by rfl) ⟨by omega,by omega⟩ ?_|refine opfv ⟨tab_ok⟩ (by rfl) (by rfl) (by rfl) (by rfl) ?_|refine puiv ⟨tab_ok⟩ (by rfl) (by rfl) (by rfl) (by rfl) (by rfl) (by rfl) ⟨by omega,by omega⟩ ?_|refine pufv ⟨tab_ok⟩ (by rfl) (by rfl) (by rfl) (by rfl) ?_|refine opxc (g:=gc) (off:=0+k*15+9) (.i .i64 x.mo) (fun w1 hH=>cell_k (k:=9) (car_at (hob hH (A:=xo0 lo K ⟨q,g0,⟨some ⟨gc,0,none⟩,c1,A2,c2⟩,AQ,cQ,AL,cL,AE,cE⟩ true) 0 rfl).1 hx) rfl) ⟨tab_ok⟩ (by rfl) (by rfl) (by first | (simp only [Go.WideShapes.add_plain]; done)|(simp only [Go.WideShapes.add_plain]; rfl)) ?_|refine opxc (g:=gc) (off:=0+k*15+8) (.b x.br) (fun w1 hH=>cell_k (k:=8) (car_at (hob hH (A:=xo0 lo K ⟨q,g0,⟨some ⟨gc,0,none⟩,c1,A2,c2⟩,AQ,cQ,AL,cL,AE,cE⟩ true) 0 rfl).1 hx) rfl) ⟨tab_ok⟩ (by rfl) (by rfl) (by first | (simp only [Go.WideShapes.add_plain]; done)|(simp only [Go.WideShapes.add_plain]; rfl)) ?_|refine br_t (beq_iff_eq.2 hm) ?_|refine br_t hb ?_|refine back ⟨k+1,by omega⟩ (wk ?_) ?_|refine fin_s ?_|refine fin_r ?_ ?_|refine fin_e ?_ ?_)
     all_goals first | (show K.G.cars.length - (k+1) < K.G.cars.length - k; omega)|skip
     all_goals (repeat' (first | exact trivial | rfl | ((conv=>whnf); refine And.intro ?_ ?_)))
     all_goals (simp only [den]; rw [hnx]; rfl)
   ·have hnr:¬ nrmC x=true:=by unfold nrmC; rw [beq_eq_false_iff_ne.2 hm]; simp
    rw [if_neg hnr] at hnx
    repeat' ((conv=>whnf); first | refine sgo ⟨tab_ok⟩ ?_|refine br_not ?_|refine br_t rfl ?_|refine br_f rfl ?_|refine br_t (by assumption) ?_|refine br_f (by assumption) ?_|refine br_t (decide_eq_true (by assumption)) ?_|refine br_f (decide_eq_false (by assumption)) ?_|refine br_t (beq_iff_eq.2 (by assumption)) ?_|refine br_f (beq_eq_false_iff_ne.2 (by assumption)) ?_|refine kpt ?_|refine br_t (decide_eq_true (by omega)) ?_|refine br_f (decide_eq_false (by omega)) ?_|refine wr_i ?_|refine opiv ⟨tab_ok⟩ (by rfl) (by rfl) (by rfl) (by rfl) (by rfl) (by rfl) ⟨by omega,by omega⟩ ?_|refine opfv ⟨tab_ok⟩ (by rfl) (by rfl) (by rfl) (by rfl) ?_|refine puiv ⟨tab_ok⟩ (by rfl) (by rfl) (by rfl) (by rfl) (by rfl) (by rfl) ⟨by omega,by omega⟩ ?_|refine pufv ⟨tab_ok⟩ (by rfl) (by rfl) (by rfl) (by rfl) ?_|refine opxc (g:=gc) (off:=0+k*15+9) (.i .i64 x.mo) (fun w1 hH=>cell_k (k:=9) (car_at (hob hH (A:=xo0 lo K ⟨q,g0,⟨some ⟨gc,0,none⟩,c1,A2,c2⟩,AQ,cQ,AL,cL,AE,cE⟩ true) 0 rfl).1 hx) rfl) ⟨tab_ok⟩ (by rfl) (by rfl) (by first | (simp only [Go.WideShapes.add_plain]; done)|(simp only [Go.WideShapes.add_plain]; rfl)) ?_|refine br_f (beq_eq_false_iff_ne.2 hm) ?_|refine back ⟨k+1,by omega⟩ (wk ?_) ?_|refine fin_s ?_|refine fin_r ?_ ?_|refine fin_e ?_ ?_)
    all_goals first | (show K.G.cars.length - (k+1) < K.G.cars.length - k; omega)|skip
    all_goals (repeat' (first | exact trivial | rfl | ((conv=>whnf); refine And.intro ?_ ?_)))
    all_goals (simp only [den]; rw [hnx]; rfl)
  ·obtain rfl:k=K.G.cars.length:=by omega
   by_cases h2:2≤K.G.cars.countP nrmC
   ·have h2':((((K.G.cars.take K.G.cars.length).countP nrmC:Nat):Int) ≥ 2):=by rw [List.take_length]; omega
    have hgq:grQ K=K.Q.findIdx? (frA K):=by unfold grQ; rw [if_pos ⟨hcalm,h2⟩]
    obtain ⟨gq,hgQ⟩:=Ek.addr hg.2.2.2.1
    have hgQ:0 < K.Q.length→AQ=some ⟨gq,0,none⟩:=hgQ
    obtain rfl:=hgA (by have:=List.countP_le_length (p:=nrmC) (l:=K.G.cars); omega)
    repeat' ((conv=>whnf); first | refine sgo ⟨tab_ok⟩ ?_|refine br_not ?_|refine br_t rfl ?_|refine br_f rfl ?_|refine br_t (by assumption) ?_|refine br_f (by assumption) ?_|refine br_t (decide_eq_true (by assumption)) ?_|refine br_f (decide_eq_false (by assumption)) ?_|refine br_t (beq_iff_eq.2 (by assumption)) ?_|refine br_f (beq_eq_false_iff_ne.2 (by assumption)) ?_|refine kpt ?_|refine br_t (decide_eq_true (by omega)) ?_|refine br_f (decide_eq_false (by omega)) ?_|refine wr_i ?_|refine fin_s ?_|refine fin_r ?_ ?_|refine fin_e ?_ ?_)
    conv=>whnf
    refine lpS ⟨tab_ok⟩ (ι:={j:Nat // j≤K.Q.length∧∀ i,i < j→∀ hi:i < K.Q.length,frA K K.Q[i]=false}) (fun y=>match y with | ⟨j,_⟩=>⟨[(0,.p 0 0),(4,.i .i64 (j:Int))],xoM K E.length ⟨q,g0,⟨some ⟨gc,0,none⟩,c1,A2,c2⟩,AQ,cQ,AL,cL,AE,cE⟩ true,xoO lo K E ⟨q,g0,⟨some ⟨gc,0,none⟩,c1,A2,c2⟩,AQ,cQ,AL,cL,AE,cE⟩ true⟩) (fun y=>K.Q.length - y.1) ⟨0,Nat.zero_le _,fun j hj=>by omega⟩ (wk ?_) ?_
    ·repeat' (first | exact trivial | rfl | ((conv=>whnf); refine And.intro ?_ ?_))
    rintro ⟨j,hj,hno⟩
    refine sm_run ⟨tab_ok⟩ ?_
    by_cases hlj:j < K.Q.length
    ·obtain ⟨a,ha⟩:∃ a,K.Q[j]?=some a:=⟨_,List.getElem?_eq_getElem hlj⟩
     obtain ⟨hjl,hae⟩:=List.getElem?_eq_some_iff.1 ha
     obtain rfl:=hgQ (by omega)
     obtain ⟨cnt,hcnt⟩:∃ cnt:Int,(Fl.cn K.L a.fl:Int)=cnt:=⟨_,rfl⟩
     obtain ⟨quo,hquo⟩:∃ quo:Int,btw K.G.c.qo 1 8=quo:=⟨_,rfl⟩
     repeat' ((conv=>whnf); first | refine sgo ⟨tab_ok⟩ ?_|refine br_not ?_|refine br_t rfl ?_|refine br_f rfl ?_|refine br_t (by assumption) ?_|refine br_f (by assumption) ?_|refine br_t (decide_eq_true (by assumption)) ?_|refine br_f (decide_eq_false (by assumption)) ?_|refine br_t (beq_iff_eq.2 (by assumption)) ?_|refine br_f (beq_eq_false_iff_ne.2 (by assumption)) ?_|refine kpt ?_|refine br_t (decide_eq_true (by omega)) ?_|refine br_f (decide_eq_false (by omega)) ?_|refine wr_i ?_|refine opiv ⟨tab_ok⟩ (by rfl) (by rfl) (by rfl) (by rfl) (by rfl) (by rfl) ⟨by omega,by omega⟩ ?_|refine opfv ⟨tab_ok⟩ (by rfl) (by rfl) (by rfl) (by rfl) ?_|refine puiv ⟨tab_ok⟩ (by rfl) (by rfl) (by rfl) (by rfl) (by rfl) (by rfl) ⟨by omega,by omega⟩ ?_|refine pufv ⟨tab_ok⟩ (by rfl) (by rfl) (by rfl) (by rfl) ?_|refine opix (g:=gq) (off:=0+j*5) [.i .i64 a.se,.i .i64 a.fl,.i .i64 a.fm,.i .i64 a.to,.i .i64 a.ma] (fun w1 hH=>Ek.rng (hob hH (A:=rwO askE lo (some ⟨gq,0,none⟩) K.Q.length cQ K.Q true) 1 rfl) ha) ⟨tab_ok⟩ (by rfl) (by rfl) (by first | (simp only [Go.WideShapes.add_plain]; done)|(simp only [Go.WideShapes.add_plain]; rfl)) ?_|refine fin_s ?_|refine fin_r ?_ ?_|refine fin_e ?_ ?_)
     conv=>whnf
     intro b
     by_cases hf:frA K a=true
     ·have hcq:cnt < quo:=by unfold frA at hf; rw [hcnt,hquo] at hf; exact of_decide_eq_true hf
      repeat' ((conv=>whnf); first | refine sgo ⟨tab_ok⟩ ?_|refine br_not ?_|refine br_t rfl ?_|refine br_f rfl ?_|refine br_t (by assumption) ?_|refine br_f (by assumption) ?_|refine br_t (decide_eq_true (by assumption)) ?_|refine br_f (decide_eq_false (by assumption)) ?_|refine br_t (beq_iff_eq.2 (by assumption)) ?_|refine br_f (beq_eq_false_iff_ne.2 (by assumption)) ?_|refine drA ⟨tab_ok⟩ [] ?_|refine kpt ?_|refine br_t (decide_eq_true (by omega)) ?_|refine br_f (decide_eq_false (by omega)) ?_|refine wr_i ?_|refine callH (f:=137) (.i .i64 cnt) (fun w1 hH=>by have:=countKR a.fl w1 (hob hH (A:=rwO leaE lo AL K.L.length cL K.L true) 2 rfl) rfl (by omega); rw [hcnt] at this; exact this) ?_|refine callS (f:=138) (.i .i64 quo) ((by have:=Lc.quotaT K.G.c; rw [hquo] at this; exact this)) ?_|refine fin_s ?_|refine fin_r ?_ ?_|refine fin_e ?_ ?_)
      conv=>whnf
      refine lpS ⟨tab_ok⟩ (ι:={y:Nat×Int // y.1≤K.G.cars.length∧y.2=(nrL a.fm K.G.cars y.1).1}) (fun y=>match y with | ⟨(k,v),_⟩=>⟨[(0,.p 0 0),(4,.i .i64 (j:Int)),(5,.p 2 0),(6,.i .i64 v),(7,.i .i64 (k:Int))],[⟨q,98,true,0,[],xcL K E.length ⟨q,g0,⟨some ⟨gc,0,none⟩,c1,A2,c2⟩,some ⟨gq,0,none⟩,cQ,AL,cL,AE,cE⟩,[],true⟩,⟨g0,72,true,0,[],grS K ⟨q,g0,⟨some ⟨gc,0,none⟩,c1,A2,c2⟩,some ⟨gq,0,none⟩,cQ,AL,cL,AE,cE⟩,[],true⟩,⟨b,46,true,0,[],[.i .i64 a.se,.i .i64 a.fl,.i .i64 a.fm,.i .i64 a.to,.i .i64 a.ma],[],true⟩],xoO lo K E ⟨q,g0,⟨some ⟨gc,0,none⟩,c1,A2,c2⟩,some ⟨gq,0,none⟩,cQ,AL,cL,AE,cE⟩ true⟩) (fun y=>K.G.cars.length - y.1.1) ⟨(0,-1),Nat.zero_le _,rfl⟩ (wk ?_) ?_
      ·repeat' (first | exact trivial | rfl | ((conv=>whnf); refine And.intro ?_ ?_))
      rintro ⟨⟨k,v⟩,hk,hv⟩
      have hk:k≤K.G.cars.length:=hk
      have hv:v=(nrL a.fm K.G.cars k).1:=hv
      refine sm_run ⟨tab_ok⟩ ?_
      obtain ⟨hr1,hr2⟩:=nr_at a.fm K.G.cars k hk
      rw [← hv] at hr1 hr2
      obtain ⟨hf1,hf2⟩:=hqf a (List.mem_of_getElem? ha)
      by_cases hlk:k < K.G.cars.length
      ·obtain ⟨x,hx⟩:∃ x,K.G.cars[k]?=some x:=⟨_,List.getElem?_eq_getElem hlk⟩
       obtain ⟨_,⟨hp,hu,hd⟩,_,_,⟨hun1,hun2⟩,_⟩:=hk1 x (List.mem_of_getElem? hx)
       have hnx:=nr_next (f:=a.fm) hx
       rw [← hv] at hnx
       have hfa:=fun w=>farR x.un a.fm ⟨by omega,by omega⟩ ⟨by omega,by omega⟩ w
       repeat' ((conv=>whnf); first | refine sgo ⟨tab_ok⟩ ?_|refine br_not ?_|refine br_t rfl ?_|refine br_f rfl ?_|refine br_t (by assumption) ?_|refine br_f (by assumption) ?_|refine br_t (decide_eq_true (by assumption)) ?_|refine br_f (decide_eq_false (by assumption)) ?_|refine br_t (beq_iff_eq.2 (by assumption)) ?_|refine br_f (beq_eq_false_iff_ne.2 (by assumption)) ?_|refine kpt ?_|refine br_t (decide_eq_true (by omega)) ?_|refine br_f (decide_eq_false (by omega)) ?_|refine wr_i ?_|refine opiv ⟨tab_ok⟩ (by rfl) (by rfl) (by rfl) (by rfl) (by rfl) (by rfl) ⟨by omega,by omega⟩ ?_|refine opfv ⟨tab_ok⟩ (by rfl) (by rfl) (by rfl) (by rfl) ?_|refine puiv ⟨tab_ok⟩ (by rfl) (by rfl) (by rfl) (by rfl) (by rfl) (by rfl) ⟨by omega,by omega⟩ ?_|refine pufv ⟨tab_ok⟩ (by rfl) (by rfl) (by rfl) (by rfl) ?_|refine opix (g:=gc) (off:=0+k*15) (sCar x) (fun w1 hH=>car_at (hob hH (A:=xo0 lo K ⟨q,g0,⟨some ⟨gc,0,none⟩,c1,A2,c2⟩,some ⟨gq,0,none⟩,cQ,AL,cL,AE,cE⟩ true) 0 rfl).1 hx) ⟨tab_ok⟩ (by rfl) (by rfl) (by first | (simp only [Go.WideShapes.add_plain]; done)|(simp only [Go.WideShapes.add_plain]; rfl)) ?_|refine fin_s ?_|refine fin_r ?_ ?_|refine fin_e ?_ ?_)
       conv=>whnf
       intro b3
       by_cases hi:idB x=true
       ·by_cases hlo2:x.lo≤0
        ·obtain ⟨bl,hbl⟩:∃ bl,x.bl=bl:=⟨_,rfl⟩
         cases bl with
         | false =>
          have hcan:canB x=true:=by unfold canB; rw [hi,hbl,decide_eq_false (by omega)]; rfl
          by_cases hv0:v < 0
          ·rw [if_pos ⟨hcan,.inl hv0⟩] at hnx
           repeat' ((conv=>whnf); first | refine sgo ⟨tab_ok⟩ ?_|refine br_not ?_|refine br_t rfl ?_|refine br_f rfl ?_|refine br_t (by assumption) ?_|refine br_f (by assumption) ?_|refine br_t (decide_eq_true (by assumption)) ?_|refine br_f (decide_eq_false (by assumption)) ?_|refine br_t (beq_iff_eq.2 (by assumption)) ?_|refine br_f (beq_eq_false_iff_ne.2 (by assumption)) ?_|refine drA (id:=18) ⟨tab_ok⟩ [31] ?_|refine kpt ?_|refine br_t (decide_eq_true (by omega)) ?_|refine br_f (decide_eq_false (by omega)) ?_|refine wr_i ?_|refine And.intro ?_ ?_|refine opiv ⟨tab_ok⟩ (by rfl) (by rfl) (by rfl) (by rfl) (by rfl) (by rfl) ⟨by omega,by omega⟩ ?_|refine opfv ⟨tab_ok⟩ (by rfl) (by rfl) (by rfl) (by rfl) ?_|refine puiv ⟨tab_ok⟩ (by rfl) (by rfl) (by rfl) (by rfl) (by rfl) (by rfl) ⟨by omega,by omega⟩ ?_|refine pufv ⟨tab_ok⟩ (by rfl) (by rfl) (by rfl) (by rfl) ?_|refine callS (f:=114) (.b (idB x)) (Rf.idleR x hp hu hd) ?_|refine callS (f:=139) (.i .i64 (fr x.un a.fm)) (hfa) ?_|refine back ⟨(k+1,(k:Int)),by show k+1≤_; omega,by show (k:Int)=_; rw [hnx]⟩ (wk ?_) ?_|refine fin_s ?_|refine fin_r ?_ ?_|refine fin_e ?_ ?_)
           all_goals first | (show K.G.cars.length - (k+1) < K.G.cars.length - k; omega)|skip
           all_goals (repeat' (first | exact trivial | rfl | ((conv=>whnf); refine And.intro ?_ ?_)))
          ·obtain ⟨bt,y,rfl,hbl2,hy,hy2,_⟩:=hr2 (by omega)
           obtain ⟨_,_,_,_,⟨hyn1,hyn2⟩,_⟩:=hk1 y (List.mem_of_getElem? hy)
           have hfb:=fun w=>farR y.un a.fm ⟨by omega,by omega⟩ ⟨by omega,by omega⟩ w
           by_cases hfl:fr x.un a.fm < fr y.un a.fm
           ·rw [if_pos ⟨hcan,.inr (by rw [hy2]; exact hfl)⟩] at hnx
            repeat' ((conv=>whnf); first | refine sgo ⟨tab_ok⟩ ?_|refine br_not ?_|refine br_t rfl ?_|refine br_f rfl ?_|refine br_t (by assumption) ?_|refine br_f (by assumption) ?_|refine br_t (decide_eq_true (by assumption)) ?_|refine br_f (decide_eq_false (by assumption)) ?_|refine br_t (beq_iff_eq.2 (by assumption)) ?_|refine br_f (beq_eq_false_iff_ne.2 (by assumption)) ?_|refine drA (id:=18) ⟨tab_ok⟩ [31] ?_|refine kpt ?_|refine br_t (decide_eq_true (by omega)) ?_|refine br_f (decide_eq_false (by omega)) ?_|refine wr_i ?_|refine And.intro ?_ ?_|refine opiv ⟨tab_ok⟩ (by rfl) (by rfl) (by rfl) (by rfl) (by rfl) (by rfl) ⟨by omega,by omega⟩ ?_|refine opfv ⟨tab_ok⟩ (by rfl) (by rfl) (by rfl) (by rfl) ?_|refine puiv ⟨tab_ok⟩ (by rfl) (by rfl) (by rfl) (by rfl) (by rfl) (by rfl) ⟨by omega,by omega⟩ ?_|refine pufv ⟨tab_ok⟩ (by rfl) (by rfl) (by rfl) (by rfl) ?_|refine callS (f:=114) (.b (idB x)) (Rf.idleR x hp hu hd) ?_|refine callS (f:=139) (.i .i64 (fr x.un a.fm)) (hfa) ?_|refine opxc (g:=gc) (off:=0+bt*15+2) (.i .i64 y.un) (fun w1 hH=>cell_k (k:=2) (car_at (hob hH (A:=xo0 lo K ⟨q,g0,⟨some ⟨gc,0,none⟩,c1,A2,c2⟩,some ⟨gq,0,none⟩,cQ,AL,cL,AE,cE⟩ true) 0 rfl).1 hy) rfl) ⟨tab_ok⟩ (by rfl) (by rfl) (by first | (simp only [Go.WideShapes.add_plain]; done)|(simp only [Go.WideShapes.add_plain]; rfl)) ?_|refine callS (f:=139) (.i .i64 (fr y.un a.fm)) (hfb) ?_|refine back ⟨(k+1,(k:Int)),by show k+1≤_; omega,by show (k:Int)=_; rw [hnx]⟩ (wk ?_) ?_|refine fin_s ?_|refine fin_r ?_ ?_|refine fin_e ?_ ?_)
            all_goals first | (show K.G.cars.length - (k+1) < K.G.cars.length - k; omega)|skip
            all_goals (repeat' (first | exact trivial | rfl | ((conv=>whnf); refine And.intro ?_ ?_)))
           ·rw [if_neg (fun h=>h.2.elim hv0 (by rw [hy2]; exact hfl))] at hnx
            repeat' ((conv=>whnf); first | refine sgo ⟨tab_ok⟩ ?_|refine br_not ?_|refine br_t rfl ?_|refine br_f rfl ?_|refine br_t (by assumption) ?_|refine br_f (by assumption) ?_|refine br_t (decide_eq_true (by assumption)) ?_|refine br_f (decide_eq_false (by assumption)) ?_|refine br_t (beq_iff_eq.2 (by assumption)) ?_|refine br_f (beq_eq_false_iff_ne.2 (by assumption)) ?_|refine drA (id:=18) ⟨tab_ok⟩ [31] ?_|refine kpt ?_|refine br_t (decide_eq_true (by omega)) ?_|refine br_f (decide_eq_false (by omega)) ?_|refine wr_i ?_|refine And.intro ?_ ?_|refine opiv ⟨tab_ok⟩ (by rfl) (by rfl) (by rfl) (by rfl) (by rfl) (by rfl) ⟨by omega,by omega⟩ ?_|refine opfv ⟨tab_ok⟩ (by rfl) (by rfl) (by rfl) (by rfl) ?_|refine puiv ⟨tab_ok⟩ (by rfl) (by rfl) (by rfl) (by rfl) (by rfl) (by rfl) ⟨by omega,by omega⟩ ?_|refine pufv ⟨tab_ok⟩ (by rfl) (by rfl) (by rfl) (by rfl) ?_|refine callS (f:=114) (.b (idB x)) (Rf.idleR x hp hu hd) ?_|refine callS (f:=139) (.i .i64 (fr x.un a.fm)) (hfa) ?_|refine opxc (g:=gc) (off:=0+bt*15+2) (.i .i64 y.un) (fun w1 hH=>cell_k (k:=2) (car_at (hob hH (A:=xo0 lo K ⟨q,g0,⟨some ⟨gc,0,none⟩,c1,A2,c2⟩,some ⟨gq,0,none⟩,cQ,AL,cL,AE,cE⟩ true) 0 rfl).1 hy) rfl) ⟨tab_ok⟩ (by rfl) (by rfl) (by first | (simp only [Go.WideShapes.add_plain]; done)|(simp only [Go.WideShapes.add_plain]; rfl)) ?_|refine callS (f:=139) (.i .i64 (fr y.un a.fm)) (hfb) ?_|refine back ⟨(k+1,(bt:Int)),by show k+1≤_; omega,by show (bt:Int)=_; rw [hnx]; exact hv⟩ (wk ?_) ?_|refine fin_s ?_|refine fin_r ?_ ?_|refine fin_e ?_ ?_)
            all_goals first | (show K.G.cars.length - (k+1) < K.G.cars.length - k; omega)|skip
            all_goals (repeat' (first | exact trivial | rfl | ((conv=>whnf); refine And.intro ?_ ?_)))
         | true =>
          have hcan:¬ canB x=true:=by unfold canB; rw [hbl]; simp
          rw [if_neg (fun h=>hcan h.1)] at hnx
          repeat' ((conv=>whnf); first | refine sgo ⟨tab_ok⟩ ?_|refine br_not ?_|refine br_t rfl ?_|refine br_f rfl ?_|refine br_t (by assumption) ?_|refine br_f (by assumption) ?_|refine br_t (decide_eq_true (by assumption)) ?_|refine br_f (decide_eq_false (by assumption)) ?_|refine br_t (beq_iff_eq.2 (by assumption)) ?_|refine br_f (beq_eq_false_iff_ne.2 (by assumption)) ?_|refine drA (id:=18) ⟨tab_ok⟩ [31] ?_|refine kpt ?_|refine br_t (decide_eq_true (by omega)) ?_|refine br_f (decide_eq_false (by omega)) ?_|refine wr_i ?_|refine And.intro ?_ ?_|refine opiv ⟨tab_ok⟩ (by rfl) (by rfl) (by rfl) (by rfl) (by rfl) (by rfl) ⟨by omega,by omega⟩ ?_|refine opfv ⟨tab_ok⟩ (by rfl) (by rfl) (by rfl) (by rfl) ?_|refine puiv ⟨tab_ok⟩ (by rfl) (by rfl) (by rfl) (by rfl) (by rfl) (by rfl) ⟨by omega,by omega⟩ ?_|refine pufv ⟨tab_ok⟩ (by rfl) (by rfl) (by rfl) (by rfl) ?_|refine callS (f:=114) (.b (idB x)) (Rf.idleR x hp hu hd) ?_|refine callS (f:=139) (.i .i64 (fr x.un a.fm)) (hfa) ?_|refine back ⟨(k+1,v),by show k+1≤_; omega,by show v=_; rw [hnx]; exact hv⟩ (wk ?_) ?_|refine fin_s ?_|refine fin_r ?_ ?_|refine fin_e ?_ ?_)
          all_goals first | (show K.G.cars.length - (k+1) < K.G.cars.length - k; omega)|skip
          all_goals (repeat' (first | exact trivial | rfl | ((conv=>whnf); refine And.intro ?_ ?_)))
        ·have hcan:¬ canB x=true:=by unfold canB; rw [decide_eq_true (by omega:x.lo > 0)]; simp
         rw [if_neg (fun h=>hcan h.1)] at hnx
         repeat' ((conv=>whnf); first | refine sgo ⟨tab_ok⟩ ?_|refine br_not ?_|refine br_t rfl ?_|refine br_f rfl ?_|refine br_t (by assumption) ?_|refine br_f (by assumption) ?_|refine br_t (decide_eq_true (by assumption)) ?_|refine br_f (decide_eq_false (by assumption)) ?_|refine br_t (beq_iff_eq.2 (by assumption)) ?_|refine br_f (beq_eq_false_iff_ne.2 (by assumption)) ?_|refine drA (id:=18) ⟨tab_ok⟩ [31] ?_|refine kpt ?_|refine br_t (decide_eq_true (by omega)) ?_|refine br_f (decide_eq_false (by omega)) ?_|refine wr_i ?_|refine And.intro ?_ ?_|refine opiv ⟨tab_ok⟩ (by rfl) (by rfl) (by rfl) (by rfl) (by rfl) (by rfl) ⟨by omega,by omega⟩ ?_|refine opfv ⟨tab_ok⟩ (by rfl) (by rfl) (by rfl) (by rfl) ?_|refine puiv ⟨tab_ok⟩ (by rfl) (by rfl) (by rfl) (by rfl) (by rfl) (by rfl) ⟨by omega,by omega⟩ ?_|refine pufv ⟨tab_ok⟩ (by rfl) (by rfl) (by rfl) (by rfl) ?_|refine callS (f:=114) (.b (idB x)) (Rf.idleR x hp hu hd) ?_|refine callS (f:=139) (.i .i64 (fr x.un a.fm)) (hfa) ?_|refine back ⟨(k+1,v),by show k+1≤_; omega,by show v=_; rw [hnx]; exact hv⟩ (wk ?_) ?_|refine fin_s ?_|refine fin_r ?_ ?_|refine fin_e ?_ ?_)
         all_goals first | (show K.G.cars.length - (k+1) < K.G.cars.length - k; omega)|skip
         all_goals (repeat' (first | exact trivial | rfl | ((conv=>whnf); refine And.intro ?_ ?_)))
       ·have hcan:¬ canB x=true:=by unfold canB; simp [hi]
        have hi:idB x=false:=by simpa using hi
        rw [if_neg (fun h=>hcan h.1)] at hnx
        repeat' ((conv=>whnf); first | refine sgo ⟨tab_ok⟩ ?_|refine br_not ?_|refine br_t rfl ?_|refine br_f rfl ?_|refine br_t (by assumption) ?_|refine br_f (by assumption) ?_|refine br_t (decide_eq_true (by assumption)) ?_|refine br_f (decide_eq_false (by assumption)) ?_|refine br_t (beq_iff_eq.2 (by assumption)) ?_|refine br_f (beq_eq_false_iff_ne.2 (by assumption)) ?_|refine drA (id:=18) ⟨tab_ok⟩ [31] ?_|refine kpt ?_|refine br_t (decide_eq_true (by omega)) ?_|refine br_f (decide_eq_false (by omega)) ?_|refine wr_i ?_|refine And.intro ?_ ?_|refine opiv ⟨tab_ok⟩ (by rfl) (by rfl) (by rfl) (by rfl) (by rfl) (by rfl) ⟨by omega,by omega⟩ ?_|refine opfv ⟨tab_ok⟩ (by rfl) (by rfl) (by rfl) (by rfl) ?_|refine puiv ⟨tab_ok⟩ (by rfl) (by rfl) (by rfl) (by rfl) (by rfl) (by rfl) ⟨by omega,by omega⟩ ?_|refine pufv ⟨tab_ok⟩ (by rfl) (by rfl) (by rfl) (by rfl) ?_|refine callS (f:=114) (.b (idB x)) (Rf.idleR x hp hu hd) ?_|refine callS (f:=139) (.i .i64 (fr x.un a.fm)) (hfa) ?_|refine back ⟨(k+1,v),by show k+1≤_; omega,by show v=_; rw [hnx]; exact hv⟩ (wk ?_) ?_|refine fin_s ?_|refine fin_r ?_ ?_|refine fin_e ?_ ?_)
        all_goals first | (show K.G.cars.length - (k+1) < K.G.cars.length - k; omega)|skip
        all_goals (repeat' (first | exact trivial | rfl | ((conv=>whnf); refine And.intro ?_ ?_)))
      ·obtain rfl:k=K.G.cars.length:=by omega
       have hfi:K.Q.findIdx? (frA K)=some j:=List.findIdx?_eq_some_iff_getElem.2 ⟨hjl,by rw [hae]; exact hf,fun i hi=>by simpa using hno i hi (by omega)⟩
       have hga:K.Q.getD j ⟨0,0,0,0,0⟩=a:=by simp [List.getD,ha]
       have hnI:nearI K a.fm=v:=by unfold nearI; exact hv.symm
       by_cases hv0:v < 0
       ·have e:grR K=(K,[]):=by unfold grR; rw [hgq,hfi]; simp only [hga,hnI,if_pos hv0]
        rw [e,List.append_nil]
        repeat' ((conv=>whnf); first | refine sgo ⟨tab_ok⟩ ?_|refine br_not ?_|refine br_t rfl ?_|refine br_f rfl ?_|refine br_t (by assumption) ?_|refine br_f (by assumption) ?_|refine br_t (decide_eq_true (by assumption)) ?_|refine br_f (decide_eq_false (by assumption)) ?_|refine br_t (beq_iff_eq.2 (by assumption)) ?_|refine br_f (beq_eq_false_iff_ne.2 (by assumption)) ?_|refine kpt ?_|refine br_t (decide_eq_true (by omega)) ?_|refine br_f (decide_eq_false (by omega)) ?_|refine wr_i ?_|refine fin_cx 1 2 3 (p:=⟨q,g0,⟨some ⟨gc,0,none⟩,c1,A2,c2⟩,some ⟨gq,0,none⟩,cQ,AL,cL,AE,cE⟩) (p':=⟨q,g0,⟨some ⟨gc,0,none⟩,c1,A2,c2⟩,some ⟨gq,0,none⟩,cQ,AL,cL,AE,cE⟩) (by rfl) (by rfl) (by rfl) (by rfl) (by rfl) (by rfl) rfl rfl (by rfl) h0 h1 (Nat.le_refl _) (Nat.le_refl _) (Nat.le_refl _) (Nat.le_refl _) (by rfl) (by rfl)|refine fin_s ?_|refine fin_r ?_ ?_|refine fin_e ?_ ?_)
       ·obtain ⟨bt,y,rfl,hbl2,hy,_,hcy⟩:=hr2 (by omega)
        have e:grR K=(grtK K j bt a,[⟨a.se,⟨4,(bt:Int),0,0⟩⟩]):=by unfold grR; rw [hgq,hfi]; simp only [hga,hnI,if_neg hv0,Int.toNat_natCast]
        rw [e]
        unfold grtK
        have hcc:=take_cc K.G (bt:Int) a.fm
        have hle:(K.Q.eraseIdx j).length=K.Q.length - 1:=List.length_eraseIdx_of_lt hjl
        have hcap:K.Q.length≤cQ:=ask_cap hg.2.2.2.1
        have hG:∀ (G':GrV),G'=(takeR K.G (bt:Int) a.fm).1→∀ w1:World,Blk w1 g0 72 (grpA K.G (.slice (some ⟨gc,0,none⟩) K.G.cars.length c1) (.slice A2 K.G.waits.length c2))→(xo0 lo K ⟨q,g0,⟨some ⟨gc,0,none⟩,c1,A2,c2⟩,some ⟨gq,0,none⟩,cQ,AL,cL,AE,cE⟩ true).st w1→Calls Tryz.prog 47 #[.pointer (some ⟨g0,0,none⟩),.int .i64 (bt:Int),.int .i64 a.fm] w1 (Rg.RX lo g0 ⟨some ⟨gc,0,none⟩,c1,A2,c2⟩ w1 (.int .i64 (takeR K.G (bt:Int) a.fm).2) G'):=fun G' hG' w1 hB hA=>by
         rw [hG']; exact takeGR ⟨h1,hB,hA.1,hA.2⟩ (fun x hx=>(hk1 x hx).2.1) (bt:Int) a.fm
        obtain ⟨G',hG'⟩:∃ G',G'=(takeR K.G (bt:Int) a.fm).1:=⟨_,rfl⟩
        have hG:=hG G' hG'
        rw [← hG'] at hcc ⊢
        obtain ⟨tr,htr⟩:∃ tr,trV K.G.c=tr:=⟨_,rfl⟩
        rw [htr]
        have hnow:K.G.now=G'.now:=by rw [hG']; exact (Gr.take_w _ _).2.symm
        rw [hnow]
        repeat' ((conv=>whnf); first | refine sgo ⟨tab_ok⟩ ?_|refine br_not ?_|refine br_t rfl ?_|refine br_f rfl ?_|refine br_t (by assumption) ?_|refine br_f (by assumption) ?_|refine br_t (decide_eq_true (by assumption)) ?_|refine br_f (decide_eq_false (by assumption)) ?_|refine br_t (beq_iff_eq.2 (by assumption)) ?_|refine br_f (beq_eq_false_iff_ne.2 (by assumption)) ?_|refine drW (id:=21) ⟨tab_ok⟩ [] [(7,1)] ?_|refine drA (id:=22) ⟨tab_ok⟩ [] ?_|refine drA (id:=23) ⟨tab_ok⟩ [] ?_|refine kpt ?_|refine br_t (decide_eq_true (by omega)) ?_|refine br_f (decide_eq_false (by omega)) ?_|refine wr_i ?_|refine opiv ⟨tab_ok⟩ (by rfl) (by rfl) (by rfl) (by rfl) (by rfl) (by rfl) ⟨by omega,by omega⟩ ?_|refine opfv ⟨tab_ok⟩ (by rfl) (by rfl) (by rfl) (by rfl) ?_|refine puiv ⟨tab_ok⟩ (by rfl) (by rfl) (by rfl) (by rfl) (by rfl) (by rfl) ⟨by omega,by omega⟩ ?_|refine pufv ⟨tab_ok⟩ (by rfl) (by rfl) (by rfl) (by rfl) ?_|refine callRO (f:=47) 1 0 (A:=xo0 lo K ⟨q,g0,⟨some ⟨gc,0,none⟩,c1,A2,c2⟩,some ⟨gq,0,none⟩,cQ,AL,cL,AE,cE⟩ true) (ι:=RP) (fun _=>.i .i64 (takeR K.G (bt:Int) a.fm).2) (fun P'=>[.i .i64 G'.c.ca,.i .i64 G'.c.fl,.i .i64 G'.c.ft,.i .i64 G'.c.se,.i .i64 G'.c.dr,.i .i64 G'.c.dw,.i .i64 G'.c.ho,.i .i64 G'.c.re,.i .i64 G'.c.yi,.i .i64 G'.c.qu,.i .i64 G'.c.qo,.i .i64 G'.c.lo,.i .i64 G'.c.sl,.i .i64 G'.c.rt,.i .i64 G'.c.cp,.i .i64 G'.c.tr,.i .i64 G'.c.de,.i .i64 G'.c.wi,.v (.slice P'.A1 G'.cars.length P'.c1),.v (.slice P'.A2 G'.waits.length P'.c2),.i .i64 G'.now]) (fun P'=>pairO (carsO lo P'.A1 G'.cars.length P'.c1 G'.cars true) (waitsO lo P'.A2 G'.waits.length P'.c2 G'.waits true)) ?_ (fun P'=>?_)|refine opb0 askE (by rfl) Tryz.underlying95 (by kernel_rfl) (fun g4=>?_)|refine opao 4 1 (e:=46) (lo:=w.heap.size) (size:=5) (bytes:=40) (z:=.agg #[.int .i64 0,.int .i64 0,.int .i64 0,.int .i64 0,.int .i64 0]) (A:=rwO askE w.heap.size (some ⟨g4,0,none⟩) 0 0 [] true) (E:=rwO askE lo (some ⟨gq,0,none⟩) K.Q.length cQ K.Q true) (vals:=[]) (cells:=rowsOf askE.c (K.Q.take j)) (zs:=rowsOf askE.c (K.Q.take j)) (n2:=j) (fun A3 c3=>rwO askE w.heap.size A3 j c3 (K.Q.take j) true) (by rfl) (by rfl) (by rfl) (by rfl) (by rfl) rfl rfl (fun w h=>h) (fun A' c' w h=>h) (fun _ _=>rfl) (fun w1 h=>Ek.rd_take h rfl (by omega)) Tryz.underlying95 (by kernel_rfl) rfl (by decide) (by decide) (Ek.ones _ _) (by omega) (fun w hH=>hH.upd.size) (by omega) rfl (fun A3 c3=>?_)|refine opao 4 1 (e:=46) (lo:=w.heap.size) (size:=5) (bytes:=40) (z:=.agg #[.int .i64 0,.int .i64 0,.int .i64 0,.int .i64 0,.int .i64 0]) (A:=rwO askE w.heap.size A3 j c3 (K.Q.take j) true) (E:=rwO askE lo (some ⟨gq,0,none⟩) K.Q.length cQ K.Q true) (vals:=rowsOf askE.c (K.Q.take j)) (cells:=rowsOf askE.c (K.Q.drop (j+1))) (zs:=rowsOf askE.c (K.Q.eraseIdx j)) (n2:=(K.Q.eraseIdx j).length) (fun A4 c4=>rwO askE w.heap.size A4 (K.Q.eraseIdx j).length c4 (K.Q.eraseIdx j) true) (by rfl) (by rfl) (by rfl) (by rfl) (by rfl) rfl rfl (fun w h=>h) (fun A' c' w h=>h) (fun _ _=>rfl) (fun w1 h=>Ek.rd_drop h rfl (by omega)) Tryz.underlying95 (by kernel_rfl) rfl (by decide) (by decide) (Ek.ones _ _) (by omega) (fun w hH=>hH.upd.size) (by omega) (by rw [List.eraseIdx_eq_take_drop_succ,rowsOf_append]) (fun A4 c4=>?_)|refine pus_h ⟨tab_ok⟩ (h1:=j) (by rfl) (by rfl) (by rfl) (by rfl) (by rfl) (by rfl) ⟨rfl,(by show j≤cQ; omega)⟩ ?_|refine pus_l ⟨tab_ok⟩ (l:=j+1) (by rfl) (by rfl) (by rfl) (by rfl) (by rfl) (by rfl) ⟨by omega,(by show j+1≤K.Q.length; omega)⟩ ?_|refine opb0 leaE (by rfl) Tryz.underlying96 (by kernel_rfl) (fun g5=>?_)|refine opao 5 2 (e:=101) (lo:=w.heap.size) (size:=10) (bytes:=80) (z:=.agg #[.int .i64 0,.int .i64 0,.int .i64 0,.int .i64 0,.int .i64 0,.int .i64 0,.int .i64 0,.int .i64 0,.int .i64 0,.int .i64 0]) (A:=rwO leaE w.heap.size (some ⟨g5,0,none⟩) 0 0 [] true) (E:=rwO leaE lo AL K.L.length cL K.L true) (vals:=[]) (cells:=rowsOf leaE.c K.L) (zs:=rowsOf leaE.c K.L) (n2:=K.L.length) (fun A5 c5=>rwO leaE w.heap.size A5 K.L.length c5 K.L true) (by rfl) (by rfl) (by rfl) (by rfl) (by rfl) rfl rfl (fun w h=>h) (fun A' c' w h=>h) (fun _ _=>rfl) (fun w1 h=>own_reads h) Tryz.underlying96 (by kernel_rfl) rfl (by decide) (by decide) (Ek.ones _ _) (by omega) (fun w hH=>hH.upd.size) (by omega) rfl (fun A5 c5=>?_)|refine callS (f:=140) (.i .i64 tr) ((by have:=Lc.tripRT K.G.c; rw [htr] at this; exact this)) ?_|refine callS (f:=131) (.i .i64 (Tm.cl (Tm.cl G'.now+Tm.cl tr))) (addR G'.now tr) ?_|refine opb1 (e:=101) ⟨tab_ok⟩ [.i .i64 a.se,.i .i64 a.fl,.i .i64 a.fm,.i .i64 a.to,.i .i64 a.ma,.i .i64 (bt:Int),.i .i64 1,.i .i64 (Tm.cl (Tm.cl G'.now+Tm.cl tr)),.i .i64 0,.i .i64 G'.now] (by rfl) (by rfl) ?_|refine fin_s ?_|refine fin_r ?_ ?_|refine fin_e ?_ ?_)
        ·intro w1 hH hB hA hne
         refine (hG w1 hB hA).mono (fun e w' h=>?_)
         exact h.parts
        conv=>whnf
        intro b4
        repeat' ((conv=>whnf); first | refine sgo ⟨tab_ok⟩ ?_|refine br_not ?_|refine br_t rfl ?_|refine br_f rfl ?_|refine br_t (by assumption) ?_|refine br_f (by assumption) ?_|refine br_t (decide_eq_true (by assumption)) ?_|refine br_f (decide_eq_false (by assumption)) ?_|refine br_t (beq_iff_eq.2 (by assumption)) ?_|refine br_f (beq_eq_false_iff_ne.2 (by assumption)) ?_|refine kpt ?_|refine br_t (decide_eq_true (by omega)) ?_|refine br_f (decide_eq_false (by omega)) ?_|refine wr_i ?_|refine opap 5 3 (e:=101) (lo:=w.heap.size) (size:=10) (bytes:=80) (z:=.agg #[.int .i64 0,.int .i64 0,.int .i64 0,.int .i64 0,.int .i64 0,.int .i64 0,.int .i64 0,.int .i64 0,.int .i64 0,.int .i64 0]) (A:=rwO leaE w.heap.size A5 K.L.length c5 K.L true) (vals:=rowsOf leaE.c K.L) (cells:=leaE.c (⟨a.se,a.fl,a.fm,a.to,a.ma,(bt:Int),1,Tm.cl (Tm.cl G'.now+Tm.cl tr),0,G'.now⟩:LeaseV)) (zs:=rowsOf leaE.c (K.L++[(⟨a.se,a.fl,a.fm,a.to,a.ma,(bt:Int),1,Tm.cl (Tm.cl G'.now+Tm.cl tr),0,G'.now⟩:LeaseV)])) (n2:=(K.L++[(⟨a.se,a.fl,a.fm,a.to,a.ma,(bt:Int),1,Tm.cl (Tm.cl G'.now+Tm.cl tr),0,G'.now⟩:LeaseV)]).length) (fun A6 c6=>rwO leaE w.heap.size A6 (K.L++[(⟨a.se,a.fl,a.fm,a.to,a.ma,(bt:Int),1,Tm.cl (Tm.cl G'.now+Tm.cl tr),0,G'.now⟩:LeaseV)]).length c6 (K.L++[(⟨a.se,a.fl,a.fm,a.to,a.ma,(bt:Int),1,Tm.cl (Tm.cl G'.now+Tm.cl tr),0,G'.now⟩:LeaseV)]) true) (by rfl) (by rfl) (by rfl) (by rfl) rfl rfl (fun w h=>h) (fun A' c' w h=>h) (fun _ _=>rfl) (by rfl) (by rfl) (by rfl) (by rfl) Tryz.underlying96 (by kernel_rfl) rfl (by decide) (by decide) (leaE.one _) (by omega) (fun w hH=>hH.upd.size) (by simp) (by rw [rowsOf_append,rowsOf_one]) (fun A6 c6=>?_)|refine fin_s ?_|refine fin_r ?_ ?_|refine fin_e ?_ ?_)
        conv=>whnf
        have hx0:xcL (⟨G',K.Q.eraseIdx j,K.L++[(⟨a.se,a.fl,a.fm,a.to,a.ma,(bt:Int),1,Tm.cl (Tm.cl G'.now+Tm.cl tr),0,G'.now⟩:LeaseV)]⟩:KV) E.length (⟨q,g0,P',A4,c4,A6,c6,AE,cE⟩:XP)=xcL { K with Q:=K.Q.eraseIdx j,L:=K.L++[(⟨a.se,a.fl,a.fm,a.to,a.ma,(bt:Int),1,Tm.cl (Tm.cl G'.now+Tm.cl tr),0,G'.now⟩:LeaseV)] } E.length (⟨q,g0,P',A4,c4,A6,c6,AE,cE⟩:XP):=by simp only [xcL,hcc]
        refine call_hold _ [xo0 lo (⟨G',K.Q.eraseIdx j,K.L++[(⟨a.se,a.fl,a.fm,a.to,a.ma,(bt:Int),1,Tm.cl (Tm.cl G'.now+Tm.cl tr),0,G'.now⟩:LeaseV)]⟩:KV) (⟨q,g0,P',A4,c4,A6,c6,AE,cE⟩:XP) true,rwO askE lo A4 (K.Q.eraseIdx j).length c4 (K.Q.eraseIdx j) true,rwO leaE lo A6 (K.L++[(⟨a.se,a.fl,a.fm,a.to,a.ma,(bt:Int),1,Tm.cl (Tm.cl G'.now+Tm.cl tr),0,G'.now⟩:LeaseV)]).length c6 (K.L++[(⟨a.se,a.fl,a.fm,a.to,a.ma,(bt:Int),1,Tm.cl (Tm.cl G'.now+Tm.cl tr),0,G'.now⟩:LeaseV)]) true,rwO evE lo AE E.length cE E true] (Ext.refl _) (fun w1 hH=>hH.pick [0,4,5,3] (.cons (.same rfl) (.cons (.low rfl hlo) (.cons (.low rfl hlo) (.cons (.same rfl) .nil))))) (by rfl) ?_
        refine callC (f:=133) (⟨q,g0,P',A4,c4,A6,c6,AE,cE⟩:XP) (⟨G',K.Q.eraseIdx j,K.L++[(⟨a.se,a.fl,a.fm,a.to,a.ma,(bt:Int),1,Tm.cl (Tm.cl G'.now+Tm.cl tr),0,G'.now⟩:LeaseV)]⟩:KV) E (⟨G',K.Q.eraseIdx j,K.L++[(⟨a.se,a.fl,a.fm,a.to,a.ma,(bt:Int),1,Tm.cl (Tm.cl G'.now+Tm.cl tr),0,G'.now⟩:LeaseV)]⟩:KV) (E++[EvV.mk a.se ⟨4,(bt:Int),0,0⟩]) (.t []) (.tuple #[]) ?_ (fun x'=>?_) h0 h1 (hm:=by rw [hx0]; rfl)
        ·exact fun w1 _ hc=>sayR hc (by omega) a.se ⟨4,(bt:Int),0,0⟩
        ·repeat' ((conv=>whnf); first | refine sgo ⟨tab_ok⟩ ?_|refine br_not ?_|refine br_t rfl ?_|refine br_f rfl ?_|refine br_t (by assumption) ?_|refine br_f (by assumption) ?_|refine br_t (decide_eq_true (by assumption)) ?_|refine br_f (decide_eq_false (by assumption)) ?_|refine br_t (beq_iff_eq.2 (by assumption)) ?_|refine br_f (beq_eq_false_iff_ne.2 (by assumption)) ?_|refine kpt ?_|refine br_t (decide_eq_true (by omega)) ?_|refine br_f (decide_eq_false (by omega)) ?_|refine wr_i ?_|refine fin_cx 1 2 3 (p:=⟨q,g0,⟨some ⟨gc,0,none⟩,c1,A2,c2⟩,some ⟨gq,0,none⟩,cQ,AL,cL,AE,cE⟩) (p':={ x' with q:=q,g:=g0 }) (by rfl) (by rfl) (by rfl) (by rfl) (by rfl) (by rfl) rfl rfl (by rfl) h0 h1 (Nat.le_refl _) (Nat.le_refl _) (Nat.le_refl _) (Nat.le_refl _) (by rfl) (by rfl)|refine fin_s ?_|refine fin_r ?_ ?_|refine fin_e ?_ ?_)
     ·have hff:frA K a=false:=by simpa using hf
      have hcq:¬ cnt < quo:=by unfold frA at hff; rw [hcnt,hquo] at hff; exact of_decide_eq_false hff
      repeat' ((conv=>whnf); first | refine sgo ⟨tab_ok⟩ ?_|refine br_not ?_|refine br_t rfl ?_|refine br_f rfl ?_|refine br_t (by assumption) ?_|refine br_f (by assumption) ?_|refine br_t (decide_eq_true (by assumption)) ?_|refine br_f (decide_eq_false (by assumption)) ?_|refine br_t (beq_iff_eq.2 (by assumption)) ?_|refine br_f (beq_eq_false_iff_ne.2 (by assumption)) ?_|refine drA ⟨tab_ok⟩ [] ?_|refine kpt ?_|refine br_t (decide_eq_true (by omega)) ?_|refine br_f (decide_eq_false (by omega)) ?_|refine wr_i ?_|refine callH (f:=137) (.i .i64 cnt) (fun w1 hH=>by have:=countKR a.fl w1 (hob hH (A:=rwO leaE lo AL K.L.length cL K.L true) 2 rfl) rfl (by omega); rw [hcnt] at this; exact this) ?_|refine callS (f:=138) (.i .i64 quo) ((by have:=Lc.quotaT K.G.c; rw [hquo] at this; exact this)) ?_|refine back ⟨j+1,by omega,fun i hi hil=>(Nat.lt_succ_iff_lt_or_eq.1 hi).elim (fun h=>hno i h hil) (fun h=>by subst h; rw [hae]; exact hff)⟩ (wk ?_) ?_|refine fin_s ?_|refine fin_r ?_ ?_|refine fin_e ?_ ?_)
      all_goals first | (show K.Q.length - (j+1) < K.Q.length - j; omega)|skip
      all_goals (repeat' (first | exact trivial | rfl | ((conv=>whnf); refine And.intro ?_ ?_)))
    ·obtain rfl:j=K.Q.length:=by omega
     have e:grR K=(K,[]):=by
      have e2:K.Q.findIdx? (frA K)=none:=List.findIdx?_eq_none_iff.2 fun x hx=>by
       obtain ⟨i,hi,rfl⟩:=List.mem_iff_getElem.1 hx
       exact hno i (by omega) hi
      unfold grR; rw [hgq,e2]
     rw [e,List.append_nil]
     repeat' ((conv=>whnf); first | refine sgo ⟨tab_ok⟩ ?_|refine br_not ?_|refine br_t rfl ?_|refine br_f rfl ?_|refine br_t (by assumption) ?_|refine br_f (by assumption) ?_|refine br_t (decide_eq_true (by assumption)) ?_|refine br_f (decide_eq_false (by assumption)) ?_|refine br_t (beq_iff_eq.2 (by assumption)) ?_|refine br_f (beq_eq_false_iff_ne.2 (by assumption)) ?_|refine kpt ?_|refine br_t (decide_eq_true (by omega)) ?_|refine br_f (decide_eq_false (by omega)) ?_|refine wr_i ?_|refine fin_cx 1 2 3 (p:=⟨q,g0,⟨some ⟨gc,0,none⟩,c1,A2,c2⟩,AQ,cQ,AL,cL,AE,cE⟩) (p':=⟨q,g0,⟨some ⟨gc,0,none⟩,c1,A2,c2⟩,AQ,cQ,AL,cL,AE,cE⟩) (by rfl) (by rfl) (by rfl) (by rfl) (by rfl) (by rfl) rfl rfl (by rfl) h0 h1 (Nat.le_refl _) (Nat.le_refl _) (Nat.le_refl _) (Nat.le_refl _) (by rfl) (by rfl)|refine fin_s ?_|refine fin_r ?_ ?_|refine fin_e ?_ ?_)
   ·have e:grR K=(K,[]):=by unfold grR grQ; rw [if_neg (fun h=>h2 h.2)]
    rw [e,List.append_nil]
    have h2':¬ ((((K.G.cars.take K.G.cars.length).countP nrmC:Nat):Int) ≥ 2):=by rw [List.take_length]; omega
    repeat' ((conv=>whnf); first | refine sgo ⟨tab_ok⟩ ?_|refine br_not ?_|refine br_t rfl ?_|refine br_f rfl ?_|refine br_t (by assumption) ?_|refine br_f (by assumption) ?_|refine br_t (decide_eq_true (by assumption)) ?_|refine br_f (decide_eq_false (by assumption)) ?_|refine br_t (beq_iff_eq.2 (by assumption)) ?_|refine br_f (beq_eq_false_iff_ne.2 (by assumption)) ?_|refine kpt ?_|refine br_t (decide_eq_true (by omega)) ?_|refine br_f (decide_eq_false (by omega)) ?_|refine wr_i ?_|refine fin_cx 1 2 3 (p:=⟨q,g0,⟨A1,c1,A2,c2⟩,AQ,cQ,AL,cL,AE,cE⟩) (p':=⟨q,g0,⟨A1,c1,A2,c2⟩,AQ,cQ,AL,cL,AE,cE⟩) (by rfl) (by rfl) (by rfl) (by rfl) (by rfl) (by rfl) rfl rfl (by rfl) h0 h1 (Nat.le_refl _) (Nat.le_refl _) (Nat.le_refl _) (Nat.le_refl _) (by rfl) (by rfl)|refine fin_s ?_|refine fin_r ?_ ?_|refine fin_e ?_ ?_)
 ·have e:grR K=(K,[]):=by unfold grR grQ; rw [if_neg (fun h=>hcalm h.1)]
  have hcalm:calmB K=false:=by simpa using hcalm
  rw [e,List.append_nil]
  refine entH tab_ok (hold_cx true (fun _ g h=>h) hg) [.p 0 0] Tryz.func60 Tryz.ntmps60 rfl rfl ?_
  repeat' ((conv=>whnf); first | refine sgo ⟨tab_ok⟩ ?_|refine br_not ?_|refine br_t rfl ?_|refine br_f rfl ?_|refine br_t (by assumption) ?_|refine br_f (by assumption) ?_|refine br_t (decide_eq_true (by assumption)) ?_|refine br_f (decide_eq_false (by assumption)) ?_|refine br_t (beq_iff_eq.2 (by assumption)) ?_|refine br_f (beq_eq_false_iff_ne.2 (by assumption)) ?_|refine kpt ?_|refine callH (f:=136) (.b false) (fun w1 hH=>by have:=calmR (co_of (x:=⟨q,g0,⟨A1,c1,A2,c2⟩,AQ,cQ,AL,cL,AE,cE⟩) (K:=K) (E:=E) hH h0 h1) hlw hn hs; rw [hcalm] at this; exact this) ?_|refine fin_cx 1 2 3 (p:=⟨q,g0,⟨A1,c1,A2,c2⟩,AQ,cQ,AL,cL,AE,cE⟩) (p':=⟨q,g0,⟨A1,c1,A2,c2⟩,AQ,cQ,AL,cL,AE,cE⟩) (by rfl) (by rfl) (by rfl) (by rfl) (by rfl) (by rfl) rfl rfl (by rfl) h0 h1 (Nat.le_refl _) (Nat.le_refl _) (Nat.le_refl _) (Nat.le_refl _) (by rfl) (by rfl)|refine fin_s ?_|refine fin_r ?_ ?_|refine fin_e ?_ ?_)
end Rk
namespace Rk
open Go.RowKit Ba Mem En Go.Proofs.YtpiiblkiddcgcaaGreat.Ty Mo Go.Proofs.YtpiiblkiddcgcaaGreat.St Co
open Gr (GrV CarsAt WaitsAt carL waitL waitsO pairO grpA giveR aimR)
open Et (carsO car_at)
open Rg (RO RP FP)
open Ri (MsgV msgC aimF hearV)
open Qu (askE atS)
open Le (isS atP oI)
open Fl (leaE)
set_option maxRecDepth 100000
attribute [local irreducible] Go.Calls hearV
set_option maxHeartbeats 2000000
def hearCK (K:KV) (s:Int) (m:MsgV):KV×List EvV:=match atP K.L (isS s) with
 | some i=>(aftK K i (Le.ofL K.L s) (hearR K (Le.ofL K.L s) m).1 (hearR K (Le.ofL K.L s) m).2.2,evs (hearR K (Le.ofL K.L s) m).1.se (hearR K (Le.ofL K.L s) m).2.1.toList)
 | none=>(K,[⟨s,⟨7,0,0,0⟩⟩])
theorem hearCR {lo:Nat} {p:XP} {K:KV} {E:List EvV} {w:World} (hg:CO lo p K E w) (hl:K.L.length≤10000) (hlc:K.G.cars.length≤10000) (s:Int) (m:MsgV) (hin:∀ l∈K.L,inC K l) :
  Calls Tryz.prog 71 #[.pointer (some ⟨p.q,0,none⟩),.int .i64 s,.agg (msgC m)] w (CZ lo p w (outF (hearCK K s m).2.length) (hearCK K s m).1 (hearCK K s m).2):=by
 have h0:=hg.1
 have h1:=hg.2.2.1.1
 obtain ⟨q,g0,P,AQ,cQ,AL,cL,AE,cE⟩:=p
 unfold hearCK
 cases hP:atP K.L (isS s) with
 | none =>
  have hL:oI (atP K.L (isS s)) = -1:=by rw [hP]; rfl
  refine entH tab_ok (hold_cx true (fun _ g h=>h) hg) [.p 0 0,.i .i64 s,.a [.i .i64 m.ki,.i .i64 m.a,.i .i64 m.b,.i .i64 m.c]] Tryz.func71 Tryz.ntmps71 rfl rfl ?_
  repeat' ((conv=>whnf); first | refine sgo ⟨tab_ok⟩ ?_|refine br_not ?_|refine br_t rfl ?_|refine br_f rfl ?_|refine br_t (by assumption) ?_|refine br_f (by assumption) ?_|refine br_t (decide_eq_true (by assumption)) ?_|refine br_f (decide_eq_false (by assumption)) ?_|refine br_t (beq_iff_eq.2 (by assumption)) ?_|refine br_f (beq_eq_false_iff_ne.2 (by assumption)) ?_|refine kpt ?_|refine fin_s ?_|refine fin_r ?_ ?_|refine fin_e ?_ ?_)
  conv=>whnf
  intro b
  repeat' ((conv=>whnf); first | refine sgo ⟨tab_ok⟩ ?_|refine br_not ?_|refine br_t rfl ?_|refine br_f rfl ?_|refine br_t (by assumption) ?_|refine br_f (by assumption) ?_|refine br_t (decide_eq_true (by assumption)) ?_|refine br_f (decide_eq_false (by assumption)) ?_|refine br_t (beq_iff_eq.2 (by assumption)) ?_|refine br_f (beq_eq_false_iff_ne.2 (by assumption)) ?_|refine kpt ?_|refine fin_s ?_|refine fin_r ?_ ?_|refine fin_e ?_ ?_)
  conv=>whnf
  refine call_hold _ (xoO lo K [] ⟨q,g0,P,AQ,cQ,AL,cL,none,0⟩ true) (Ext.refl _) (fun w1 hH=>hH.pick [0,1,2,3] (.cons (.same rfl) (.cons (.same rfl) (.cons (.same rfl) (.cons (.none (by rfl)) .nil))))) (by rfl) ?_
  repeat' ((conv=>whnf); first | refine sgo ⟨tab_ok⟩ ?_|refine br_not ?_|refine br_t rfl ?_|refine br_f rfl ?_|refine br_t (by assumption) ?_|refine br_f (by assumption) ?_|refine br_t (decide_eq_true (by assumption)) ?_|refine br_f (decide_eq_false (by assumption)) ?_|refine br_t (beq_iff_eq.2 (by assumption)) ?_|refine br_f (beq_eq_false_iff_ne.2 (by assumption)) ?_|refine kpt ?_|refine br_t (decide_eq_true (by omega)) ?_|refine br_f (decide_eq_false (by omega)) ?_|refine wr_i ?_|refine callH (f:=146) (.i .i64 (-1)) (fun w1 hH=>by have:=ofR (co_of (x:=⟨q,g0,P,AQ,cQ,AL,cL,none,0⟩) (K:=K) (E:=[]) hH h0 h1) hl s; rw [hL] at this; exact this) ?_|refine callC (f:=133) ⟨q,g0,P,AQ,cQ,AL,cL,none,0⟩ K [] K [EvV.mk s ⟨7,0,0,0⟩] (.t []) (.tuple #[]) ?_ (fun x'=>?_) h0 h1 | refine fin_cz 1 2 3 (p:=⟨q,g0,P,AQ,cQ,AL,cL,AE,cE⟩) (p':={ x' with q:=q,g:=g0 }) (by rfl) (by rfl) (by rfl) (by rfl) (by rfl) (by rfl) rfl rfl (by rfl) h0 h1 (Nat.le_refl _) (Nat.le_refl _) (Nat.le_refl _) (Nat.le_refl _) (by rfl) (by rfl)|refine fin_s ?_|refine fin_r ?_ ?_|refine fin_e ?_ ?_)
  exact fun w1 _ hc=>sayR hc (Nat.zero_le _) s ⟨7,0,0,0⟩
 | some i =>
  obtain ⟨hi,_,_⟩:=Le.atP_some hP
  obtain ⟨l,hx⟩:∃ l,K.L[i]?=some l:=⟨_,List.getElem?_eq_getElem hi⟩
  have hof:Le.ofL K.L s=l:=by unfold Le.ofL Le.atV; rw [hP]; simp [List.getD,hx]
  have hL:oI (atP K.L (isS s))=(i:Int):=by rw [hP]; rfl
  have hic:=hin l (List.mem_of_getElem? hx)
  obtain ⟨kc,hka⟩:∃ kc:Nat,l.ca=(kc:Int):=⟨_,(Int.toNat_of_nonneg hic.1).symm⟩
  have hxc:=hic.at_
  rw [hka] at hxc
  have hxc:K.G.cars[kc]?=some (carAt K l):=by simpa using hxc
  obtain ⟨hkl,_⟩:=List.getElem?_eq_some_iff.1 hxc
  obtain ⟨c,hc0⟩:∃ c,carAt K l=c:=⟨_,rfl⟩
  simp only [hof]
  obtain ⟨r,hr⟩:∃ r,hearR K l m=r:=⟨_,rfl⟩
  have hr2:hearV K.G.c l c K.G.now m=r:=by rw [← hr,← hc0]; unfold hearR; rfl
  rw [hr]
  rw [hc0] at hxc
  obtain ⟨g,hA⟩:=Ek.addr hg.2.2.2.2.1
  obtain rfl:AL=some ⟨g,0,none⟩:=hA (by omega)
  obtain ⟨A1,c1,A2,c2⟩:=P
  obtain ⟨gc,hgA⟩:=own_addr hg.2.2.1.2.2.1 (by omega)
  obtain rfl:A1=some ⟨gc,0,none⟩:=hgA
  have hrl:r.2.1.toList.length≤1:=by cases r.2.1 <;> simp
  refine entH tab_ok (hold_cx true (fun _ g h=>h) hg) [.p 0 0,.i .i64 s,.a [.i .i64 m.ki,.i .i64 m.a,.i .i64 m.b,.i .i64 m.c]] Tryz.func71 Tryz.ntmps71 rfl rfl ?_
  repeat' ((conv=>whnf); first | refine sgo ⟨tab_ok⟩ ?_|refine br_not ?_|refine br_t rfl ?_|refine br_f rfl ?_|refine br_t (by assumption) ?_|refine br_f (by assumption) ?_|refine br_t (decide_eq_true (by assumption)) ?_|refine br_f (decide_eq_false (by assumption)) ?_|refine br_t (beq_iff_eq.2 (by assumption)) ?_|refine br_f (beq_eq_false_iff_ne.2 (by assumption)) ?_|refine kpt ?_|refine fin_s ?_|refine fin_r ?_ ?_|refine fin_e ?_ ?_)
  conv=>whnf
  intro b
  repeat' ((conv=>whnf); first | refine sgo ⟨tab_ok⟩ ?_|refine br_not ?_|refine br_t rfl ?_|refine br_f rfl ?_|refine br_t (by assumption) ?_|refine br_f (by assumption) ?_|refine br_t (decide_eq_true (by assumption)) ?_|refine br_f (decide_eq_false (by assumption)) ?_|refine br_t (beq_iff_eq.2 (by assumption)) ?_|refine br_f (beq_eq_false_iff_ne.2 (by assumption)) ?_|refine kpt ?_|refine fin_s ?_|refine fin_r ?_ ?_|refine fin_e ?_ ?_)
  conv=>whnf
  refine call_hold _ (xoO lo K [] ⟨q,g0,⟨some ⟨gc,0,none⟩,c1,A2,c2⟩,AQ,cQ,some ⟨g,0,none⟩,cL,none,0⟩ true) (Ext.refl _) (fun w1 hH=>hH.pick [0,1,2,3] (.cons (.same rfl) (.cons (.same rfl) (.cons (.same rfl) (.cons (.none (by rfl)) .nil))))) (by rfl) ?_
  repeat' ((conv=>whnf); first | refine sgo ⟨tab_ok⟩ ?_|refine br_not ?_|refine br_t rfl ?_|refine br_f rfl ?_|refine br_t (by assumption) ?_|refine br_f (by assumption) ?_|refine br_t (decide_eq_true (by assumption)) ?_|refine br_f (decide_eq_false (by assumption)) ?_|refine br_t (beq_iff_eq.2 (by assumption)) ?_|refine br_f (beq_eq_false_iff_ne.2 (by assumption)) ?_|refine kpt ?_|refine br_t (decide_eq_true (by omega)) ?_|refine br_f (decide_eq_false (by omega)) ?_|refine wr_i ?_|refine callH (f:=146) (.i .i64 (i:Int)) (fun w1 hH=>by have:=ofR (co_of (x:=⟨q,g0,⟨some ⟨gc,0,none⟩,c1,A2,c2⟩,AQ,cQ,some ⟨g,0,none⟩,cL,none,0⟩) (K:=K) (E:=[]) hH h0 h1) hl s; rw [hL] at this; exact this) ?_|refine fin_s ?_|refine fin_r ?_ ?_|refine fin_e ?_ ?_)
  conv=>whnf
  refine sm_meet (ι:=NrA w.heap.size×Nat) (fun y=>⟨[(0,.p 0 0),(7,.i .i64 (i:Int)),(8,.p 3 0),(9,.v (.slice y.1.1.2.1 r.2.1.toList.length y.1.1.2.2)),(10,.b r.2.2)],[⟨q,98,true,0,[],xcL K 0 ⟨q,g0,⟨some ⟨gc,0,none⟩,c1,A2,c2⟩,AQ,cQ,some ⟨g,0,none⟩,cL,none,0⟩,[],true⟩,⟨g0,72,true,0,[],grS K ⟨q,g0,⟨some ⟨gc,0,none⟩,c1,A2,c2⟩,AQ,cQ,some ⟨g,0,none⟩,cL,none,0⟩,[],true⟩,⟨b,48,true,0,[],[.i .i64 m.ki,.i .i64 m.a,.i .i64 m.b,.i .i64 m.c],[],true⟩,⟨y.2,101,true,0,[],[.i .i64 r.1.se,.i .i64 r.1.fl,.i .i64 r.1.fm,.i .i64 r.1.to,.i .i64 r.1.ma,.i .i64 r.1.ca,.i .i64 r.1.ph,.i .i64 r.1.un,.i .i64 r.1.re,.i .i64 r.1.gr],[],true⟩],xoO lo K [] ⟨q,g0,⟨some ⟨gc,0,none⟩,c1,A2,c2⟩,AQ,cQ,some ⟨g,0,none⟩,cL,none,0⟩ true++[rwO msgE y.1.1.1 y.1.1.2.1 r.2.1.toList.length y.1.1.2.2 r.2.1.toList true]⟩) ?_ (fun y=>?_)
  ·repeat' ((conv=>whnf); first | refine sgo ⟨tab_ok⟩ ?_|refine br_not ?_|refine br_t rfl ?_|refine br_f rfl ?_|refine br_t (by assumption) ?_|refine br_f (by assumption) ?_|refine br_t (decide_eq_true (by assumption)) ?_|refine br_f (decide_eq_false (by assumption)) ?_|refine br_t (beq_iff_eq.2 (by assumption)) ?_|refine br_f (beq_eq_false_iff_ne.2 (by assumption)) ?_|refine drA (id:=6) ⟨tab_ok⟩ [10,25,27] ?_|refine kpt ?_|refine br_t (decide_eq_true (by omega)) ?_|refine br_f (decide_eq_false (by omega)) ?_|refine wr_i ?_|refine And.intro ?_ ?_|refine puiv ⟨tab_ok⟩ (by rfl) (by rfl) (by rfl) (by rfl) (by rfl) (by rfl) ⟨by omega,by omega⟩ ?_|refine pufv ⟨tab_ok⟩ (by rfl) (by rfl) (by rfl) (by rfl) ?_|refine opix (g:=g) (off:=0+i*10) [.i .i64 l.se,.i .i64 l.fl,.i .i64 l.fm,.i .i64 l.to,.i .i64 l.ma,.i .i64 l.ca,.i .i64 l.ph,.i .i64 l.un,.i .i64 l.re,.i .i64 l.gr] (fun w1 hH=>Ek.rng (hob hH (A:=rwO leaE lo (some ⟨g,0,none⟩) K.L.length cL K.L true) 2 rfl) hx) ⟨tab_ok⟩ (by rfl) (by rfl) (by first | (simp only [Go.WideShapes.add_plain]; done)|(simp only [Go.WideShapes.add_plain]; rfl)) ?_|refine opxc (g:=g) (off:=0+i*10+5) (.i .i64 l.ca) (fun w1 hH=>cell_k (k:=5) (Ek.rng (hob hH (A:=rwO leaE lo (some ⟨g,0,none⟩) K.L.length cL K.L true) 2 rfl) hx) rfl) ⟨tab_ok⟩ (by rfl) (by rfl) (by first | (simp only [Go.WideShapes.add_plain]; done)|(simp only [Go.WideShapes.add_plain]; rfl)) ?_|refine opix (g:=gc) (off:=0+kc*15) (sCar c) (fun w1 hH=>car_at (hob hH (A:=xo0 lo K ⟨q,g0,⟨some ⟨gc,0,none⟩,c1,A2,c2⟩,AQ,cQ,some ⟨g,0,none⟩,cL,none,0⟩ true) 0 rfl).1 hxc) ⟨tab_ok⟩ (by rfl) (by rfl) (by show Addr.add ⟨_,0,none⟩ (l.ca.toNat*15)=_; rw [hka,Int.toNat_natCast,Go.WideShapes.add_plain]) ?_|refine callN (f:=149) (ι:=NrA w.heap.size) (fun x=>.t [.a [.i .i64 r.1.se,.i .i64 r.1.fl,.i .i64 r.1.fm,.i .i64 r.1.to,.i .i64 r.1.ma,.i .i64 r.1.ca,.i .i64 r.1.ph,.i .i64 r.1.un,.i .i64 r.1.re,.i .i64 r.1.gr],.v (.slice x.1.2.1 r.2.1.toList.length x.1.2.2),.b r.2.2]) (fun x=>rwO msgE x.1.1 x.1.2.1 r.2.1.toList.length x.1.2.2 r.2.1.toList true) (fun w1 hH=>saidN (by have:=hearKR K.G.c l c K.G.now m w1; rw [hr2] at this; exact this) hH.upd.size) (fun ms=>?_)|intro b4 | refine meet (ms,b4) (wk ?_)|refine fin_s ?_|refine fin_r ?_ ?_|refine fin_e ?_ ?_)
   all_goals (repeat' (first | exact trivial | rfl | ((conv=>whnf); refine And.intro ?_ ?_)))
  ·repeat' ((conv=>whnf); first | refine sgo ⟨tab_ok⟩ ?_|refine br_not ?_|refine br_t rfl ?_|refine br_f rfl ?_|refine br_t (by assumption) ?_|refine br_f (by assumption) ?_|refine br_t (decide_eq_true (by assumption)) ?_|refine br_f (decide_eq_false (by assumption)) ?_|refine br_t (beq_iff_eq.2 (by assumption)) ?_|refine br_f (beq_eq_false_iff_ne.2 (by assumption)) ?_|refine kpt ?_|refine br_t (decide_eq_true (by omega)) ?_|refine br_f (decide_eq_false (by omega)) ?_|refine wr_i ?_|refine callC (f:=59) ⟨q,g0,⟨some ⟨gc,0,none⟩,c1,A2,c2⟩,AQ,cQ,some ⟨g,0,none⟩,cL,none,0⟩ K [] (aftK K i l r.1 r.2.2) (evs r.1.se r.2.1.toList) (.t []) (.tuple #[]) ?_ (fun x'=>?_) h0 h1 | refine fin_cz 1 2 3 (p:=⟨q,g0,⟨some ⟨gc,0,none⟩,c1,A2,c2⟩,AQ,cQ,some ⟨g,0,none⟩,cL,AE,cE⟩) (p':={ x' with q:=q,g:=g0 }) (by rfl) (by rfl) (by rfl) (by rfl) (by rfl) (by rfl) rfl rfl (by rfl) h0 h1 (Nat.le_refl _) (Nat.le_refl _) (Nat.le_refl _) (Nat.le_refl _) (by rfl) (by rfl)|refine fin_s ?_|refine fin_r ?_ ?_|refine fin_e ?_ ?_)
   exact fun w1 hH hc=>afterKR hc hl (hob hH (A:=rwO msgE y.1.1.1 y.1.1.2.1 r.2.1.toList.length y.1.1.2.2 r.2.1.toList true) 4 rfl) rfl (by show 0+_≤10000; omega) hx r.1 r.2.2
end Rk
namespace Rk
open Go.RowKit Ba Mem En Go.Proofs.YtpiiblkiddcgcaaGreat.Ty Co
open Ri (MsgV)
open Qu (atS oQ oM putE putL)
open Le (isS atP oI hasL)
open Fl (mayB)
open Ce
open Lc (key hearV_key)
theorem oI_ge (y:Option Nat):0≤oI y↔y.isSome=true:=by
 cases y with
 | none=>exact ⟨fun h=>absurd h (by rw [Le.oI_none]; decide),fun h=>by cases h⟩
 | some k=>exact ⟨fun _=>rfl,fun _=>by rw [Le.oI_some]; omega⟩
theorem oQ_ge2 (y:Option Nat):0≤oQ y↔y.isSome=true:=by
 cases y with
 | none=>exact ⟨fun h=>absurd h (by decide),fun h=>by cases h⟩
 | some k=>exact ⟨fun _=>rfl,fun _=>by show (0:Int)≤(k:Int); omega⟩
theorem atS_new {ls:List AskV} {a:AskV} (h:(atS ls a.se).isSome=false):oM (atS (ls++[a]) a.se)=(ls.length:Int):=by
 have hn:atS ls a.se=none:=by cases e:atS ls a.se with | none=>rfl | some k=>rw [e] at h; cases h
 have e:atS (ls++[a]) a.se=some ls.length:=by
  unfold atS at hn ⊢
  rw [List.findIdx?_append,hn]
  simp [Qu.isS]
 rw [e]; rfl
theorem ask_same (K:KV) (a:AskV):askMR K a=ansM K a∧askQR K a=ansQ K a:=by
 unfold askMR askQR ansM ansQ putL putE hasL
 by_cases hm:mayB K.G.c a=true
 ·simp only [hm,if_true,oI_ge,oQ_ge2]
  cases h1:(atP K.L (isS a.se)).isSome with
  | true=>simp
  | false =>
   cases h2:(atS K.Q a.se).isSome with
   | true=>simp
   | false =>
    by_cases h3:room K≤(K.Q.length:Int)
    ·simp [h3]
    ·simp [h3,atS_new h2]
 ·simp [hm]
theorem atT_of {ls:List LeaseV} {s:Int} {i:Nat} {l0 x:LeaseV} (h:atP ls (isS s)=some i) (hx:ls[i]?=some l0) (hs:x.se=s) (hc:l0.ca=x.ca) (hf:l0.fl=x.fl):atP ls (Le.isT x)=some i:=by
 obtain ⟨hi,h1,h2⟩:=Le.atP_some h
 obtain ⟨_,hxe⟩:=List.getElem?_eq_some_iff.1 hx
 have h1:=h1 hi
 rw [hxe] at h1
 have hse:l0.se=s:=by simpa [isS] using h1
 refine List.findIdx?_eq_some_iff_getElem.2 ⟨hi, ?_,fun j hj=>?_⟩
 ·rw [hxe]; simp [Le.isT,hse,hs,hc,hf]
 ·have:=h2 j hj (by omega)
  simp only [isS] at this
  simp only [Le.isT,hs,this,Bool.false_and]
  decide
theorem aft_same {K:KV} {s:Int} {i:Nat} {l0 x:LeaseV} (h:atP K.L (isS s)=some i) (hx:K.L[i]?=some l0) (hs:x.se=s) (hc:l0.ca=x.ca) (hf:l0.fl=x.fl) (o:Bool) (hg:o=false→Le.goodB K.G.c x=true):aftK K i l0 x o=setK K x o:=by
 cases o with
 | true =>
  rw [aft_t]
  unfold setK
  rw [if_pos rfl,hs,end_at h hx]
 | false =>
  rw [aft_f]
  unfold setK Le.setL
  rw [if_neg (by decide),if_pos (hg rfl),atT_of h hx hs hc hf]
theorem hear_same {K:KV} {s:Int} {m:MsgV} (hg:hasL K.L s=true→Le.goodB K.G.c (hearR K (Le.ofL K.L s) m).1=true):hearCK K s m=(hearK K s m,evs s (hearM K s m)):=by
 unfold hearCK hearK hearM
 cases h:atP K.L (isS s) with
 | none =>
  have hl:hasL K.L s=false:=by unfold hasL; rw [h]; rfl
  rw [hl]; rfl
 | some i =>
  have hl:hasL K.L s=true:=by unfold hasL; rw [h]; rfl
  obtain ⟨hi,h1,_⟩:=Le.atP_some h
  obtain ⟨l0,hx⟩:∃ l0,K.L[i]?=some l0:=⟨_,List.getElem?_eq_getElem hi⟩
  obtain ⟨_,hxe⟩:=List.getElem?_eq_some_iff.1 hx
  have h1:=h1 hi
  rw [hxe] at h1
  have hse:l0.se=s:=by simpa [isS] using h1
  have hof:Le.ofL K.L s=l0:=by unfold Le.ofL Le.atV; rw [h]; simp [List.getD,hx]
  have hg:=hg hl
  rw [hof] at hg
  have hk:key (hearR K l0 m).1=key l0:=by unfold hearR; exact hearV_key _ _
  have hk1:(hearR K l0 m).1.se=s:=by have:=congrArg Prod.fst hk; simp only [key] at this; rw [← hse]; exact this
  simp only [hof,hl,if_true]
  rw [aft_same h hx hk1 ?_ ?_ _ (fun _=>hg),hk1]
  ·have:=hk; simp only [key,Prod.mk.injEq] at this; omega
  ·have:=hk; simp only [key,Prod.mk.injEq] at this; omega
theorem calm_cnt (K:KV):calmB K=true↔K.G.waits.countP (oldW K)=0:=by
 unfold calmB
 rw [List.all_eq_true,List.countP_eq_zero]
 constructor
 ·intro h a ha; simpa using h a ha
 ·intro h a ha; simpa using h a ha
theorem pf_calm (K:KV):pfB K=false↔(calmB K=true∧2≤K.G.cars.countP nrmC):=by
 rw [calm_cnt]
 unfold pfB
 simp only [Bool.or_eq_false_iff,decide_eq_false_iff_not]
 omega
theorem grq_pf {K:KV} (h:pfB K=true):grQ K=none:=by
 unfold grQ
 rw [if_neg (fun k=>by rw [(pf_calm K).2 k] at h; cases h)]
theorem grq_no {K:KV} (h:pfB K=false):grQ K=K.Q.findIdx? (frA K):=by
 unfold grQ
 rw [if_pos ((pf_calm K).1 h)]
theorem full_mem (K:KV) (f:Int):∀ k:Nat,f∈fullL K k↔(0≤f∧f < (k:Int)∧Fl.freeB K.G.c K.L f=false)
 | 0=>Iff.intro (fun h=>absurd h List.not_mem_nil) (fun h=>by have:=h.2.1; omega)
 | k+1=>by
  unfold fullL
  have ih:=full_mem K f k
  by_cases hf:Fl.freeB K.G.c K.L (k:Int)=true
  ·rw [if_pos hf,ih]
   refine ⟨fun h=>⟨h.1,by omega,h.2.2⟩,fun h=>⟨h.1, ?_,h.2.2⟩⟩
   by_cases e:f=(k:Int)
   ·rw [e,hf] at h; cases h.2.2
   ·omega
  ·rw [if_neg hf,List.mem_append,List.mem_singleton,ih]
   refine ⟨fun h=>?_,fun h=>?_⟩
   ·rcases h with h | rfl
    ·exact ⟨h.1,by omega,h.2.2⟩
    ·exact ⟨by omega,by omega,by simpa using hf⟩
   ·by_cases e:f=(k:Int)
    ·exact .inr e
    ·exact .inl ⟨h.1,by omega,h.2.2⟩
theorem fr_ok {K:KV} {a:AskV} (h:0≤a.fl∧a.fl < 8):frA K a=Qu.okF (fullL K 8) a:=by
 have e:(Qu.atI (fullL K 8) a.fl).isSome=true↔a.fl∈fullL K 8:=by
  unfold Qu.atI
  rw [List.findIdx?_isSome,List.any_eq_true]
  constructor
  ·rintro ⟨x,hx,h⟩
   have:x=a.fl:=by simpa using h
   rw [← this]; exact hx
  ·intro h; exact ⟨_,h,by simp⟩
 have e2:frA K a=Fl.freeB K.G.c K.L a.fl:=rfl
 rw [full_mem] at e
 unfold Qu.okF
 rw [e2]
 cases hb:Fl.freeB K.G.c K.L a.fl with
 | true =>
  cases hs:(Qu.atI (fullL K 8) a.fl).isSome with
  | true=>have:=(e.1 hs).2.2; rw [hb] at this; cases this
  | false=>rfl
 | false=>rw [e.2 ⟨h.1,by omega,hb⟩]; rfl
theorem fi_congr {α:Type} {p q:α→Bool}:∀ {l:List α},(∀ a∈l,p a=q a)→l.findIdx? p=l.findIdx? q
 | [],_=>rfl
 | x::l,h=>by
  rw [List.findIdx?_cons,List.findIdx?_cons,h x (List.mem_cons_self ..),fi_congr (l:=l) (fun a ha=>h a (List.mem_cons_of_mem _ ha))]
theorem gr_same {K:KV} (hfl:∀ a∈K.Q,0≤a.fl∧a.fl < 8) (hS:∀ (q:Nat) (a:AskV),K.Q[q]?=some a→atS K.Q a.se=some q) (hput:∀ a,grA K=some a→Le.putE K.G.c K.L (grL K a)=0):grR K=(grantK K,grantE K):=by
 cases hp:pfB K with
 | true =>
  have e:grA K=none:=by unfold grA; rw [hp]; rfl
  unfold grR grantK grantE
  rw [grq_pf hp,e]
 | false =>
  have hq:grQ K=Qu.atF K.Q (fullL K 8):=by
   rw [grq_no hp]; unfold Qu.atF
   exact fi_congr fun a ha=>fr_ok (hfl a ha)
  cases h:Qu.atF K.Q (fullL K 8) with
  | none =>
   have e:grA K=none:=by unfold grA; rw [hp,h]; rfl
   unfold grR grantK grantE
   rw [hq,h,e]
  | some q =>
   obtain ⟨hk,_,_⟩:=Qu.atF_some h
   obtain ⟨a,ha⟩:∃ a,K.Q[q]?=some a:=⟨_,List.getElem?_eq_getElem hk⟩
   have hga:K.Q.getD q ⟨0,0,0,0,0⟩=a:=by simp [List.getD,ha]
   have hfa:Qu.firstA K.Q (fullL K 8)=a:=by unfold Qu.firstA; rw [h]; exact hga
   by_cases hn:nearI K a.fm < 0
   ·have e:grA K=none:=by unfold grA; simp [hp,h,hfa,hn]
    unfold grR grantK grantE
    rw [hq,h,e]
    simp only [hga,if_pos hn]
   ·have e:grA K=some a:=by unfold grA; simp [hp,h,hfa,hn]
    have hput:=hput a e
    unfold grR grantK grantE
    rw [hq,h,e]
    simp only [hga,if_neg hn]
    have hb:(((nearI K a.fm).toNat:Nat):Int)=nearI K a.fm:=Int.toNat_of_nonneg (by omega)
    unfold grtK grK Le.putL Qu.dropL
    rw [hS q a ha,if_pos hput,hb]
    rfl
end Rk
namespace Rk
open Go.RowKit Ba Mem En Go.Proofs.YtpiiblkiddcgcaaGreat.Ty Co Ce
open Le (isS atP)
open Lc (key KR UQ Bn LI tickV_key set_now)
theorem at_uq {K:KV} (h:UQ K) {i:Nat} {l:LeaseV} (hx:K.L[i]?=some l):atP K.L (isS l.se)=some i:=by
 obtain ⟨hi,hxe⟩:=List.getElem?_eq_some_iff.1 hx
 refine List.findIdx?_eq_some_iff_getElem.2 ⟨hi,by rw [hxe]; simp [isS],fun j hj=>?_⟩
 have hp:=List.pairwise_iff_getElem.1 h.l j i (by rw [List.length_map]; omega) (by rw [List.length_map]; exact hi) hj
 rw [List.getElem_map,List.getElem_map,hxe] at hp
 have h1:K.L[j].se≠l.se:=hp.1
 simp [isS,h1]
theorem aft_drop {K:KV} {i:Nat} {l0 l:LeaseV} (hi:i < K.L.length) (o:Bool):(aftK K i l0 l o).L.drop (if o=true then i else i+1)=K.L.drop (i+1):=by
 cases o with
 | true =>
  rw [aft_t,if_pos rfl]
  show (K.L.eraseIdx i).drop i=_
  rw [List.eraseIdx_eq_take_drop_succ]
  exact List.drop_left' (by rw [List.length_take]; omega)
 | false =>
  rw [aft_f,if_neg (by decide)]
  show (K.L.set i l).drop (i+1)=_
  exact List.drop_set_of_lt (by omega)
theorem aft_len {K:KV} {i:Nat} {l0 l:LeaseV} (hi:i < K.L.length) (o:Bool):(aftK K i l0 l o).L.length - (if o=true then i else i+1)=K.L.length - (i+1):=by
 have:=congrArg List.length (aft_drop (l0:=l0) (l:=l) hi o)
 rwa [List.length_drop,List.length_drop] at this
end Rk
namespace Lc
open Go.RowKit Ba Mem En Go.Proofs.YtpiiblkiddcgcaaGreat.Ty Mo Go.Proofs.YtpiiblkiddcgcaaGreat.St Co
open Ri (MsgV tickV hearV trV sp rn mayRe opB aimF)
open Qu (dropL atS btw firstA atF)
open Le (hasL ofL setL setE endL zeroL atP isS isT isP goodB)
open Fl (cn)
open Gr (GrV loadR one giveR aimR takeR giveC tickG hasF)
open Ct (tkV)
structure SM (x y:CarV):Prop where
 mo:y.mo=x.mo
 ta:y.ta=x.ta
 ho:y.ho=x.ho
 ds:y.ds=x.ds
 un:y.un=x.un
theorem SM.op {x y:CarV} (h:SM x y) (f:Int):opB y f=opB x f:=by unfold opB; rw [h.ds,h.un]
def SG (G G':GrV):Prop:=G'.cars.length=G.cars.length∧∀ (i:Nat) (x:CarV),G.cars[i]?=some x→∃ y,G'.cars[i]?=some y∧SM x y
theorem SG.refl (G:GrV):SG G G:=⟨rfl,fun i x h=>⟨x,h,rfl,rfl,rfl,rfl,rfl⟩⟩
theorem SG.one {G:GrV} (i:Int) (f:CarV→CarV×Int) (hf:∀ x,SM x (f x).1):SG G (Gr.one G i f).1 :=
 ⟨Gr.one_same.2.2.2,fun k x h=>⟨_,Gr.one_at h,by split; exact hf x; exact ⟨rfl,rfl,rfl,rfl,rfl⟩⟩⟩
theorem gdo_sg (G:GrV) (o:KopV):SG G (gdo G o):=by
 unfold gdo; split
 ·unfold Gr.doR
  split
  ·unfold Gr.hallR; split
   ·split <;> exact ⟨rfl,fun i x h=>⟨x,h,rfl,rfl,rfl,rfl,rfl⟩⟩
   ·exact SG.refl _
  split
  ·unfold Gr.pressR; split
   ·exact SG.one _ _ (fun x=>by show SM x (Gr.pressX _ x); unfold Gr.pressX; split <;> exact ⟨rfl,rfl,rfl,rfl,rfl⟩)
   ·exact SG.refl _
  split
  ·exact SG.one _ _ (fun x=>⟨rfl,rfl,rfl,rfl,rfl⟩)
  split
  ·exact SG.one _ _ (fun x=>⟨rfl,rfl,rfl,rfl,rfl⟩)
  split
  ·unfold Gr.faultR; split
   ·split
    ·have:=SG.one (G:=G) o.a (fun x=>(Gr.fltX x,0)) (fun x=>⟨rfl,rfl,rfl,rfl,rfl⟩)
     exact ⟨this.1,this.2⟩
    ·exact SG.refl _
   ·exact SG.one _ _ (fun x=>⟨rfl,rfl,rfl,rfl,rfl⟩)
  omega
 ·exact SG.refl _
structure HB (rest:List LeaseV) (x:CarV) (l:LeaseV):Prop where
 mo:x.mo=1
 ta:x.ta=aimF l
 ho:x.ho=true
 op:(l∈rest→x.br=false)→(l.ph=2∨l.ph=4)→opB x (aimF l)=true
structure CI (rest:List LeaseV) (K:KV):Prop where
 a:∀ l∈K.L,∃ x,K.G.cars[l.ca.toNat]?=some x∧HB rest x l
 b:∀ (i:Nat) x,K.G.cars[i]?=some x→x.mo=1→∃ l∈K.L,l.ca=(i:Int)
 m:∃ (i:Nat) (x:CarV),K.G.cars[i]?=some x∧x.mo=0
 q:∀ a∈K.Q,∀ l∈K.L,a.se≠l.se
 f:∀ f,(cn K.L f:Int)≤btw K.G.c.qo 1 8
section
variable {K:KV} {rest:List LeaseV} {c:CfgV} {n T m:Nat}
theorem pair_of {α:Type} {R:α→α→Prop} (hs:∀ a b,R a b→R b a):∀ {ls:List α},ls.Pairwise R→∀ a∈ls,∀ b∈ls,a=b∨R a b
 | [],_,a,ha,_,_=>by cases ha
 | x::r,h,a,ha,b,hb=>by
  rw [List.pairwise_cons] at h
  rcases List.mem_cons.1 ha with e1 | e1
  ·rcases List.mem_cons.1 hb with e2 | e2
   ·exact .inl (e1.trans e2.symm)
   ·exact .inr (e1 ▸ h.1 b e2)
  ·rcases List.mem_cons.1 hb with e2 | e2
   ·exact .inr (e2 ▸ hs _ _ (h.1 a e1))
   ·exact pair_of hs h.2 a e1 b e2
theorem UQ.two (h:UQ K) {l y:LeaseV} (hl:l∈K.L) (hy:y∈K.L):l=y∨(l.se≠y.se∧l.ca≠y.ca):=by
 have:=h.l
 rw [List.pairwise_map] at this
 exact pair_of (R:=fun a b=>KR (key a) (key b)) (fun a b h=>⟨fun e=>h.1 e.symm,fun e=>h.2 e.symm⟩) this l hl y hy
theorem CI.new (c:CfgV):CI [] (newK c):=by
 have hz:∀ (i:Nat) x,(newK c).G.cars[i]?=some x→x.mo=0:=fun i x h=>by
  have:=List.eq_of_mem_replicate (show x∈List.replicate (Gr.ncars c) Gr.zeroX from List.mem_of_getElem? h)
  rw [this]; rfl
 have hb:=Gr.ncars_bd c
 refine ⟨fun l hl=>(by cases hl),fun i x h h1=>(by rw [hz i x h] at h1; cases h1), ?_,fun a ha=>(by cases ha),fun f=>?_⟩
 ·obtain ⟨x,hx⟩:∃ x,(newK c).G.cars[0]?=some x:=⟨_,List.getElem?_eq_getElem (by show 0 < (List.replicate (Gr.ncars c) Gr.zeroX).length; rw [List.length_replicate]; omega)⟩
  exact ⟨0,x,hx,hz 0 x hx⟩
 ·show ((0:Nat):Int)≤_
  unfold btw; (repeat' split) <;> omega
theorem CI.grp {G':GrV} (h:CI [] K) (hs:SG K.G G') (hc:G'.c=K.G.c):CI [] { K with G:=G' }:=by
 have back:∀ (i:Nat) y,G'.cars[i]?=some y→∃ x,K.G.cars[i]?=some x∧SM x y:=fun i y hy=>by
  have hi:i < K.G.cars.length:=by rw [← hs.1]; exact (List.getElem?_eq_some_iff.1 hy).1
  obtain ⟨y',h1,h2⟩:=hs.2 i _ (List.getElem?_eq_getElem hi)
  rw [h1] at hy
  exact ⟨_,List.getElem?_eq_getElem hi,Option.some.inj hy ▸ h2⟩
 refine ⟨fun l hl=>?_,fun i y hy hm=>?_, ?_,h.q,fun f=>by show _≤btw G'.c.qo 1 8; rw [hc]; exact h.f f⟩
 ·obtain ⟨x,hx,hb⟩:=h.a l hl
  obtain ⟨y,hy,hm⟩:=hs.2 _ x hx
  exact ⟨y,hy,hm.mo.trans hb.mo,hm.ta.trans hb.ta,hm.ho.trans hb.ho,fun _ hp=>by rw [hm.op]; exact hb.op (fun h=>by cases h) hp⟩
 ·obtain ⟨x,hx,hm2⟩:=back i y hy
  exact h.b i x hx (hm2.mo ▸ hm)
 ·obtain ⟨i,x,hx,h0⟩:=h.m
  obtain ⟨y,hy,hm⟩:=hs.2 i x hx
  exact ⟨i,y,hy,hm.mo.trans h0⟩
theorem cn_sub {ls ls':List LeaseV} (h:ls'.Sublist ls) (f:Int):cn ls' f≤cn ls f:=h.countP_le
theorem CI.end_ (hi:∀ l∈K.L,0≤l.ca) (hU:UQ K) (h:CI rest K) (s:Int) {r:List LeaseV} (hr:∀ y∈K.L,y.se≠s→y∈rest→y∈r):CI r (Co.endK K s):=by
 have ne:=end_ne hU s
 unfold Co.endK at ne ⊢
 split
 ·rename_i hL
  rw [if_pos hL] at ne
  obtain ⟨hm,hse⟩:=has_mem hL
  refine ⟨fun l hl=>?_,fun i y hy hmo=>?_, ?_,fun a ha l hl=>h.q a ha l (ne l hl).1,fun f=>?_⟩
  ·obtain ⟨h1,h2⟩:=ne l hl
   obtain ⟨x,hx,hb⟩:=h.a l h1
   have hne:¬ ((l.ca.toNat:Nat):Int)=(ofL K.L s).ca:=by
    rcases hU.two h1 hm with e | e
    ·exact absurd (e ▸ hse) h2
    ·have:=hi l h1; have:=e.2; omega
   refine ⟨x,by have:=Gr.one_at (i:=(ofL K.L s).ca) (f:=fun x=>(Gr.givX K.G.c x,Gr.aimE x)) hx; rw [if_neg hne] at this; exact this,hb.mo,hb.ta,hb.ho,fun hw hp=>hb.op (fun hin=>hw (hr l h1 h2 hin)) hp⟩
  ·have hlen:(giveR K.G (ofL K.L s).ca).1.cars.length=K.G.cars.length:=Gr.one_same.2.2.2
   have hil:i < K.G.cars.length:=by rw [← hlen]; exact (List.getElem?_eq_some_iff.1 hy).1
   have hx:=List.getElem?_eq_getElem hil
   have hy2:=Gr.one_at (i:=(ofL K.L s).ca) (f:=fun x=>(Gr.givX K.G.c x,Gr.aimE x)) hx
   have hy3:(giveR K.G (ofL K.L s).ca).1.cars[i]?=_:=hy2
   have hy':(giveR K.G (ofL K.L s).ca).1.cars[i]?=some y:=hy
   rw [hy'] at hy3
   have e:=Option.some.inj hy3
   by_cases hic:(i:Int)=(ofL K.L s).ca
   ·rw [if_pos hic] at e
    exfalso
    rw [e] at hmo
    change (Gr.givX K.G.c K.G.cars[i]).mo=1 at hmo
    unfold Gr.givX at hmo
    split at hmo
    ·cases hmo
    ·contradiction
   ·rw [if_neg hic] at e
    obtain ⟨l,hl,hca⟩:=h.b i _ hx (e ▸ hmo)
    refine ⟨l, ?_,hca⟩
    show l∈endL K.L s
    rw [end_filter hU.l]
    refine List.mem_filter.2 ⟨hl, ?_⟩
    have:l.se≠s:=fun e2=>by
     rcases hU.two hl hm with e3 | e3
     ·exact hic (by rw [← hca,e3])
     ·exact e3.1 (e2.trans hse.symm)
    simpa using this
  ·obtain ⟨i,x,hx,h0⟩:=h.m
   refine ⟨i,_,Gr.one_at (i:=(ofL K.L s).ca) (f:=fun x=>(Gr.givX K.G.c x,Gr.aimE x)) hx, ?_⟩
   split
   ·show (Gr.givX K.G.c x).mo=0
    unfold Gr.givX; split
    ·rfl
    ·exact h0
   ·exact h0
  ·show (cn (endL K.L s) f:Int)≤btw (giveR K.G _).1.c.qo 1 8
   rw [give_c]
   have:=cn_sub (end_sub K.L s) f
   have:=h.f f
   omega
 ·rename_i hL
  rw [if_neg hL] at ne
  exact ⟨fun l hl=>by
   obtain ⟨x,hx,hb⟩:=h.a l hl
   exact ⟨x,hx,hb.mo,hb.ta,hb.ho,fun hw hp=>hb.op (fun hin=>hw (hr l hl (ne l hl).2 hin)) hp⟩,h.b,h.m,h.q,h.f⟩
theorem cn_key {ls ls':List LeaseV} (h:ls'.map key=ls.map key) (f:Int):cn ls' f=cn ls f:=by
 have e:∀ zs:List LeaseV,cn zs f=(zs.map key).countP (fun k=>k.2.2 == f):=fun zs=>by
  unfold Fl.cn; rw [List.countP_map]; rfl
 rw [e,e,h]
theorem CI.set (hi:∀ l∈K.L,0≤l.ca) (hU:UQ K) (h:CI rest K) {l0 l:LeaseV} (h0:l0∈K.L) (hk:key l=key l0) (hg:goodB K.G.c l=true) {r:List LeaseV} (hr:∀ y∈K.L,key y≠key l→y∈rest→y∈r)
  (hop:∀ x,K.G.cars[l.ca.toNat]?=some x→HB rest x l0→(l∈r→x.br=false)→(l.ph=2∨l.ph=4)→opB x (aimF l)=true):CI r (setK K l false):=by
 have hca:l.ca=l0.ca:=congrArg (fun z=>z.2.1) hk
 have hfr:hasF K.G.c (aimF l)=true:=by
  have hm:Fl.mayB K.G.c (Le.askOf l)=true:=by unfold goodB at hg; simp only [Bool.and_eq_true] at hg; exact hg.1.1.1.1
  have:=may_fm hm
  unfold hasF aimF
  split
  ·exact decide_eq_true this.1
  ·exact decide_eq_true this.2
 have hat:∀ (k:Nat) x,K.G.cars[k]?=some x→(aimR K.G l.ca (aimF l) true).1.cars[k]?=some (if (k:Int)=l.ca then Gr.aimX (aimF l) true x else x):=fun k x hx=>by
  unfold aimR; rw [if_pos hfr]
  exact Gr.one_at hx
 have hlen:(aimR K.G l.ca (aimF l) true).1.cars.length=K.G.cars.length:=by unfold aimR; rw [if_pos hfr]; exact Gr.one_same.2.2.2
 have ham:∀ x,(Gr.aimX (aimF l) true x).mo=x.mo:=fun x=>by unfold Gr.aimX; split <;> rfl
 unfold setK
 rw [if_neg (by decide)]
 refine ⟨fun y hy=>?_,fun i y hy hmo=>?_, ?_,fun a ha y hy=>?_,fun f=>?_⟩
 ·rcases set_all hU.l hg y hy with rfl | ⟨h1,h2⟩
  ·obtain ⟨x,hx,hb⟩:=h.a l0 h0
   rw [← hca] at hx
   refine ⟨_,hat _ x hx, ?_⟩
   rw [if_pos (by have:=hi l0 h0; omega)]
   have e:Gr.aimX (aimF y) true x={ x with ta:=aimF y,ho:=true }:=by unfold Gr.aimX; rw [if_pos hb.mo]
   rw [e]
   exact ⟨hb.mo,rfl,rfl,fun hw hp=>hop x hx hb hw hp⟩
  ·obtain ⟨x,hx,hb⟩:=h.a y h1
   refine ⟨_,hat _ x hx, ?_⟩
   rw [if_neg (by
    rcases hU.two h1 h0 with e | e
    ·exact absurd (e ▸ hk.symm) h2
    ·have:=hi y h1; have:=e.2; omega)]
   exact ⟨hb.mo,hb.ta,hb.ho,fun hw hp=>hb.op (fun hin=>hw (hr y h1 h2 hin)) hp⟩
 ·have hil:i < K.G.cars.length:=by rw [← hlen]; exact (List.getElem?_eq_some_iff.1 hy).1
  have hx:=List.getElem?_eq_getElem hil
  have hy2:=hat i _ hx
  have hy':(aimR K.G l.ca (aimF l) true).1.cars[i]?=some y:=hy
  rw [hy'] at hy2
  have e:=Option.some.inj hy2
  have hm:(K.G.cars[i]).mo=1:=by
   rw [e] at hmo
   split at hmo
   ·rw [ham] at hmo; exact hmo
   ·exact hmo
  obtain ⟨z,hz,hzc⟩:=h.b i _ hx hm
  have:key z∈(setL K.G.c K.L l).map key:=by rw [set_key]; exact List.mem_map.2 ⟨z,hz,rfl⟩
  obtain ⟨z2,hz2,hk2⟩:=List.mem_map.1 this
  exact ⟨z2,hz2,by have:z2.ca=z.ca:=congrArg (fun z=>z.2.1) hk2; rw [this]; exact hzc⟩
 ·obtain ⟨i,x,hx,hm0⟩:=h.m
  refine ⟨i,_,hat i x hx, ?_⟩
  split
  ·rw [ham]; exact hm0
  ·exact hm0
 ·have:key y∈(setL K.G.c K.L l).map key:=List.mem_map.2 ⟨y,hy,rfl⟩
  rw [set_key] at this
  obtain ⟨z,hz,hkz⟩:=List.mem_map.1 this
  have e:z.se=y.se:=congrArg Prod.fst hkz
  rw [← e]; exact h.q a ha z hz
 ·show (cn (setL K.G.c K.L l) f:Int)≤btw (aimR K.G _ _ _).1.c.qo 1 8
  rw [aim_c,cn_key (set_key _ _ _)]
  exact h.f f
end
end Lc
namespace Lc
open Go.RowKit Ba Mem En Go.Proofs.YtpiiblkiddcgcaaGreat.Ty Mo Go.Proofs.YtpiiblkiddcgcaaGreat.St Co
open Ri (MsgV tickV hearV trV sp rn mayRe opB aimF)
open Qu (dropL atS btw firstA atF)
open Le (hasL ofL setL setE endL zeroL atP isS isT isP goodB)
open Gr (GrV loadR one giveR aimR takeR giveC tickG hasF)
open Ct (tkV)
section
variable {c:CfgV} {l:LeaseV} {now:Int}
theorem hearV_ph (x:CarV) (m:MsgV) (h:(hearV c l x now m).1.ph=2∨(hearV c l x now m).1.ph=4):(hearV c l x now m).1.ph=l.ph∧aimF (hearV c l x now m).1=aimF l:=by
 unfold hearV at h ⊢
 split
 ·rename_i h1
  rw [if_pos h1] at h
  split
  ·rename_i h2
   rw [if_pos h2] at h
   exfalso
   rcases h with h | h <;> cases h
  ·exact ⟨rfl,rfl⟩
 ·split
  ·exact ⟨rfl,rfl⟩
  ·split <;> exact ⟨rfl,rfl⟩
theorem tickV_op (x:CarV) (ho:(tickV c l x now).2.2=false):x.br=false∧((tickV c l x now).1.ph=2∨(tickV c l x now).1.ph=4→((l.ph=2∨l.ph=4)∧aimF (tickV c l x now).1=aimF l)∨opB x (aimF (tickV c l x now).1)=true):=by
 unfold tickV at ho ⊢
 split at ho
 ·cases ho
 rename_i hl
 rw [if_neg hl]
 refine ⟨by cases hb:x.br with | true=>exact absurd (.inl hb) hl | false=>rfl, ?_⟩
 split
 ·rename_i h1; exact fun _=>.inr h1.2
 ·split
  ·rename_i h1; exact fun _=>.inr h1.2
  ·exact fun h=>.inl ⟨h,rfl⟩
theorem good_ca (h:goodB c l=true):0≤l.ca∧l.ca < 8:=by
 unfold goodB at h
 simp only [Bool.and_eq_true,decide_eq_true_eq] at h
 exact ⟨h.1.1.1.2,h.1.1.2⟩
theorem set_keep {ls:List LeaseV} {x y:LeaseV} (hy:y∈ls) (hk:key y≠key x):y∈setL c ls x:=by
 unfold setL; split
 ·split
  ·rename_i k hat
   obtain ⟨hl,h1,_⟩:=Le.atP_some hat
   have h2:=h1 hl
   unfold isT at h2
   simp only [Bool.and_eq_true,beq_iff_eq] at h2
   obtain ⟨i,hi,rfl⟩:=List.getElem_of_mem hy
   have:i≠k:=fun e=>hk (by subst e; unfold key; rw [h2.1.1,h2.1.2,h2.2])
   rw [List.mem_iff_getElem?]
   exact ⟨i,by rw [List.getElem?_set,if_neg (fun e=>this e.symm)]; exact List.getElem?_eq_getElem hi⟩
  ·exact hy
 ·exact hy
end
section
variable {K:KV} {rest:List LeaseV} {c:CfgV} {n T m:Nat}
theorem end_keep (h:UQ K) {s:Int} {y:LeaseV} (hy:y∈K.L) (hs:y.se≠s):y∈(Co.endK K s).L:=by
 unfold Co.endK; split
 ·show y∈endL K.L s
  rw [end_filter h.l]
  exact List.mem_filter.2 ⟨hy,by simpa using hs⟩
 ·exact hy
theorem CI.ans (h:CI [] K) (a:AskV):CI [] (ansK K a):=by
 refine ⟨h.a,h.b,h.m, ?_,h.f⟩
 intro b hb l hl
 change b∈ansQ K a at hb
 unfold ansQ at hb
 split at hb
 ·split at hb
  ·exact h.q b hb l hl
  ·rename_i hn
   rcases put_mem hb with hb | rfl
   ·exact h.q b hb l hl
   ·have:=find_none (p:=isS b.se) (ls:=K.L) (by simpa [hasL,atP] using hn) l hl
    intro e
    simp [isS,e] at this
 ·exact h.q b hb l hl
theorem CI.hear (hP:PI c n T K) (hT:T≤1000000) (h:CI [] K) (s:Int) (x:MsgV):CI [] (hearK K s x):=by
 have hca:∀ l∈K.L,0≤l.ca:=fun l hl=>(hP.k.okl l hl).1
 unfold hearK; split
 ·rename_i hL
  obtain ⟨hm,hse⟩:=has_mem hL
  have hn:0≤K.G.now∧K.G.now≤1000000:=⟨hP.k.now.1,by have:=hP.t; omega⟩
  have hLI:=(hP.e _ hm).hear hn (carAt K (ofL K.L s)) x
  have hk:key (hearR K (ofL K.L s) x).1=key (ofL K.L s):=by unfold hearR; exact hearV_key _ _
  cases ho:(hearR K (ofL K.L s) x).2.2 with
  | true =>
   unfold setK; rw [if_pos rfl]
   exact h.end_ hca hP.u _ (fun _ _ _ hin=>by cases hin)
  | false =>
   refine h.set hca hP.u hm hk (by unfold hearR; rw [hP.k.g.1]; exact hLI.gd) (fun _ _ _ hin=>by cases hin) ?_
   intro y hy hb _ hp
   unfold hearR at hp ⊢
   obtain ⟨e1,e2⟩:=hearV_ph _ _ hp
   rw [e2]
   exact hb.op (fun hin=>by cases hin) (e1 ▸ hp)
 ·exact h
theorem CI.gone (hP:PI c n T K) (h:CI [] K) (s:Int):CI [] (goneK K s):=by
 have e:=h.end_ (fun l hl=>(hP.k.okl l hl).1) hP.u s (r:=[]) (fun _ _ _ hin=>by cases hin)
 exact ⟨e.a,e.b,e.m,fun a ha l hl=>h.q a ((drop_sub _ _).subset ha) l (end_ne hP.u s l hl).1,e.f⟩
theorem CI.obS {x:KV×List EvV} (hT:T≤1000000) (hP:PI c n T x.1) (h:CI [] x.1) (l:LeaseV):CI [] (obStep x l).1:=by
 have ld:∀ v,CI [] (ldK x.1 l v):=fun v=>h.grp (SG.one _ _ (fun x=>⟨rfl,rfl,rfl,rfl,rfl⟩)) (one_c _ _ _)
 have pd:∀ v,PI c n T (ldK x.1 l v):=fun v=>⟨KI.ld hP.k l v,hP.u.grp _,EI.sub hP.e (Gr.load_w _ _).2 (fun _ hy=>hy),by show (loadR x.1.G l.ca v).1.now≤T; rw [(Gr.load_w _ _).2]; exact hP.t⟩
 unfold obStep; split
 ·exact (ld _).hear (pd _) hT _ _
 ·split
  ·exact (ld _).hear (pd _) hT _ _
  ·exact h
theorem CI.ob (hT:T≤1000000) (hP:PI c n T K) (h:CI [] K) (k:Nat):CI [] (obF K k).1:=by
 have key:∀ (ls:List LeaseV) (x:KV×List EvV),PI c n T x.1→CI [] x.1→CI [] (ls.foldl obStep x).1:=by
  intro ls
  induction ls with
  | nil=>intro x _ h; exact h
  | cons l r ih=>intro x hP h; rw [List.foldl_cons]; exact ih _ (obS_pi hT hP l) (CI.obS hT hP h l)
 exact key _ _ hP h
theorem CI.do_ (hT:T≤1000000) (hP:PI c n T K) (h:CI [] K) (o:KopV):CI [] (doK K o):=by
 unfold doK
 split
 ·exact h.ans _
 split
 ·exact h.hear hP hT _ _
 split
 ·exact h.gone hP _
 split
 ·exact CI.ob hT hP h _
 ·exact h.grp (gdo_sg _ _) (gdo_w _ _).2.1
theorem car_of {x:CarV} {l:LeaseV} (h:K.G.cars[l.ca.toNat]?=some x):carAt K l=x:=by
 unfold carAt; rw [List.getD_eq_getElem?_getD,h]; rfl
theorem CI.fold {now:Int} (hn:0≤now∧now≤1000000):∀ (rest:List LeaseV) (x:KV×List EvV),x.1.G.now=now→x.1.G.c=c→UQ x.1→(∀ y∈rest,Bn c y)→(∀ y∈x.1.L,y∈rest∨LI c now y)→(rest.map key).Pairwise KR→(∀ y∈rest,y∈x.1.L)→CI rest x.1→CI [] (rest.foldl stepK x).1
 | [],x,_,_,_,_,_,_,_,h=>h
 | l::r,x,h1,h2,h3,h4,h5,h6,h7,h=>by
  rw [List.foldl_cons]
  rw [List.map_cons,List.pairwise_cons] at h6
  have hs:(stepK x l).1=setK x.1 (stepR x.1 l).1 (stepR x.1 l).2.2:=rfl
  have hk:key (stepR x.1 l).1=key l:=by unfold stepR; exact tickV_key _
  have hse:(stepR x.1 l).1.se=l.se:=congrArg Prod.fst hk
  have hlL:=h7 l (List.mem_cons_self ..)
  have hca:∀ y∈x.1.L,0≤y.ca:=fun y hy=>by
   rcases h5 y hy with e | e
   ·exact (good_ca (h4 y e).gd).1
   ·exact (good_ca e.gd).1
  obtain ⟨x0,hx0,hb0⟩:=h.a l hlL
  have hcar:=car_of hx0
  have hne:∀ y∈r,y.se≠l.se:=fun y hy e=>(h6.1 _ (List.mem_map.2 ⟨y,hy,rfl⟩)).1 e.symm
  have h5':∀ y∈(stepK x l).1.L,y∈r∨LI c now y:=by
   intro y hy
   rw [hs] at hy
   cases ho:(stepR x.1 l).2.2 with
   | true =>
    rw [ho] at hy
    unfold setK at hy
    rw [if_pos rfl] at hy
    obtain ⟨hy1,hy2⟩:=end_ne h3 _ y hy
    rcases h5 y hy1 with h | h
    ·rcases List.mem_cons.1 h with rfl | h
     ·exact absurd hse.symm hy2
     ·exact .inl h
    ·exact .inr h
   | false =>
    have hl:LI c now (stepR x.1 l).1:=by
     unfold stepR at ho ⊢
     rw [h1,h2] at ho ⊢
     exact (h4 l (List.mem_cons_self ..)).tick hn _ ho
    rw [ho] at hy
    unfold setK at hy
    rw [if_neg (by decide)] at hy
    change y∈setL x.1.G.c x.1.L _ at hy
    rw [h2] at hy
    rcases set_all h3.l hl.gd y hy with rfl | ⟨hy1,hy2⟩
    ·exact .inr hl
    ·rcases h5 y hy1 with h | h
     ·rcases List.mem_cons.1 h with rfl | h
      ·exact absurd hk.symm hy2
      ·exact .inl h
     ·exact .inr h
  refine CI.fold hn r (stepK x l) (by rw [hs,set_now]; exact h1) (by rw [hs,setK_c]; exact h2) (by rw [hs]; exact h3.set _ _) (fun y hy=>h4 y (List.mem_cons_of_mem _ hy)) h5' h6.2 ?_ ?_
  ·intro y hy
   have hyL:=h7 y (List.mem_cons_of_mem _ hy)
   rw [hs]
   unfold setK; split
   ·exact end_keep h3 hyL (by rw [hse]; exact hne y hy)
   ·exact set_keep hyL (fun e=>hne y hy (by have:y.se=(stepR x.1 l).1.se:=congrArg Prod.fst e; rw [this,hse]))
  ·rw [hs]
   cases ho:(stepR x.1 l).2.2 with
   | true =>
    unfold setK; rw [if_pos rfl]
    exact h.end_ hca h3 _ (fun y _ hy2 hin=>by
     rcases List.mem_cons.1 hin with rfl | hin
     ·exact absurd hse.symm hy2
     ·exact hin)
   | false =>
    have hgd:LI c now (stepR x.1 l).1:=by
     have ho':=ho
     unfold stepR at ho' ⊢
     rw [h1,h2] at ho' ⊢
     exact (h4 l (List.mem_cons_self ..)).tick hn _ ho'
    refine h.set hca h3 hlL hk (by rw [h2]; exact hgd.gd) (fun y _ hy2 hin=>by
     rcases List.mem_cons.1 hin with rfl | hin
     ·exact absurd hk.symm hy2
     ·exact hin) ?_
    intro y hy hb _ hp
    have hcae:(stepR x.1 l).1.ca=l.ca:=congrArg (fun z=>z.2.1) hk
    rw [hcae,hx0] at hy
    have hy:=Option.some.inj hy
    subst hy
    unfold stepR at ho hp ⊢
    rw [hcar] at ho hp ⊢
    obtain ⟨hbr,hop⟩:=tickV_op _ ho
    rcases hop hp with ⟨e1,e2⟩|e
    ·rw [e2]; exact hb.op (fun _=>hbr) e1
    ·exact e
end
end Lc
namespace Lc
open Go.RowKit Ba Mem En Go.Proofs.YtpiiblkiddcgcaaGreat.Ty Mo Go.Proofs.YtpiiblkiddcgcaaGreat.St Co
open Ri (opB aimF)
open Qu (dropL atS btw firstA atF okF atI)
open Le (atP isP goodB)
open Fl (freeB)
open Gr (GrV takeR tickG hasF idB)
open Ct (tkV tkX tkR tkO tkK ldX ldR ldO ldK ldT)
theorem tkV_flags (c:CfgV) (y:CarV):(tkV c y).mo=y.mo∧(tkV c y).ta=y.ta∧(tkV c y).ho=y.ho∧(tkV c y).br=y.br:=by
 obtain ⟨_,_,_,e4,e5,e6,_,e8⟩:=Ct.tk_same c y
 exact ⟨e5,e6,e8,e4⟩
theorem tkV_stays (c:CfgV) (y:CarV) (hm:y.mo=1) (hh:y.ho=true) (hb:y.br=false) (ho:opB y y.ta=true):opB (tkV c y) y.ta=true:=by
 unfold opB at ho
 simp only [Bool.and_eq_true,beq_iff_eq] at ho
 obtain ⟨⟨h1,h2⟩,h3⟩:=ho
 have ht:ldT y=true:=by
  unfold ldT
  refine decide_eq_true ?_
  unfold lvN at h2
  rw [if_pos h1] at h2
  unfold lvB at h1
  have:=of_decide_eq_true h1
  unfold tw
  rw [if_neg (by omega),if_neg (by omega)]
 have eX:tkX c y=y:=by unfold tkX; rw [if_neg (by rw [hb]; decide),if_pos hm]; unfold ldX; rw [if_neg (by rw [h3]; exact fun h=>absurd h.1 (by decide))]
 have eR:tkR y=0:=by unfold tkR; rw [if_neg (by rw [hb]; decide),if_pos hm]; unfold ldR; rw [if_neg (by rw [h3]; exact fun h=>absurd h.1 (by decide))]
 have eO:tkO y=false:=by unfold tkO; rw [if_neg (by rw [hb]; decide),if_pos hm]; unfold ldO; rw [if_neg (by rw [h3]; decide),h3]; simp
 have eK:tkK c y=false:=by unfold tkK; rw [if_neg (by rw [hb]; decide),if_pos hm]; unfold Ct.ldK; rw [ht,hh]; simp
 have e:tkV c y=Pl.stepV c y 0 false false:=by unfold tkV; rw [eX,eR,eO,eK]
 have eds:(Pl.stepV c y 0 false false).ds=2:=by
  show Pl.dS1 c y false false=2
  unfold Pl.dS1 Pl.dS0 Pl.toldS
  rw [if_neg (by rw [hb]; decide),if_neg (by simp),if_neg (by simp),h3]
  unfold Do.tS
  rw [if_neg (by omega),if_neg (by omega),if_neg (by omega),if_neg (by omega)]
 have eun:(Pl.stepV c y 0 false false).un=y.un:=by
  show Pl.un1 c y 0 false false=y.un
  unfold Pl.un1 Pl.goesB
  rw [if_neg (by rw [h3]; simp)]
 rw [e]
 unfold opB
 rw [eds,eun]
 simp [h1,h2]
section
variable {K:KV} {c:CfgV} {n T m:Nat}
theorem near_sm {x y:CarV} (h0:Gr.Near x y):SM x y∧y.br=x.br:=by
 have h:y={ x with su:=y.su,sd:=y.sd }:=h0
 have e1:=congrArg CarV.mo h
 have e2:=congrArg CarV.ta h
 have e3:=congrArg CarV.ho h
 have e4:=congrArg CarV.ds h
 have e5:=congrArg CarV.un h
 have e6:=congrArg CarV.br h
 exact ⟨⟨e1,e2,e3,e4,e5⟩,e6⟩
theorem CI.tk1 (h:CI [] K):CI K.L (tkK1 K):=by
 have at':∀ (k:Nat) x,K.G.cars[k]?=some x→∃ z,(tickG K.G).cars[k]?=some z∧z.mo=x.mo∧z.ta=x.ta∧z.ho=x.ho∧(z.br=false→x.mo=1→x.ho=true→opB x x.ta=true→opB z x.ta=true):=fun k x hx=>by
  obtain ⟨y,_,hn,hz⟩:=Gr.tick_at hx
  obtain ⟨hs,hbr⟩:=near_sm hn
  obtain ⟨f1,f2,f3,f4⟩:=tkV_flags K.G.c y
  refine ⟨_,hz,f1.trans hs.mo,f2.trans hs.ta,f3.trans hs.ho,fun h1 h2 h3 h4=>?_⟩
  have:=tkV_stays K.G.c y (hs.mo.trans h2) (hs.ho.trans h3) (f4 ▸ h1) (by rw [hs.op,hs.ta]; exact h4)
  rw [hs.ta] at this; exact this
 have back:∀ (i:Nat) z,(tickG K.G).cars[i]?=some z→∃ x,K.G.cars[i]?=some x∧z.mo=x.mo:=fun i z hz=>by
  have hi:i < K.G.cars.length:=by rw [← Gr.tick_len K.G]; exact (List.getElem?_eq_some_iff.1 hz).1
  obtain ⟨z',h1,h2,_⟩:=at' i _ (List.getElem?_eq_getElem hi)
  rw [h1] at hz
  exact ⟨_,List.getElem?_eq_getElem hi,Option.some.inj hz ▸ h2⟩
 refine ⟨fun l hl=>?_,fun i z hz hm=>?_, ?_,h.q,h.f⟩
 ·obtain ⟨x,hx,hb⟩:=h.a l hl
  obtain ⟨z,hz,e1,e2,e3,e4⟩:=at' _ x hx
  refine ⟨z,hz,e1.trans hb.mo,e2.trans hb.ta,e3.trans hb.ho,fun hw hp=>?_⟩
  have:=e4 (hw hl) hb.mo hb.ho (by rw [hb.ta]; exact hb.op (fun h=>by cases h) hp)
  rw [hb.ta] at this; exact this
 ·obtain ⟨x,hx,e⟩:=back i z hz
  exact h.b i x hx (e ▸ hm)
 ·obtain ⟨i,x,hx,h0⟩:=h.m
  obtain ⟨z,hz,e,_⟩:=at' i x hx
  exact ⟨i,z,hz,e.trans h0⟩
theorem near_can (f:Int) (cs:List CarV):∀ k,0≤(nrL f cs k).1→∃ x,cs[(nrL f cs k).1.toNat]?=some x∧canB x=true
 | 0=>fun h=>by exact absurd h (by show ¬ (0:Int) ≤ -1; decide)
 | k+1=>fun h=>by
  unfold nrL at h ⊢
  split at h
  ·exact near_can f cs k h
  ·rename_i x hx
   split at h
   ·rename_i hc
    rw [if_pos hc]
    exact ⟨x,by show cs[((k:Int)).toNat]?=_; rw [Int.toNat_natCast]; exact hx,hc.1⟩
   ·rename_i hc
    rw [if_neg hc]
    exact near_can f cs k h
theorem one_p {α:Type} {p:α→Bool}:∀ {ls:List α},1≤ls.countP p→∃ (i:Nat) (x:α),ls[i]?=some x∧p x=true:=by
 intro ls h
 obtain ⟨x,hx,hp⟩:=List.countP_pos_iff.1 (show 0 < ls.countP p by omega)
 obtain ⟨i,hi⟩:=List.mem_iff_getElem?.1 hx
 exact ⟨i,x,hi,hp⟩
theorem two_p {α:Type} {p:α→Bool}:∀ (ls:List α) (k:Nat),2≤ls.countP p→∃ (i:Nat) (x:α),i≠k∧ls[i]?=some x∧p x=true
 | [],_,h=>by simp at h
 | a::r,0,h=>by
  rw [List.countP_cons] at h
  obtain ⟨i,x,h1,h2⟩:=one_p (ls:=r) (p:=p) (by split at h <;> omega)
  exact ⟨i+1,x,by omega,h1,h2⟩
 | a::r,k+1,h=>by
  rw [List.countP_cons] at h
  by_cases ha:p a=true
  ·exact ⟨0,a,by omega,rfl,ha⟩
  ·rw [if_neg ha] at h
   obtain ⟨i,x,h0,h1,h2⟩:=two_p r k h
   exact ⟨i+1,x,by omega,h1,h2⟩
theorem full_mem (K:KV) {v:Int} (hv:0≤v) (hf:¬ freeB K.G.c K.L v=true):∀ k:Nat,v < (k:Int)→v∈fullL K k
 | 0,h=>by omega
 | k+1,h=>by
  unfold fullL
  by_cases e:v=(k:Int)
  ·subst e; rw [if_neg hf]; simp
  ·have:=full_mem K hv hf k (by omega)
   split
   ·exact this
   ·exact List.mem_append_left _ this
theorem CI.grant (hU:UQ K) (hk:KI c n T m K) (h:CI [] K):CI [] (grantK K):=by
 unfold grantK; split
 ·exact h
 rename_i a ha
 unfold grA at ha
 split at ha
 ·cases ha
 rename_i hpf
 by_cases hat:(atF K.Q (fullL K 8)).isSome=true
 case neg=>rw [if_neg hat] at ha; cases ha
 rw [if_pos hat] at ha
 by_cases hnear:nearI K (firstA K.Q (fullL K 8)).fm < 0
 case pos=>rw [if_pos hnear] at ha; cases ha
 rw [if_neg hnear] at ha
 have ha:=Option.some.inj ha
 -- who it is
 obtain ⟨k,hatk⟩:=Option.isSome_iff_exists.1 hat
 obtain ⟨hkl,hk1,_⟩:=Qu.atF_some hatk
 have hfa:firstA K.Q (fullL K 8)=K.Q[k]:=by unfold firstA; rw [hatk]; simp [List.getD,hkl]
 rw [hfa] at ha hnear
 have haQ:a∈K.Q:=by rw [← ha]; exact List.getElem_mem hkl
 have hfree:(atI (fullL K 8) a.fl).isSome=false:=by rw [← ha]; exact hk1 hkl
 rw [ha] at hnear
 have hmay:=hk.okq a haQ
 have hc:=hk.g.1
 -- its car
 obtain ⟨x0,hx0,hcan⟩:=near_can a.fm K.G.cars K.G.cars.length (by show 0≤nearI K a.fm; omega)
 have hx0:K.G.cars[(nearI K a.fm).toNat]?=some x0:=hx0
 have hid:idB x0=true:=by unfold canB at hcan; simp only [Bool.and_eq_true] at hcan; exact hcan.1.1
 have hmo0:x0.mo=0:=by unfold idB at hid; exact (of_decide_eq_true hid).1
 have hlt:=(List.getElem?_eq_some_iff.1 hx0).1
 have hb8:=Gr.ncars_bd c
 have hlen:=hk.len
 have hfm:=(may_fm hmay).1
 have hhas:hasF K.G.c a.fm=true:=by unfold hasF; rw [hc]; exact decide_eq_true hfm
 have hcat:∀ (i:Nat) x,K.G.cars[i]?=some x→(takeR K.G (nearI K a.fm) a.fm).1.cars[i]?=some (if (i:Int)=nearI K a.fm then Gr.takeX a.fm x else x):=fun i x hx=>by
  unfold takeR; rw [if_pos hhas]; exact Gr.one_at hx
 have hclen:(takeR K.G (nearI K a.fm) a.fm).1.cars.length=K.G.cars.length:=by unfold takeR; rw [if_pos hhas]; exact Gr.one_same.2.2.2
 have hcar:∀ l∈K.L,l.ca≠nearI K a.fm:=fun l hl e=>by
  obtain ⟨x,hx,hb⟩:=h.a l hl
  rw [e,hx0] at hx
  have:=Option.some.inj hx
  have:=hb.mo
  subst x
  omega
 have hse:∀ l∈K.L,l.se≠a.se:=fun l hl e=>h.q a haQ l hl e.symm
 have hfl:0≤a.fl∧a.fl < 8:=by
  have:=hmay
  unfold Fl.mayB Fl.belB at this
  simp only [Bool.and_eq_true,decide_eq_true_eq] at this
  have e:btw c.ft 1 8≤8:=by unfold btw; (repeat' split) <;> omega
  omega
 have hfr:freeB K.G.c K.L a.fl=true:=by
  by_cases e:freeB K.G.c K.L a.fl=true
  ·exact e
  ·exfalso
   have hm:=full_mem K hfl.1 e 8 (by omega)
   have:=find_none hfree a.fl hm
   simp at this
 have hgood:goodB K.G.c (grL K a)=true:=by
  unfold goodB
  rw [hc]
  show (Fl.mayB c a && decide (0≤nearI K a.fm) && decide (nearI K a.fm < 8) && decide ((1:Int)≤1) && decide ((1:Int)≤4))=true
  rw [hmay,decide_eq_true (show 0≤nearI K a.fm by omega),decide_eq_true (show nearI K a.fm < 8 by omega)]
  rfl
 have hput:Le.putE K.G.c K.L (grL K a)=0:=by
  unfold Le.putE
  rw [if_pos hgood,if_neg,if_pos (show freeB K.G.c K.L (grL K a).fl=true from hfr)]
  intro hs
  obtain ⟨j,hj⟩:=Option.isSome_iff_exists.1 hs
  obtain ⟨hjl,hj1,_⟩:=Le.atP_some hj
  have:=hj1 hjl
  unfold isP at this
  simp only [Bool.or_eq_true,beq_iff_eq] at this
  rcases this with e | e
  ·exact hse _ (List.getElem_mem hjl) e
  ·exact hcar _ (List.getElem_mem hjl) e
 have hL:(grK K a).L=K.L++[grL K a]:=by show Le.putL _ _ _=_; unfold Le.putL; rw [if_pos hput]
 refine ⟨fun l hl=>?_,fun i y hy hmo=>?_, ?_,fun b hb l hl=>?_,fun f=>?_⟩
 ·rw [hL] at hl
  rcases List.mem_append.1 hl with hl | hl
  ·obtain ⟨x,hx,hb⟩:=h.a l hl
   refine ⟨_,hcat _ x hx, ?_⟩
   rw [if_neg (by have:=hcar l hl; have:=(hk.okl l hl).1; omega)]
   exact hb
  ·rw [List.mem_singleton] at hl
   subst hl
   refine ⟨_,hcat _ x0 hx0, ?_⟩
   rw [if_pos (show ((grL K a).ca.toNat:Int)=nearI K a.fm by show ((nearI K a.fm).toNat:Int)=_; omega)]
   have e:Gr.takeX a.fm x0={ x0 with mo:=1,ta:=a.fm,ho:=true }:=by unfold Gr.takeX; rw [if_pos hid]
   rw [e]
   exact ⟨rfl,rfl,rfl,fun _ hp=>by rcases hp with hp | hp <;> exact absurd (show (1:Int)=_ from hp) (by decide)⟩
 ·rw [hL]
  have hil:i < K.G.cars.length:=by rw [← hclen]; exact (List.getElem?_eq_some_iff.1 hy).1
  have hx:=List.getElem?_eq_getElem hil
  have hy2:=hcat i _ hx
  have hy':(takeR K.G (nearI K a.fm) a.fm).1.cars[i]?=some y:=hy
  rw [hy'] at hy2
  have e:=Option.some.inj hy2
  by_cases hi:(i:Int)=nearI K a.fm
  ·exact ⟨grL K a,by simp,hi.symm⟩
  ·rw [if_neg hi] at e
   obtain ⟨l,hl,hlc⟩:=h.b i _ hx (e ▸ hmo)
   exact ⟨l,List.mem_append_left _ hl,hlc⟩
 ·have h2:2≤K.G.cars.countP nrmC:=by
   unfold pfB at hpf
   simp only [Bool.or_eq_true,decide_eq_true_eq,not_or] at hpf
   omega
  obtain ⟨i,x,hne,hx,hp⟩:=two_p K.G.cars (nearI K a.fm).toNat h2
  refine ⟨i,_,hcat i x hx, ?_⟩
  rw [if_neg (by omega)]
  unfold nrmC at hp
  simp only [Bool.and_eq_true,beq_iff_eq] at hp
  exact hp.1
 ·rw [hL] at hl
  have hb':b∈dropL K.Q a.se:=hb
  rw [drop_filter hU.q] at hb'
  obtain ⟨h1,h2⟩:=List.mem_filter.1 hb'
  rcases List.mem_append.1 hl with hl | hl
  ·exact h.q b h1 l hl
  ·rw [List.mem_singleton] at hl
   subst hl
   show b.se≠a.se
   simpa using h2
 ·rw [hL]
  show _≤btw (takeR K.G _ _).1.c.qo 1 8
  rw [take_c]
  have e:Fl.cn (K.L++[grL K a]) f=Fl.cn K.L f+if a.fl=f then 1 else 0:=by
   unfold Fl.cn
   rw [List.countP_append,List.countP_cons,List.countP_nil]
   simp only [Nat.zero_add]
   congr 1
   by_cases hf:a.fl=f
   ·rw [if_pos hf,if_pos]; show (a.fl == f)=true; simpa using hf
   ·rw [if_neg hf,if_neg]; show ¬ (a.fl == f)=true; simpa using hf
  rw [e]
  have:=h.f f
  by_cases hf:a.fl=f
  ·rw [if_pos hf]
   unfold freeB at hfr
   have:=of_decide_eq_true hfr
   rw [hf] at this
   omega
  ·rw [if_neg hf]; omega
theorem CI.tick (hP:PI c n T K) (hT:T < 1000000) (h:CI [] K):CI [] (tickK K):=by
 have hn:0≤K.G.now∧K.G.now≤1000000:=⟨hP.k.now.1,by have:=hP.t; omega⟩
 have h1:=tk1_now K hn
 have hn2:0≤(tkK1 K).G.now∧(tkK1 K).G.now≤1000000:=by rw [h1]; have:=hP.t; omega
 refine CI.grant (hP.u.fold _) (hP.k.fold K.L.length) ?_
 unfold foldK
 rw [show K.L.take K.L.length=K.L from List.take_length]
 exact CI.fold hn2 K.L (tkK1 K,[]) rfl hP.k.g.1 (hP.u.grp _) (fun y hy=>(hP.e y hy).toBn) (fun y hy=>.inl hy) hP.u.l (fun y hy=>hy) h.tk1
end
end Lc
end Go.Proofs.YtpiiblkiddcgcaaGreat
