/-
  Wanted: part 7.
  No condition.
-/
import Derived.Test.YtjghelofdfolbaaDoorPS5
import Derived.Test.YtjghelofdfolbaaDoorPS6
import Derived.Test.YtjghelofdfolbaaDoorPS3
set_option linter.all false
namespace Go.Proofs.YtjghelofdfolbaaDoor
namespace Sw
open Go.RowKit Ba Mem En Go.Proofs.YtjghelofdfolbaaDoor.Ty Gw
open Co (Hold.ob)
open Sx
set_option maxRecDepth 100000
def DdAt (lo:Nat) (os:List StepD) (w:World):Prop:=∀ x∈os,byteE.At lo x.A x.n x.c x.d w
def ddF (os:List StepD):List Nat:=os.flatMap fun x=>blkOf x.A
theorem dd_mem {os:List StepD} {g:Nat}:g∈ddF os↔∃ x∈os,g∈blkOf x.A:=by simp [ddF,List.mem_flatMap]
def ddO (lo:Nat) (os:List StepD):Asr:=⟨ddF os,true,DdAt lo os,fun u hd h x hx=>u.own (h x hx) (fun g hg=>hd g (dd_mem.2 ⟨x,hx,hg⟩)),fun h g hg=>by
 obtain ⟨x,hx,hg⟩:=dd_mem.1 hg
 exact own_lt (h x hx) g hg⟩
theorem DdAt.nil (lo:Nat) (w:World):DdAt lo [] w:=fun x hx=>by cases hx
def stZ (x:SP) (z:Option Addr×Nat):StepD:=⟨x.k,x.a,x.b,z.1,(zsN x.d).length,z.2,zsN x.d⟩
theorem stZ_sp (x:SP) (z:Option Addr×Nat):spD (stZ x z)=x:=by
 unfold spD stZ zsN
 simp only [List.map_map]
 congr 1
 conv=>rhs; rw [← List.map_id x.d]
 exact List.map_congr_left fun b _=>by simp
def okZ (os:List StepD):Prop:=∀ o∈os,∃ x z,o=stZ x z
theorem okZ.nil:okZ []:=fun o h=>by cases h
theorem okZ.add {os:List StepD} {x:SP} {z:Option Addr×Nat} (h:okZ os):okZ (os++[stZ x z]):=fun o ho=>by
 rcases List.mem_append.1 ho with ho | ho
 ·exact h o ho
 ·rw [List.mem_singleton.1 ho]; exact ⟨x,z,rfl⟩
def rdP (w:World) (y:List SP×Nat) (e:Ending) (w':World):Prop:=∃ (os:List StepD) (z:Option Addr×Nat),os.map spD=y.1∧okZ os∧e=.returned (.tuple #[.slice z.1 os.length z.2,.int .i64 (y.2:Int),.int .i64 (if y.2=0 then 0 else 8)])∧stepE.At w.heap.size z.1 os.length z.2 os w'∧DdAt w.heap.size os w'∧Since w w'
theorem rdP_no {w w':World} {e:Ending} {y:List SP×Nat} {n:Nat} (hy:y=([],n+1)) (he:e=.returned (.tuple #[.slice none 0 0,.int .i64 ((n+1:Nat):Int),.int .i64 8])) (hs:Since w w'):rdP w y e w':=by
 subst hy
 exact ⟨[],(none,0),rfl,okZ.nil,by rw [he]; simp,Ek.nil _ _ _,DdAt.nil _ _,hs⟩
theorem rdP_yes {w w':World} {e:Ending} {y:List SP×Nat} {os:List StepD} {B:Option Addr} {cb:Nat} (hy:y=(os.map spD,0)) (hz:okZ os) (he:e=.returned (.tuple #[.slice B os.length cb,.int .i64 0,.int .i64 0])) (h1:(rwO stepE w.heap.size B os.length cb os true).st w') (h2:(ddO w.heap.size os).st w') (hs:Since w w'):rdP w y e w':=by
 subst hy
 exact ⟨os,(B,cb),rfl,hz,by rw [he]; simp,h1,h2,hs⟩
structure RdI (s:List UInt8) (i a:Nat) (os:List StepD):Prop where
 le:i≤s.length
 la:a≤i
 no:NoB 10 s a i
 n:os.length≤i
 v:rdT 0 [] s=rdT os.length (os.map spD) (s.drop a)
 z:okZ os
theorem RdI.zero (s:List UInt8):RdI s 0 0 []:=⟨Nat.zero_le _,Nat.le_refl _,NoB.nil,Nat.le_refl _,rfl,okZ.nil⟩
theorem RdI.more {s:List UInt8} {i a:Nat} {os:List StepD} {c:UInt8} (h:RdI s i a os) (hc:s[i]?=some c) (hb:c≠10):RdI s (i+1) a os:=by
 have hl:i < s.length:=(List.getElem?_eq_some_iff.1 hc).1
 exact ⟨by omega,by have:=h.la; omega,h.no.next h.la hc hb,by have:=h.n; omega,h.v,h.z⟩
theorem RdI.bad {s:List UInt8} {i a:Nat} {os:List StepD} (h:RdI s i a os) (hc:s[i]?=some 10) (hl:lineV (piece s a i)=none):rdT 0 [] s=([],os.length+1):=by
 rw [h.v]
 exact rd_bad h.la h.no hc (by rw [← piece_is]; exact hl)
theorem RdI.line {s:List UInt8} {i a:Nat} {os:List StepD} {x:SP} {z:StepD} (h:RdI s i a os) (hc:s[i]?=some 10) (hl:lineV (piece s a i)=some x) (hz:spD z=x) (hz2:okZ (os++[z])):RdI s (i+1) (i+1) (os++[z]):=by
 have hlt:i < s.length:=(List.getElem?_eq_some_iff.1 hc).1
 refine ⟨by omega,Nat.le_refl _,NoB.nil,by have:=h.n; rw [List.length_append]; simp; omega, ?_,hz2⟩
 rw [h.v,rd_ok h.la h.no hc (x:=x) (by rw [← piece_is]; exact hl),List.length_append,List.map_append]
 simp [hz]
theorem RdI.left {s:List UInt8} {i a:Nat} {os:List StepD} (h:RdI s i a os) (hi:s.length≤i) (ha:a < s.length):rdT 0 [] s=([],os.length+1):=by
 have e:i=s.length:=by have:=h.le; omega
 subst e
 rw [h.v]
 exact rd_left h.no ha
theorem RdI.all {s:List UInt8} {i a:Nat} {os:List StepD} (h:RdI s i a os) (ha:s.length≤a):rdT 0 [] s=(os.map spD,0):=by
 rw [h.v]; exact rd_all ha
theorem rlD {lo:Nat} {os:List StepD} {s:List UInt8} {x:SP} {w:World} (hs:s.length≤900000) (hx:lineV s=some x) (h:DdAt lo os w) (hlo:lo≤w.heap.size):Calls Tryd.prog 20 #[.string ⟨s.toArray⟩] w fun e w'=>∃ z:Option Addr×Nat,e=.returned (.tuple #[.agg #[.int .i64 x.k,.int .i64 x.a,.int .i64 x.b,.slice z.1 (zsN x.d).length z.2],.bool true])∧DdAt lo (os++[stZ x z]) w'∧Upd (ddF os) w w'∧∀ g∈ddF (os++[stZ x z]),g∈ddF os∨w.heap.size≤g:=by
 refine (rlR s hs w).mono ?_
 intro e w' hp
 rw [hx] at hp
 obtain ⟨z,rfl,h1,h2⟩:=hp
 refine ⟨z,rfl,fun y hy=>?_,Upd.of_since h2,fun g hg=>?_⟩
 ·rcases List.mem_append.1 hy with hy | hy
  ·exact keep_own h2 (h y hy)
  ·rw [List.mem_singleton] at hy; subst hy; exact Ek.base h1 hlo
 ·obtain ⟨y,hy,hg⟩:=dd_mem.1 hg
  rcases List.mem_append.1 hy with hy | hy
  ·exact .inl (dd_mem.2 ⟨y,hy,hg⟩)
  ·rw [List.mem_singleton] at hy; subst hy; exact .inr (Ek.lows h1 g hg)
theorem rlN {s:List UInt8} {w:World} (hs:s.length≤900000) (hx:lineV s=none):Calls Tryd.prog 20 #[.string ⟨s.toArray⟩] w fun e w'=>∃ z:Option Addr×Nat,e=.returned (.tuple #[.agg #[.int .i64 0,.int .i64 0,.int .i64 0,.slice z.1 0 z.2],.bool false])∧byteE.At w.heap.size z.1 0 z.2 [] w'∧Since w w':=by
 refine (rlR s hs w).mono ?_
 intro e w' hp
 rw [hx] at hp
 obtain ⟨z,rfl,h1,h2⟩:=hp
 refine ⟨z, ?_, ?_,h2⟩
 ·show Ending.returned (.tuple #[.agg #[_,_,_,.slice z.1 (zsN []).length z.2],_])=_
  rw [zsN_0]; rfl
 ·rw [← zsN_0]; exact h1
attribute [local irreducible] Go.Calls lineV piece zsN
set_option maxHeartbeats 8000000 in
theorem readR (s:List UInt8) (hs:s.length≤900000) (w:World):Calls Tryd.prog 13 #[.string ⟨s.toArray⟩] w (rdP w (rdT 0 [] s)):=by
 refine entH tab_ok (Hold.addObj (Hold.addObj (Hold.nil _ tab [] _ w) (rwO stepE w.heap.size none 0 0 [] true) (Ek.nil _ _ _) (by intro _ g hg; cases hg) (by intro r hr; cases hr) (by intro A hA; cases hA)) (ddO w.heap.size []) (DdAt.nil _ _) (by intro _ g hg; cases hg) (by intro r hr; cases hr) (by intro A hA _ g hg hg2; cases hg2)) [tx s] Tryd.func13 Tryd.ntmps13 rfl rfl ?_
 repeat' ((conv=>whnf); first | refine sgo ⟨tab_ok⟩ ?_|refine br_not ?_|refine br_t rfl ?_|refine br_f rfl ?_|refine br_t (by assumption) ?_|refine br_f (by assumption) ?_|refine br_t (decide_eq_true (by assumption)) ?_|refine br_f (decide_eq_false (by assumption)) ?_|refine br_t (beq_iff_eq.2 (by assumption)) ?_|refine br_f (beq_eq_false_iff_ne.2 (by assumption)) ?_|refine drA ⟨tab_ok⟩ [] ?_|refine kpt ?_|refine br_t (decide_eq_true (by omega)) ?_|refine br_f (decide_eq_false (by omega)) ?_|refine fin_s ?_|refine fin_r ?_ ?_|refine fin_e ?_ ?_)
 conv=>whnf
 refine lp ⟨tab_ok⟩ (ι:={y:Nat×Nat×Nat×Option Addr×Nat×List StepD // RdI s y.1 y.2.1 y.2.2.2.2.2∧y.2.2.1=y.2.2.2.2.2.length+1}) (fun y=>match y with | ⟨(i,a,nn,B,cb,os),_⟩=>⟨[(0,tx s),(5,.v (.slice B os.length cb)),(6,.i .i64 (a:Int)),(7,.i .i64 (nn:Int)),(8,.i .i64 (i:Int))],[],[rwO stepE w.heap.size B os.length cb os true,ddO w.heap.size os]⟩) (fun y=>s.length - y.1.1) ⟨(0,0,1,none,0,[]),RdI.zero s,rfl⟩ (wk ?_) ?_
 ·repeat' (first | exact trivial | rfl | ((conv=>whnf); refine And.intro ?_ ?_))
 rintro ⟨⟨i,a,nn,B,cb,os⟩,hI0,hn0⟩
 have hI:RdI s i a os:=hI0
 have hnn:nn=os.length+1:=hn0
 subst hnn
 have hn:=hI.n
 have hle:=hI.le
 have ha:=hI.la
 have wn:IntKind.i64.wrap (((os.length+1:Nat):Int)+1)=((os.length+1+1:Nat):Int):=by rw [show ((os.length+1:Nat):Int)+1=((os.length+1+1:Nat):Int) by omega]; exact wr64 _ (by omega) (by omega)
 by_cases hlt:i < s.length
 ·obtain ⟨c,hc⟩:∃ c,s[i]?=some c:=⟨_,List.getElem?_eq_getElem hlt⟩
  by_cases h10:c=10
  ·subst h10
   have hpl:(piece s a i).length≤900000:=Nat.le_trans (piece_len s a i) hs
   rcases hx:lineV (piece s a i) with _|x
   ·have hno:=hI.bad hc hx
    repeat' ((conv=>whnf); first | refine sgo ⟨tab_ok⟩ ?_|refine br_not ?_|refine br_t rfl ?_|refine br_f rfl ?_|refine br_t (by assumption) ?_|refine br_f (by assumption) ?_|refine br_t (decide_eq_true (by assumption)) ?_|refine br_f (decide_eq_false (by assumption)) ?_|refine br_t (beq_iff_eq.2 (by assumption)) ?_|refine br_f (beq_eq_false_iff_ne.2 (by assumption)) ?_|intro b0 | refine drA ⟨tab_ok⟩ [] ?_|refine kpt ?_|refine br_t (decide_eq_true (by omega)) ?_|refine br_f (decide_eq_false (by omega)) ?_|refine wr_i ?_|refine opP (pvLen (xs:=s) (by rfl) (by rfl) Tryd.underlying9) ?_|refine opP (pvIdx (xs:=s) (j:=i) (by rfl) (by rfl) (by rfl) rfl hc Tryd.underlying9) ?_|refine opP (pvPc (xs:=s) a i (by rfl) (by rfl) (by rfl) (by rfl) ⟨⟨rfl,rfl⟩,ha,by omega⟩ Tryd.underlying9) ?_|refine callN (f:=20) (ι:=Option Addr×Nat) (fun z=>.t [.a [.i .i64 0,.i .i64 0,.i .i64 0,.v (.slice z.1 0 z.2)],.b false]) (fun z=>rwO byteE w.heap.size z.1 0 z.2 [] true) (fun w1 hH=>(rlN hpl hx).mono (by rintro e w' ⟨z,rfl,h1,h2⟩; exact ⟨z,rfl,Ek.base h1 hH.upd.size,h2,Ek.lows h1⟩)) (fun z=>?_)|refine fin fun w' hH=>rdP_no hno rfl hH.upd.since | refine fin_s ?_|refine fin_r ?_ ?_|refine fin_e ?_ ?_)
   ·have hok:∀ z:Option Addr×Nat,RdI s (i+1) (i+1) (os++[stZ x z]):=fun z=>hI.line hc hx (stZ_sp x z) hI.z.add
    repeat' ((conv=>whnf); first | refine sgo ⟨tab_ok⟩ ?_|refine br_not ?_|refine br_t rfl ?_|refine br_f rfl ?_|refine br_t (by assumption) ?_|refine br_f (by assumption) ?_|refine br_t (decide_eq_true (by assumption)) ?_|refine br_f (decide_eq_false (by assumption)) ?_|refine br_t (beq_iff_eq.2 (by assumption)) ?_|refine br_f (beq_eq_false_iff_ne.2 (by assumption)) ?_|intro b0 | refine drA ⟨tab_ok⟩ [] ?_|refine kpt ?_|refine br_t (decide_eq_true (by omega)) ?_|refine br_f (decide_eq_false (by omega)) ?_|refine wr wn ?_|refine wr_i ?_|refine opP (pvLen (xs:=s) (by rfl) (by rfl) Tryd.underlying9) ?_|refine opP (pvIdx (xs:=s) (j:=i) (by rfl) (by rfl) (by rfl) rfl hc Tryd.underlying9) ?_|refine opP (pvPc (xs:=s) a i (by rfl) (by rfl) (by rfl) (by rfl) ⟨⟨rfl,rfl⟩,ha,by omega⟩ Tryd.underlying9) ?_|refine callO (f:=20) (A:=ddO w.heap.size os) 1 (fun z:Option Addr×Nat=>.t [.a [.i .i64 x.k,.i .i64 x.a,.i .i64 x.b,.v (.slice z.1 (zsN x.d).length z.2)],.b true]) (fun z=>ddO w.heap.size (os++[stZ x z])) (fun w1 hH hA=>rlD hpl hx hA hH.upd.size) (fun z=>?_)|refine opb1 (e:=40) ⟨tab_ok⟩ [.i .i64 x.k,.i .i64 x.a,.i .i64 x.b,.v (.slice z.1 (zsN x.d).length z.2)] (by rfl) (by rfl) ?_|intro gb | refine opap 0 1 (e:=40) (lo:=w.heap.size) (size:=4) (bytes:=48) (z:=.agg #[.int .i64 0,.int .i64 0,.int .i64 0,.slice none 0 0]) (A:=rwO stepE w.heap.size B os.length cb os true) (vals:=rowsOf stepE.c os) (cells:=stepC (stZ x z)) (zs:=rowsOf stepE.c (os++[stZ x z])) (n2:=(os++[stZ x z]).length) (fun A2 c2=>rwO stepE w.heap.size A2 (os++[stZ x z]).length c2 (os++[stZ x z]) true) (by rfl) (by rfl) (by rfl) (by rfl) rfl rfl (fun w h=>h) (fun A' c' w h=>h) (fun _ _=>rfl) (by rfl) (by rfl) (by rfl) (by rfl) Tryd.underlying22 (by kernel_rfl) rfl (by decide) (by decide) (by intro u hu; exact stepE.one (stZ x z) u hu) (by omega) (fun w hH=>hH.upd.size) (by rw [List.length_append]; rfl) (by rw [rowsOf_append]; rfl) (fun A2 c2=>?_)|refine En.back ⟨(i+1,i+1,os.length+1+1,A2,c2,os++[stZ x z]),hok z,by show _=(os++[stZ x z]).length+1; rw [List.length_append]; rfl⟩ (wkd ?_) ?_|refine fin_s ?_|refine fin_r ?_ ?_|refine fin_e ?_ ?_)
    all_goals first | (show s.length - (i+1) < s.length - i; omega)|skip
    all_goals (repeat' (first | exact trivial | rfl | ((conv=>whnf); refine And.intro ?_ ?_)))
  ·have hne:((c.toNat:Int) == 10)=false:=beq_eq_false_iff_ne.2 (fun h=>h10 (UInt8.toNat_inj.1 (by show c.toNat=10; omega)))
   repeat' ((conv=>whnf); first | refine sgo ⟨tab_ok⟩ ?_|refine br_not ?_|refine br_t rfl ?_|refine br_f rfl ?_|refine br_t (by assumption) ?_|refine br_f (by assumption) ?_|refine br_t (decide_eq_true (by assumption)) ?_|refine br_f (decide_eq_false (by assumption)) ?_|refine br_t (beq_iff_eq.2 (by assumption)) ?_|refine br_f (beq_eq_false_iff_ne.2 (by assumption)) ?_|refine drA ⟨tab_ok⟩ [] ?_|refine kpt ?_|refine br_t (decide_eq_true (by omega)) ?_|refine br_f (decide_eq_false (by omega)) ?_|refine br_f hne ?_|refine wr_i ?_|refine opP (pvLen (xs:=s) (by rfl) (by rfl) Tryd.underlying9) ?_|refine opP (pvIdx (xs:=s) (j:=i) (by rfl) (by rfl) (by rfl) rfl hc Tryd.underlying9) ?_|refine En.back ⟨(i+1,a,os.length+1,B,cb,os),hI.more hc h10,rfl⟩ (wkd ?_) ?_|refine fin_s ?_|refine fin_r ?_ ?_|refine fin_e ?_ ?_)
   all_goals first | (show s.length - (i+1) < s.length - i; omega)|skip
   all_goals (repeat' (first | exact trivial | rfl | ((conv=>whnf); refine And.intro ?_ ?_)))
 ·by_cases hal:a < s.length
  ·have hno:=hI.left (by omega) hal
   repeat' ((conv=>whnf); first | refine sgo ⟨tab_ok⟩ ?_|refine br_not ?_|refine br_t rfl ?_|refine br_f rfl ?_|refine br_t (by assumption) ?_|refine br_f (by assumption) ?_|refine br_t (decide_eq_true (by assumption)) ?_|refine br_f (decide_eq_false (by assumption)) ?_|refine br_t (beq_iff_eq.2 (by assumption)) ?_|refine br_f (beq_eq_false_iff_ne.2 (by assumption)) ?_|refine drA ⟨tab_ok⟩ [] ?_|refine kpt ?_|refine br_t (decide_eq_true (by omega)) ?_|refine br_f (decide_eq_false (by omega)) ?_|refine wr_i ?_|refine opP (pvLen (xs:=s) (by rfl) (by rfl) Tryd.underlying9) ?_|refine fin fun w' hH=>rdP_no hno rfl hH.upd.since | refine fin_s ?_|refine fin_r ?_ ?_|refine fin_e ?_ ?_)
  ·have hyes:=hI.all (by omega)
   repeat' ((conv=>whnf); first | refine sgo ⟨tab_ok⟩ ?_|refine br_not ?_|refine br_t rfl ?_|refine br_f rfl ?_|refine br_t (by assumption) ?_|refine br_f (by assumption) ?_|refine br_t (decide_eq_true (by assumption)) ?_|refine br_f (decide_eq_false (by assumption)) ?_|refine br_t (beq_iff_eq.2 (by assumption)) ?_|refine br_f (beq_eq_false_iff_ne.2 (by assumption)) ?_|refine drA ⟨tab_ok⟩ [] ?_|refine kpt ?_|refine br_t (decide_eq_true (by omega)) ?_|refine br_f (decide_eq_false (by omega)) ?_|refine wr_i ?_|refine opP (pvLen (xs:=s) (by rfl) (by rfl) Tryd.underlying9) ?_|refine fin fun w' hH=>rdP_yes hyes hI.z rfl (Hold.ob hH (A:=rwO stepE w.heap.size B os.length cb os true) 0 rfl) (Hold.ob hH (A:=ddO w.heap.size os) 1 rfl) hH.upd.since | refine fin_s ?_|refine fin_r ?_ ?_|refine fin_e ?_ ?_)
end Sw
namespace Sp
open Go.RowKit Ba Mem En Go.Proofs.YtjghelofdfolbaaDoor.Ty Gw Rn
open Co (Hold.ob)
open Sx Sw
set_option maxRecDepth 100000
def plS:List (Bool×Nat):=[(true,0),(true,1),(true,2),(false,3)]
theorem plS_at:∀ (i:Nat) (x:Bool×Nat),plS[i]?=some x→x.2=i:=fun i x h=>by
 have hi:i < 4:=(List.getElem?_eq_some_iff.1 h).1
 have:∀ i:Fin 4,(plS[i.val]?).map (·.2)=some i.val:=by decide
 have:=this ⟨i,hi⟩
 simp only [h,Option.map_some] at this
 exact Option.some.inj this
def pwZ (x:SP) (z:Option Addr×Nat):List PW:=[.nu x.k,.nu x.a,.nu x.b,.da z.1 (zsN x.d).length z.2 (zsN x.d)]
theorem pws_st {vs:List PW} {x:SP} (h:pws vs [.n x.k,.n x.a,.n x.b,.d x.d]):∃ z:Option Addr×Nat,vs=pwZ x z:=by
 match vs,h with
 | [.nu a,.nu b,.nu c,.da A n cp zs],h =>
  obtain ⟨h1,h2,h3,h4,_⟩:=h
  have h1:a=x.k:=h1
  have h2:b=x.a:=h2
  have h3:c=x.b:=h3
  obtain ⟨h4,h5⟩:zs=zsN x.d∧n=x.d.length:=h4
  subst h1 h2 h3 h4 h5
  exact ⟨(A,cp),by unfold pwZ; rw [zsN_len]⟩
 | [.nu a,.nu b,.nu c,.nu d],h=>exact h.2.2.2.1.elim
 | [.da ..,_,_,_],h=>exact h.1.elim
 | [.nu _,.da ..,_,_],h=>exact h.2.1.elim
 | [.nu _,.nu _,.da ..,_],h=>exact h.2.2.1.elim
theorem PlAt.base {lo lo' b:Nat} {T:TypeId} {vs:List PW} {rest:List Value} {w:World} (h:PlAt lo b T vs rest w) (hb:lo'≤lo):PlAt lo' b T vs rest w:=⟨h.1,fun x hx=>⟨by
 have:=(h.2 x hx).1
 cases x with
 | nu z=>trivial
 | da A n c zs=>exact Ek.base this hb,(h.2 x hx).2⟩⟩
theorem pl_low {lo b k:Nat} {T:TypeId} {vs:List PW} {rest:List Value} {w:World} (h:PlAt lo b T vs rest w) (hk:k≤lo):∀ g∈plF b vs,g=b∨k≤g:=fun g hg=>by
 rcases pl_mem.1 hg with rfl | ⟨x,hx,hg⟩
 ·exact .inl rfl
 ·have:=(h.2 x hx).1
  cases x with
  | nu z=>cases hg
  | da A n c zs=>exact .inr (Nat.le_trans hk (Ek.lows this g hg))
theorem dd_in {X:Cx} {m:List Row} {ob:List Asr} {w:World} {lo b:Nat} {T:TypeId} {os:List StepD} {x:SP} {z:Option Addr×Nat} (hH:Hold X m ob w) (i j:Nat) (hA:ob[i]?=some (ddO lo os)) (hC:ob[j]?=some (plO lo b T (pwZ x z) [])) (hij:i≠j):Hold X m ((ob.set i (ddO lo (os++[stZ x z]))).set j nilO) w:=by
 obtain ⟨hM,hd⟩:=hH.merge hA hC hij rfl rfl
 have hij2:((ob.set i (mgO (ddO lo os) (plO lo b T (pwZ x z) []))).set j nilO)[i]?=some (mgO (ddO lo os) (plO lo b T (pwZ x z) [])):=by
  rw [List.getElem?_set_ne (Ne.symm hij),List.getElem?_set_self (List.getElem?_eq_some_iff.1 hA).1]
 have st:=hM.obj _ (List.mem_of_getElem? hij2)
 have hm:(PW.da z.1 (zsN x.d).length z.2 (zsN x.d))∈pwZ x z:=by unfold pwZ; simp
 have hH2:=hM.obj_set (B:=ddO lo (os++[stZ x z])) (w':=w) hij2 rfl (fun y hy=>by
  rcases List.mem_append.1 hy with hy | hy
  ·exact st.1 y hy
  ·rw [List.mem_singleton.1 hy]
   exact (st.2.2 _ hm).1) (Upd.refl _ _) (fun g hg=>.inl (by
  obtain ⟨y,hy,hg⟩:=dd_mem.1 hg
  rcases List.mem_append.1 hy with hy | hy
  ·exact List.mem_append.2 (.inl (dd_mem.2 ⟨y,hy,hg⟩))
  ·rw [List.mem_singleton.1 hy] at hg
   exact List.mem_append.2 (.inr (pl_mem.2 (.inr ⟨_,hm,hg⟩)))))
 have hset:((ob.set i (mgO (ddO lo os) (plO lo b T (pwZ x z) []))).set j nilO).set i (ddO lo (os++[stZ x z]))=(ob.set i (ddO lo (os++[stZ x z]))).set j nilO:=by
  rw [List.set_comm _ _ (Ne.symm hij),List.set_set]
 rw [hset] at hH2
 exact hH2
def rowsI (b2 b3 b4 b5 b6:Nat) (A:Option Addr) (n c k:Nat):List Row:=[⟨b2,22,true,0,[],[.v (.slice none 0 0)],[],true⟩,⟨b3,3,true,0,[],[.i .i64 0],[],true⟩,⟨b4,26,true,0,[],[.i .i64 0],[],true⟩,⟨b5,22,true,0,[],[.v (.slice A n c)],[],true⟩,⟨b6,3,true,0,[],[.i .i64 (k:Int)],[],true⟩]
noncomputable def obI (lo:Nat) (os:List StepD) (A:Option Addr) (c B:Nat):List Asr:=[gkO,rwO stepE lo A os.length c os true,ddO lo os,bxO B]
def okE (pre:List Ln) (os:List StepD):Prop:=pre.map (fun x=>lineQ x.1)=os.map fun o=>some (spD o)
def okL_ (pre:List Ln) (os:List StepD):Prop:=okE pre os∧okZ os
theorem okL_len {pre:List Ln} {os:List StepD} (h:okL_ pre os):pre.length=os.length:=by
 have:=congrArg List.length h.1
 simpa using this
theorem okL_add {pre:List Ln} {os:List StepD} {x:Ln} {y:SP} {z:Option Addr×Nat} (h:okL_ pre os) (hx:lineQ x.1=some y):okL_ (pre++[x]) (os++[stZ y z]):=by
 refine ⟨?_,h.2.add⟩
 have h:=h.1
 unfold okE at h ⊢
 rw [List.map_append,List.map_append,h]
 show _++[lineQ x.1]=_++[some (spD (stZ y z))]
 rw [stZ_sp,hx]
structure Env where
 w:World
 b2:Nat
 b3:Nat
 b4:Nat
 b5:Nat
 b6:Nat
 B:Nat
 n:Nat
def PaI (v:Env) (pre:List Ln) (W:World):Prop:=∃ (os:List StepD) (A:Option Addr) (c:Nat),okL_ pre os∧Hold ⟨Tryd.prog,tab,[],v.w,v.n,[]⟩ (rowsI v.b2 v.b3 v.b4 v.b5 v.b6 A os.length c pre.length) (obI v.w.heap.size os A c v.B) W
def PaX (v:Env) (pre:List Ln) (W:World):Prop:=(∃ (p:List Ln) (x:Ln) (os:List StepD),pre=p++[x]∧okL_ p os∧lineQ x.1=none)∧Upd [] v.w W∧Blk W v.b2 22 #[.slice none 0 0]∧Blk W v.b3 3 #[.int .i64 (pre.length:Int)]∧Blk W v.b4 26 #[.int .i64 8]
theorem gk_cl:Cl gkO:=fun W g h hg=>by
 obtain ⟨⟨m,hm⟩,h2,⟨v,h3,h4⟩,⟨v',h5,h6⟩⟩:=(h:GkS W)
 rcases List.mem_append.1 hg with hg | hg
 ·simp only [List.mem_cons,List.not_mem_nil,or_false] at hg
  rcases hg with rfl | rfl | rfl
  ·exact nc_cell hm
  ·exact nc_cell h3
  ·exact nc_cell h5
 ·unfold pwF at hg
  cases hk:Tryd.prog.globalNamed pw with
  | none=>rw [hk] at hg; cases hg
  | some k =>
   rw [hk] at hg
   rw [List.mem_singleton.1 hg]
   unfold Lib.TabIs World.var? at h2
   simp only [hk,Option.bind_some] at h2
   rintro ⟨o,e1,e2⟩
   rw [e1] at h2
   cases o <;> simp_all [Obj.isCells]
theorem rw_cl {α:Type} {E:Ek α} {lo n c:Nat} {A:Option Addr} {ls:List α}:Cl (rwO E lo A n c ls true):=fun W g h hg=>nc_own h hg
theorem dd_cl {lo:Nat} {os:List StepD}:Cl (ddO lo os):=fun W g h hg=>by
 obtain ⟨x,hx,hg⟩:=dd_mem.1 hg
 exact nc_own (h x hx) hg
theorem obI_cl {lo c B:Nat} {os:List StepD} {A:Option Addr}:∀ C∈obI lo os A c B,C.rw=true→Cl C:=fun C hC hr=>by
 unfold obI at hC
 simp only [List.mem_cons,List.not_mem_nil,or_false] at hC
 rcases hC with rfl | rfl | rfl | rfl
 ·exact gk_cl
 ·exact rw_cl
 ·exact dd_cl
 ·cases hr
theorem PaI.own {v:Env} {lo:Nat} (hlo:v.w.heap.size≤lo) (hB:v.w.heap.size≤v.B) (hg:GkS v.w):OwnB lo v.B (PaI v):=by
 rintro pre W W' T ⟨os,A,c,h1,hH⟩ u hT
 have hbx:bxO v.B∈obI v.w.heap.size os A c v.B:=by unfold obI; simp
 have far:∀ g,g≠v.B→¬ NC W g→g∉T:=fun g h1 h2 h3=>by
  rcases hT g h3 with h | h
  ·exact h1 h
  ·exact h2 h.2
 have bne:∀ C∈obI v.w.heap.size os A c v.B,C.rw=true→∀ g∈C.F,g≠v.B:=fun C hC hr g hg he=>by
  subst he
  exact fpt_bx hH hbx (fpt_mem.2 (.inr ⟨C,hC,hr,hg⟩))
 refine ⟨os,A,c,h1,hH.stay u (fun g hg=>?_) (fun j r hj hl=>?_) (fun C hC=>?_)⟩
 ·rcases hT g hg with rfl | h
  ·exact hB
  ·exact Nat.le_trans hlo h.1
 ·refine far _ (fun e=>?_) (nc_blk (hH.row j r hj hl))
  exact hH.far _ hbx j r hj hl (by rw [e]; exact List.mem_singleton.2 rfl)
 ·have hC2:=hC
  unfold obI at hC
  simp only [List.mem_cons,List.not_mem_nil,or_false] at hC
  rcases hC with rfl | rfl | rfl | rfl
  ·refine gkO.up u (fun g hg2=>far g (fun e=>?_) (gk_cl W g (hH.obj _ hC2) hg2)) (hH.obj _ hC2)
   have:=hg.lt g hg2
   omega
  ·exact Asr.up _ u (fun g hg2=>far g (bne _ hC2 rfl g hg2) (rw_cl W g (hH.obj _ hC2) hg2)) (hH.obj _ hC2)
  ·exact Asr.up _ u (fun g hg2=>far g (bne _ hC2 rfl g hg2) (dd_cl W g (hH.obj _ hC2) hg2)) (hH.obj _ hC2)
  ·exact Nat.lt_of_lt_of_le (hH.obj _ hC2) u.size
theorem PaX.own {v:Env} {lo:Nat} (hlo:v.w.heap.size≤lo) (hB:v.w.heap.size≤v.B) (h2:v.b2≠v.B) (h3:v.b3≠v.B) (h4:v.b4≠v.B):OwnB lo v.B (PaX v):=by
 rintro pre W W' T ⟨h,hu,k2,k3,k4⟩ u hT
 have far:∀ g,g≠v.B→¬ NC W g→g∉T:=fun g h1 h2 h3=>by
  rcases hT g h3 with h | h
  ·exact h1 h
  ·exact h2 h.2
 refine ⟨h,hu.comp u (fun g hg=>.inr ?_),u.blk k2 (far _ h2 (nc_blk k2)),u.blk k3 (far _ h3 (nc_blk k3)),u.blk k4 (far _ h4 (nc_blk k4))⟩
 rcases hT g hg with rfl | h
 ·exact hB
 ·exact Nat.le_trans hlo h.1
structure Don (X:Cx) (v:Env) (pre:List Ln) (s:St):Prop where
 out:∃ (os:List StepD) (A:Option Addr) (c:Nat),okL_ pre os∧Wk X s ⟨[],rowsI v.b2 v.b3 v.b4 v.b5 v.b6 A os.length c pre.length,obI v.w.heap.size os A c v.B⟩
structure Err (X:Cx) (v:Env) (pre:List Ln) (s:St):Prop where
 out:∀ w,Hold X s.m s.ob w→(∃ (p:List Ln) (x:Ln) (os:List StepD),pre=p++[x]∧okL_ p os∧lineQ x.1=none)∧Blk w v.b2 22 #[.slice none 0 0]∧Blk w v.b3 3 #[.int .i64 (pre.length:Int)]∧Blk w v.b4 26 #[.int .i64 8]
def RdK (X:Cx) (v:Env) (pre:List Ln) (e:Exit) (s:St):Prop:=match e with
 | .normal=>Don X v pre s
 | .ret=>Err X v pre s
 | _=>False
theorem round_end {v:Env} {pre0 pre:List Ln} {W:World} {os:List StepD} {A:Option Addr} {c n:Nat} (hH:Hold ⟨Tryd.prog,tab,[],v.w,v.n,[]⟩ (rowsI v.b2 v.b3 v.b4 v.b5 v.b6 A os.length c pre0.length) (obI v.w.heap.size os A c v.B) W) (e:Exit) (a:Act) (w:World)
  (k:Qof ⟨Tryd.prog,tab,fpt (rowsI v.b2 v.b3 v.b4 v.b5 v.b6 A os.length c pre0.length) (obI v.w.heap.size os A c v.B),W,n,[]⟩ (RdK ⟨Tryd.prog,tab,fpt (rowsI v.b2 v.b3 v.b4 v.b5 v.b6 A os.length c pre0.length) (obI v.w.heap.size os A c v.B),W,n,[]⟩ v pre) e a w):bodyP v.B (PaI v) (PaX v) pre W e a w:=by
 have hbx:bxO v.B∈obI v.w.heap.size os A c v.B:=by unfold obI; simp
 have keep:∀ {w:World},Upd (fpt (rowsI v.b2 v.b3 v.b4 v.b5 v.b6 A os.length c pre0.length) (obI v.w.heap.size os A c v.B)) W w→∀ (k:Nat) (o:Obj),W.heap[k]?=some o→(o.isCells=false∨k=v.B)→w.heap[k]?=some o:=fun u k o h1 h2=>by
  refine (u.block k (Array.getElem?_eq_some_iff.1 h1).1 ?_).trans h1
  rcases h2 with h2 | rfl
  ·exact fun h=>fpt_cl hH obI_cl h ⟨o,h1,h2⟩
  ·exact fpt_bx hH hbx
 cases e with
 | normal =>
  obtain ⟨s,hR,hD⟩:=k
  obtain ⟨os2,A2,c2,h1,h2⟩:=hD.out
  exact ⟨keep hR.h.upd,os2,A2,c2,h1,hH.outof (h2.out a w hR).h⟩
 | ret =>
  obtain ⟨s,hR,hE⟩:=k
  obtain ⟨h1,h2,h3,h4⟩:=hE.out w hR.h
  exact ⟨keep hR.h.upd,h1,(hH.outof (n2:=0) (ds2:=[]) hR.h).upd,h2,h3,h4⟩
 | exit id=>obtain ⟨s,hR,h⟩:=k; exact h.elim
 | goto t=>exact k.elim
 | panic ch=>exact k.elim
 | outgrown=>exact k.elim
theorem FrOk.nil {m:List Row} {tm:Array Value}:FrOk m tm []:=fun k v h=>by cases h
theorem FrOk.cons {m:List Row} {tm:Array Value} {fr:List (Nat×SV)} {j:Nat} {u:SV} (h1:okV m.length u=true) (h2:tm[j]?=some (den m u)) (h:FrOk m tm fr):FrOk m tm ((j,u)::fr):=fun k v hv=>by
 unfold lkO at hv
 cases hb:Nat.beq j k with
 | true =>
  rw [hb] at hv
  have:=Nat.eq_of_beq_eq_true hb
  subst this
  cases hv
  exact ⟨h1,h2⟩
 | false=>rw [hb] at hv; exact h k v hv
theorem goE_ok:∀ {pre:List Ln} {os:List StepD} {n:Nat} {acc:List SP} {r:List (List UInt8)},okE pre os→goE n acc (pre.map (·.1)++r)=goE (n+pre.length) (acc++os.map spD) r
 | [],[],n,acc,r,_=>by simp
 | [],_::_,_,_,_,h=>by cases h
 | _::_,[],_,_,_,h=>by cases h
 | x::p,o::os,n,acc,r,h=>by
  unfold okE at h
  simp only [List.map_cons,List.cons.injEq] at h
  rw [List.map_cons,List.cons_append,goE_c,h.1]
  show goE (n+1) (acc++[spD o]) (p.map (·.1)++r)=_
  rw [goE_ok (os:=os) h.2]
  simp [Nat.add_assoc,Nat.add_comm 1]
theorem rd_all_ok {s:List UInt8} {xs:List Ln} {os:List StepD} (h:okL_ xs os) (hx:xs.map (·.1)=lnE s):rdT 0 [] s=(os.map spD,0):=by
 have:=goE_ok (n:=0) (acc:=[]) (r:=[]) h.1
 rw [List.append_nil,hx] at this
 rw [rd_is,this]; rfl
theorem rd_err {s:List UInt8} {pre:List Ln} {r:List (List UInt8)} (h:∃ (p:List Ln) (x:Ln) (os:List StepD),pre=p++[x]∧okL_ p os∧lineQ x.1=none) (hx:pre.map (·.1)++r=lnE s):∃ k,pre.length=k+1∧rdT 0 [] s=([],k+1):=by
 obtain ⟨p,x,os,rfl,h1,h2⟩:=h
 refine ⟨p.length,by rw [List.length_append]; rfl, ?_⟩
 rw [List.map_append,List.append_assoc] at hx
 rw [rd_is,← hx,goE_ok h1.1]
 show goE _ _ (x.1::r)=_
 rw [goE_c,h2]
 simp
end Sp
namespace Sp
open Go.RowKit Ba Mem En Go.Proofs.YtjghelofdfolbaaDoor.Ty Gw Rn
open Co (Hold.ob)
open Sx Sw
set_option maxRecDepth 100000
def tbO (B:Nat) (s:List UInt8):Asr:=⟨[B],true,fun w=>bx w B s,fun u hd h=>u.blk h (hd B (List.mem_singleton.2 rfl)),fun h g hg=>by rw [List.mem_singleton] at hg; subst hg; exact Blk.lt h⟩
theorem hold_I0 {w W:World} {b2 b3 b4 b5 b6 B n:Nat} {s:List UInt8} (h:Hold ⟨Tryd.prog,tab,[],w,n,[]⟩ (rowsI b2 b3 b4 b5 b6 none 0 0 0) [gkO,tbO B s] W):Hold ⟨Tryd.prog,tab,[],w,n,[]⟩ (rowsI b2 b3 b4 b5 b6 none 0 0 0) (obI w.heap.size [] none 0 B) W:=by
 have m0:gkO∈[gkO,tbO B s]:=List.mem_cons_self ..
 have m1:tbO B s∈[gkO,tbO B s]:=List.mem_cons_of_mem _ (List.mem_cons_self ..)
 have h0:Hold ⟨Tryd.prog,tab,[],w,n,[]⟩ (rowsI b2 b3 b4 b5 b6 none 0 0 0) [gkO] W:=⟨h.upd,h.row,h.wf,h.ne,fun C hC=>h.obj C (by rw [List.mem_singleton.1 hC]; exact m0),fun C hC=>h.far C (by rw [List.mem_singleton.1 hC]; exact m0),fun C hC=>h.own C (by rw [List.mem_singleton.1 hC]; exact m0),List.pairwise_singleton _ _⟩
 have h1:=Hold.addObj h0 (rwO stepE w.heap.size none 0 0 [] true) (Ek.nil _ _ _) (by intro _ g hg; cases hg) (by intro r _ _ hg; cases hg) (by intro A _ _ g _ hg; cases hg)
 have h2:=Hold.addObj h1 (ddO w.heap.size []) (DdAt.nil _ _) (by intro _ g hg; cases hg) (by intro r _ _ hg; cases hg) (by intro A _ _ g _ hg; cases hg)
 refine Hold.addObj h2 (bxO B) (Blk.lt (h.obj _ m1)) (by intro h; cases h) (fun r hr hl hg=>?_) (fun A hA hw=>?_)
 ·obtain ⟨j,hj⟩:=List.getElem?_of_mem hr
  exact h.far _ m1 j r hj hl hg
 ·rcases List.mem_append.1 hA with hA | hA
  ·rcases List.mem_append.1 hA with hA | hA
   ·rw [List.mem_singleton.1 hA] at hw; rcases hw with h | h <;> cases h
   ·rw [List.mem_singleton.1 hA]; intro g hg; cases hg
  ·rw [List.mem_singleton.1 hA]; intro g hg; cases hg
theorem obI_up {lo c B:Nat} {os:List StepD} {A:Option Addr} {T:List Nat} {W W':World} (h:∀ C∈obI lo os A c B,C.st W) (u:Upd T W W') (hT:∀ g∈T,NC W g):∀ C∈obI lo os A c B,C.st W':=fun C hC=>by
 have hC2:=hC
 unfold obI at hC
 simp only [List.mem_cons,List.not_mem_nil,or_false] at hC
 rcases hC with rfl | rfl | rfl | rfl
 ·exact gkO.up u (fun g hg h3=>gk_cl W g (h _ hC2) hg (hT g h3)) (h _ hC2)
 ·exact Asr.up _ u (fun g hg h3=>rw_cl W g (h _ hC2) hg (hT g h3)) (h _ hC2)
 ·exact Asr.up _ u (fun g hg h3=>dd_cl W g (h _ hC2) hg (hT g h3)) (h _ hC2)
 ·exact Nat.lt_of_lt_of_le (h _ hC2) u.size
theorem hold_X {w W0 W:World} {b2 b3 b4 b5 b6 n:Nat} {k:Int} {ob:List Asr} (h:Hold ⟨Tryd.prog,tab,[],w,n,[]⟩ (rowsI b2 b3 b4 b5 b6 none 0 0 0) ob W0) (hu:Upd [] w W) (k2:Blk W b2 22 #[.slice none 0 0]) (k3:Blk W b3 3 #[.int .i64 k]) (k4:Blk W b4 26 #[.int .i64 8]):Hold ⟨Tryd.prog,tab,[],w,n,[]⟩ [⟨b2,22,true,0,[],[.v (.slice none 0 0)],[],true⟩,⟨b3,3,true,0,[],[.i .i64 k],[],true⟩,⟨b4,26,true,0,[],[.i .i64 8],[],true⟩] [] W:=by
 have e23:b2≠b3:=h.ne 0 1 _ _ rfl rfl rfl rfl (by decide)
 have e24:b2≠b4:=h.ne 0 2 _ _ rfl rfl rfl rfl (by decide)
 have e34:b3≠b4:=h.ne 1 2 _ _ rfl rfl rfl rfl (by decide)
 have l2:=(h.wf 0 _ rfl rfl).2.2 rfl
 have l3:=(h.wf 1 _ rfl rfl).2.2 rfl
 have l4:=(h.wf 2 _ rfl rfl).2.2 rfl
 refine ⟨hu, ?_, ?_, ?_,(by intro A hA; cases hA),(by intro A hA; cases hA),(by intro A hA; cases hA),List.Pairwise.nil⟩
 ·rintro (_ | _ | _|j) r hj hl
  ·cases hj; exact k2
  ·cases hj; exact k3
  ·cases hj; exact k4
  ·simp at hj
 ·rintro (_ | _ | _|j) r hj hl
  ·cases hj; exact ⟨rfl,rfl,fun _=>l2⟩
  ·cases hj; exact ⟨rfl,rfl,fun _=>l3⟩
  ·cases hj; exact ⟨rfl,rfl,fun _=>l4⟩
  ·simp at hj
 ·rintro (_ | _ | _|i) (_ | _ | _|j) r q hi hj _ _ hij <;> simp at hi hj <;> (try subst hi) <;> (try subst hj) <;> first
   | exact absurd rfl hij
   | assumption
   | exact Ne.symm (by assumption)
theorem don {X:Cx} {v:Env} {pre:List Ln} {s:St} {os:List StepD} {A:Option Addr} {c:Nat} {ob2:List Asr} (hH:∀ w,Hold X s.m s.ob w→Hold X s.m ob2 w) (hok:okL_ pre os) (hw:Wk X ⟨s.fr,s.m,ob2⟩ ⟨[],rowsI v.b2 v.b3 v.b4 v.b5 v.b6 A os.length c pre.length,obI v.w.heap.size os A c v.B⟩):Don X v pre s:=⟨⟨os,A,c,hok,⟨fun a w hR=>hw.out a w ⟨hR.ds,hR.sz,hR.fr,hH w hR.h⟩⟩⟩⟩
theorem err {X:Cx} {v:Env} {pre:List Ln} {s:St} (h:∀ w,Hold X s.m s.ob w→(∃ (p:List Ln) (x:Ln) (os:List StepD),pre=p++[x]∧okL_ p os∧lineQ x.1=none)∧Blk w v.b2 22 #[.slice none 0 0]∧Blk w v.b3 3 #[.int .i64 (pre.length:Int)]∧Blk w v.b4 26 #[.int .i64 8]):Err X v pre s:=⟨h⟩
attribute [local irreducible] Go.Calls goE lineQ readV zsN
set_option maxHeartbeats 8000000 in
theorem parseP (s:List UInt8) (hs:s.length≤200000) {w:World} (hg:GkS w):Calls Tryd.prog 10 #[.string ⟨s.toArray⟩] w (rdP w (rdT 0 [] s)):=by
 refine entW (N:=2) (hold_gk hg) [tx s] Tryd.func10 Tryd.ntmps10 rfl rfl ?_
 repeat' ((conv=>whnf); first | refine sgo ⟨tab_ok⟩ ?_|refine br_not ?_|refine br_t rfl ?_|refine br_f rfl ?_|refine br_t (by assumption) ?_|refine br_f (by assumption) ?_|refine br_t (decide_eq_true (by assumption)) ?_|refine br_f (decide_eq_false (by assumption)) ?_|refine br_t (beq_iff_eq.2 (by assumption)) ?_|refine br_f (beq_eq_false_iff_ne.2 (by assumption)) ?_|refine wreg ⟨tab_ok⟩ ?_|refine drA ⟨tab_ok⟩ [] ?_|refine kpt ?_|refine br_t (decide_eq_true (by omega)) ?_|refine br_f (decide_eq_false (by omega)) ?_|refine fin_s ?_|refine fin_r ?_ ?_|refine fin_e ?_ ?_)
 conv=>whnf
 intro b2
 repeat' ((conv=>whnf); first | refine sgo ⟨tab_ok⟩ ?_|refine br_not ?_|refine br_t rfl ?_|refine br_f rfl ?_|refine br_t (by assumption) ?_|refine br_f (by assumption) ?_|refine br_t (decide_eq_true (by assumption)) ?_|refine br_f (decide_eq_false (by assumption)) ?_|refine br_t (beq_iff_eq.2 (by assumption)) ?_|refine br_f (beq_eq_false_iff_ne.2 (by assumption)) ?_|refine wreg ⟨tab_ok⟩ ?_|refine drA ⟨tab_ok⟩ [] ?_|refine kpt ?_|refine br_t (decide_eq_true (by omega)) ?_|refine br_f (decide_eq_false (by omega)) ?_|refine fin_s ?_|refine fin_r ?_ ?_|refine fin_e ?_ ?_)
 conv=>whnf
 intro b3
 repeat' ((conv=>whnf); first | refine sgo ⟨tab_ok⟩ ?_|refine br_not ?_|refine br_t rfl ?_|refine br_f rfl ?_|refine br_t (by assumption) ?_|refine br_f (by assumption) ?_|refine br_t (decide_eq_true (by assumption)) ?_|refine br_f (decide_eq_false (by assumption)) ?_|refine br_t (beq_iff_eq.2 (by assumption)) ?_|refine br_f (beq_eq_false_iff_ne.2 (by assumption)) ?_|refine wreg ⟨tab_ok⟩ ?_|refine drA ⟨tab_ok⟩ [] ?_|refine kpt ?_|refine br_t (decide_eq_true (by omega)) ?_|refine br_f (decide_eq_false (by omega)) ?_|refine fin_s ?_|refine fin_r ?_ ?_|refine fin_e ?_ ?_)
 conv=>whnf
 intro b4
 repeat' ((conv=>whnf); first | refine sgo ⟨tab_ok⟩ ?_|refine br_not ?_|refine br_t rfl ?_|refine br_f rfl ?_|refine br_t (by assumption) ?_|refine br_f (by assumption) ?_|refine br_t (decide_eq_true (by assumption)) ?_|refine br_f (decide_eq_false (by assumption)) ?_|refine br_t (beq_iff_eq.2 (by assumption)) ?_|refine br_f (beq_eq_false_iff_ne.2 (by assumption)) ?_|refine wreg ⟨tab_ok⟩ ?_|refine drA ⟨tab_ok⟩ [] ?_|refine kpt ?_|refine br_t (decide_eq_true (by omega)) ?_|refine br_f (decide_eq_false (by omega)) ?_|refine fin_s ?_|refine fin_r ?_ ?_|refine fin_e ?_ ?_)
 conv=>whnf
 intro b5
 repeat' ((conv=>whnf); first | refine sgo ⟨tab_ok⟩ ?_|refine br_not ?_|refine br_t rfl ?_|refine br_f rfl ?_|refine br_t (by assumption) ?_|refine br_f (by assumption) ?_|refine br_t (decide_eq_true (by assumption)) ?_|refine br_f (decide_eq_false (by assumption)) ?_|refine br_t (beq_iff_eq.2 (by assumption)) ?_|refine br_f (beq_eq_false_iff_ne.2 (by assumption)) ?_|refine wreg ⟨tab_ok⟩ ?_|refine drA ⟨tab_ok⟩ [] ?_|refine kpt ?_|refine br_t (decide_eq_true (by omega)) ?_|refine br_f (decide_eq_false (by omega)) ?_|refine fin_s ?_|refine fin_r ?_ ?_|refine fin_e ?_ ?_)
 conv=>whnf
 intro b6
 repeat' ((conv=>whnf); first | refine sgo ⟨tab_ok⟩ ?_|refine br_not ?_|refine br_t rfl ?_|refine br_f rfl ?_|refine br_t (by assumption) ?_|refine br_f (by assumption) ?_|refine br_t (decide_eq_true (by assumption)) ?_|refine br_f (decide_eq_false (by assumption)) ?_|refine br_t (beq_iff_eq.2 (by assumption)) ?_|refine br_f (beq_eq_false_iff_ne.2 (by assumption)) ?_|refine wreg ⟨tab_ok⟩ ?_|refine wsq ?_|refine drA ⟨tab_ok⟩ [] ?_|refine kpt ?_|refine br_t (decide_eq_true (by omega)) ?_|refine br_f (decide_eq_false (by omega)) ?_|refine callN (f:=24) (ι:=Nat) (fun B=>.v (lnF B)) (fun B=>tbO B s) (fun w1 hH=>(linesC s w1).mono (by rintro e w' ⟨B,rfl,h1,h2,h3⟩; exact ⟨B,rfl,h2,h3,by intro g hg; rw [List.mem_singleton.1 hg]; exact h1⟩)) (fun B=>?_)|refine fin_s ?_|refine fin_r ?_ ?_|refine fin_e ?_ ?_)
 conv=>whnf
 refine ⟨fun a W0 hR=>wpIn_block ?_⟩
 have hH:=hR.h
 have m1:tbO B s∈[gkO,tbO B s]:=List.mem_cons_of_mem _ (List.mem_cons_self ..)
 have hBB:B∈(tbO B s).F:=List.mem_singleton.2 rfl
 have hB0:w.heap.size≤B:=(hH.own _ m1 rfl B hBB).resolve_left (by intro h; cases h)
 have hbx:bx W0 B s:=hH.obj _ m1
 have hsz:w.heap.size≤W0.heap.size:=hH.upd.size
 have n2:b2≠B:=fun e=>hH.far _ m1 0 _ rfl rfl (by rw [← e] at hBB ⊢; exact hBB)
 have n3:b3≠B:=fun e=>hH.far _ m1 1 _ rfl rfl (by rw [← e] at hBB ⊢; exact hBB)
 have n4:b4≠B:=fun e=>hH.far _ m1 2 _ rfl rfl (by rw [← e] at hBB ⊢; exact hBB)
 have hI0:=hold_I0 hH
 refine rangeB (n:=0) (gf:=37) (lb:=#[.pointer (some ⟨B,0,none⟩)]) (evO_of hR.fr (x:=.tmp 10) (v:=.v (lnF B)) rfl).2 (entC (by kernel_rfl)) (linesP s B W0 hbx hs) (Blk.lt hbx) rfl (PaI ⟨w,b2,b3,b4,b5,b6,B,32⟩) (PaX ⟨w,b2,b3,b4,b5,b6,B,32⟩) (PaI.own hsz hB0 hg) (PaX.own hsz hB0 n2 n3 n4) ⟨[],none,0,⟨rfl,okZ.nil⟩,hI0⟩ (fun x=>rdA a 11 7 (lnV x)) (fun l x W K hK=>assign_of rfl rfl rfl (by rw [hR.sz]; show 11 < 32; decide) hK) ?body ?done ?stop
 case body =>
  rintro l pre x W ⟨os,A,c,h1,hHW⟩ hlt
  have hle:=(lnE_sum _ s (Nat.le_refl _)).1
  have hpl:pre.length < 200000:=by omega
  have hol:=okL_len h1
  have hlo:w.heap.size≤W.heap.size:=hHW.upd.size
  have hnum:IntKind.i64.wrap ((pre.length:Int)+1)=(((pre++[x]).length:Nat):Int):=by
   rw [List.length_append,show (pre.length:Int)+1=((pre.length + [x].length:Nat):Int) by simp]
   exact wr64 _ (by omega) (by simp; omega)
  refine round_of (X:=⟨Tryd.prog,tab,fpt (rowsI b2 b3 b4 b5 b6 A os.length c pre.length) (obI w.heap.size os A c B),W,32,[]⟩) (s:=⟨[(2,.p 0 0),(3,.p 1 0),(4,.p 2 0),(5,.p 3 0),(6,.p 4 0),(7,tx x.1)],rowsI b2 b3 b4 b5 b6 A os.length c pre.length,obI w.heap.size os A c B⟩) (K:=RdK _ ⟨w,b2,b3,b4,b5,b6,B,32⟩ (pre++[x])) ?_ ⟨rfl,by simp [rdA,hR.sz], ?_,hHW.into⟩ (round_end hHW)
  rotate_left
  ·have e:∀ k,k≠11→k≠7→(rdA a 11 7 (lnV x)).tmps[k]?=a.tmps[k]?:=fun k h1 h2=>by
    unfold rdA
    rw [Array.getElem?_setIfInBounds_ne (Ne.symm h2),Array.getElem?_setIfInBounds_ne (Ne.symm h1)]
   have e7:(rdA a 11 7 (lnV x)).tmps[7]?=some (lnV x):=by
    unfold rdA
    rw [Array.getElem?_setIfInBounds_self_of_lt]
    rw [Array.size_setIfInBounds,hR.sz]; show 7 < 32; decide
   refine FrOk.cons rfl ?_ (FrOk.cons rfl ?_ (FrOk.cons rfl ?_ (FrOk.cons rfl ?_ (FrOk.cons rfl ?_ (FrOk.cons rfl e7 FrOk.nil)))))
   ·rw [e 2 (by decide) (by decide)]; exact (hR.fr 2 (.p 0 0) rfl).2
   ·rw [e 3 (by decide) (by decide)]; exact (hR.fr 3 (.p 1 0) rfl).2
   ·rw [e 4 (by decide) (by decide)]; exact (hR.fr 4 (.p 2 0) rfl).2
   ·rw [e 5 (by decide) (by decide)]; exact (hR.fr 5 (.p 3 0) rfl).2
   ·rw [e 6 (by decide) (by decide)]; exact (hR.fr 6 (.p 4 0) rfl).2
  obtain ⟨xl,hx20⟩:=x
  have hgs:=readS xl
  refine runI_of ⟨tab_ok⟩ (by kernel_rfl) ?_
  cases hv:readV kS xl with
  | none =>
   have hbad:lineQ xl=none:=by rw [hv] at hgs; exact hgs
   have hv2:readV (plS.map (·.1)) xl=none:=hv
   repeat' ((conv=>whnf); first | refine sgo ⟨tab_ok⟩ ?_|refine br_not ?_|refine br_t rfl ?_|refine br_f rfl ?_|refine br_t (by assumption) ?_|refine br_f (by assumption) ?_|refine br_t (decide_eq_true (by assumption)) ?_|refine br_f (decide_eq_false (by assumption)) ?_|refine br_t (beq_iff_eq.2 (by assumption)) ?_|refine br_f (beq_eq_false_iff_ne.2 (by assumption)) ?_|refine sgoI ⟨tab_ok⟩ ?_|refine drI ⟨tab_ok⟩ [] ?_|refine kpt ?_|refine br_t (decide_eq_true (by omega)) ?_|refine br_f (decide_eq_false (by omega)) ?_|refine wr hnum ?_|refine pufv ⟨tab_ok⟩ (by rfl) (by rfl) (by rfl) (by rfl) ?_|refine opP (pvMkE (v':=.pointer (some ⟨b8,_,none⟩)) (by rfl) (by rfl) (by kernel_rfl) (by first | (simp only [Go.WideShapes.add_plain,den]; done)|rfl)) ?_|refine opbo ⟨tab_ok⟩ (plE b8) plS [.tmp 16,.tmp 18,.tmp 20,.tmp 22] [.v (.iface 57 (.pointer (some ⟨b8,0,none⟩))),.v (.iface 57 (.pointer (some ⟨b8,1,none⟩))),.v (.iface 57 (.pointer (some ⟨b8,2,none⟩))),.v (.iface 58 (.pointer (some ⟨b8,3,none⟩)))] (by rfl) (by rfl) (by rfl) (by rfl) rfl (fun g=>?_)|refine fin_s ?_|refine fin_r ?_ ?_|refine fin_e ?_ ?_)
   conv=>whnf
   intro b8
   repeat' ((conv=>whnf); first | refine sgo ⟨tab_ok⟩ ?_|refine br_not ?_|refine br_t rfl ?_|refine br_f rfl ?_|refine br_t (by assumption) ?_|refine br_f (by assumption) ?_|refine br_t (decide_eq_true (by assumption)) ?_|refine br_f (decide_eq_false (by assumption)) ?_|refine br_t (beq_iff_eq.2 (by assumption)) ?_|refine br_f (beq_eq_false_iff_ne.2 (by assumption)) ?_|refine sgoI ⟨tab_ok⟩ ?_|refine drI ⟨tab_ok⟩ [] ?_|refine kpt ?_|refine br_t (decide_eq_true (by omega)) ?_|refine br_f (decide_eq_false (by omega)) ?_|refine wr hnum ?_|refine pufv ⟨tab_ok⟩ (by rfl) (by rfl) (by rfl) (by rfl) ?_|refine opP (pvMkE (v':=.pointer (some ⟨b8,_,none⟩)) (by rfl) (by rfl) (by kernel_rfl) (by first | (simp only [Go.WideShapes.add_plain,den]; done)|rfl)) ?_|refine opbo ⟨tab_ok⟩ (plE b8) plS [.tmp 16,.tmp 18,.tmp 20,.tmp 22] [.v (.iface 57 (.pointer (some ⟨b8,0,none⟩))),.v (.iface 57 (.pointer (some ⟨b8,1,none⟩))),.v (.iface 57 (.pointer (some ⟨b8,2,none⟩))),.v (.iface 58 (.pointer (some ⟨b8,3,none⟩)))] (by rfl) (by rfl) (by rfl) (by rfl) rfl (fun g=>?_)|refine rowX (f:=25) 5 (plO w.heap.size b8 40 [] [.int .i64 0,.int .i64 0,.int .i64 0,.slice none 0 0]) (by rfl) (by rfl) (by rfl) (fun w h=>⟨h,by intro x hx; cases hx⟩) (by rfl) ?_|refine callO (f:=25) 5 (A:=plO w.heap.size b8 40 [] [.int .i64 0,.int .i64 0,.int .i64 0,.slice none 0 0]) (ι:=Unit) (fun _=>.b false) (fun _=>nilO) (fun w1 hH _=>(readH hH 5 4 (lo:=w.heap.size) (b:=b8) (T:=40) (rest:=[.int .i64 0,.int .i64 0,.int .i64 0,.slice none 0 0]) (g:=g) (n:=4) (c:=4) (pls:=plS) (by rfl) (by rfl) (by rfl) xl (by omega) rfl plS_at rfl (by decide) (by decide)).mono (by rw [hv2]; rintro e w' ⟨rfl,h2,_⟩; exact ⟨(),rfl,trivial,h2,by intro g hg; cases hg⟩)) (fun _=>?_)|refine err fun w' hH=>⟨⟨pre,_,os,rfl,h1,hbad⟩,hH.row 0 _ rfl rfl,hH.row 1 _ rfl rfl,hH.row 2 _ rfl rfl⟩|refine fin_s ?_|refine fin_r ?_ ?_|refine fin_e ?_ ?_)
  | some ys =>
   rw [hv] at hgs
   obtain ⟨y,hys,hy⟩:=hgs
   subst hys
   have hv2:readV (plS.map (·.1)) xl=some [.n y.k,.n y.a,.n y.b,.d y.d]:=hv
   repeat' ((conv=>whnf); first | refine sgo ⟨tab_ok⟩ ?_|refine br_not ?_|refine br_t rfl ?_|refine br_f rfl ?_|refine br_t (by assumption) ?_|refine br_f (by assumption) ?_|refine br_t (decide_eq_true (by assumption)) ?_|refine br_f (decide_eq_false (by assumption)) ?_|refine br_t (beq_iff_eq.2 (by assumption)) ?_|refine br_f (beq_eq_false_iff_ne.2 (by assumption)) ?_|refine sgoI ⟨tab_ok⟩ ?_|refine drI ⟨tab_ok⟩ [] ?_|refine kpt ?_|refine br_t (decide_eq_true (by omega)) ?_|refine br_f (decide_eq_false (by omega)) ?_|refine wr hnum ?_|refine pufv ⟨tab_ok⟩ (by rfl) (by rfl) (by rfl) (by rfl) ?_|refine opP (pvMkE (v':=.pointer (some ⟨b8,_,none⟩)) (by rfl) (by rfl) (by kernel_rfl) (by first | (simp only [Go.WideShapes.add_plain,den]; done)|rfl)) ?_|refine opbo ⟨tab_ok⟩ (plE b8) plS [.tmp 16,.tmp 18,.tmp 20,.tmp 22] [.v (.iface 57 (.pointer (some ⟨b8,0,none⟩))),.v (.iface 57 (.pointer (some ⟨b8,1,none⟩))),.v (.iface 57 (.pointer (some ⟨b8,2,none⟩))),.v (.iface 58 (.pointer (some ⟨b8,3,none⟩)))] (by rfl) (by rfl) (by rfl) (by rfl) rfl (fun g=>?_)|refine fin_s ?_|refine fin_r ?_ ?_|refine fin_e ?_ ?_)
   conv=>whnf
   intro b8
   repeat' ((conv=>whnf); first | refine sgo ⟨tab_ok⟩ ?_|refine br_not ?_|refine br_t rfl ?_|refine br_f rfl ?_|refine br_t (by assumption) ?_|refine br_f (by assumption) ?_|refine br_t (decide_eq_true (by assumption)) ?_|refine br_f (decide_eq_false (by assumption)) ?_|refine br_t (beq_iff_eq.2 (by assumption)) ?_|refine br_f (beq_eq_false_iff_ne.2 (by assumption)) ?_|refine sgoI ⟨tab_ok⟩ ?_|refine drI ⟨tab_ok⟩ [] ?_|refine kpt ?_|refine br_t (decide_eq_true (by omega)) ?_|refine br_f (decide_eq_false (by omega)) ?_|refine wr hnum ?_|refine pufv ⟨tab_ok⟩ (by rfl) (by rfl) (by rfl) (by rfl) ?_|refine opP (pvMkE (v':=.pointer (some ⟨b8,_,none⟩)) (by rfl) (by rfl) (by kernel_rfl) (by first | (simp only [Go.WideShapes.add_plain,den]; done)|rfl)) ?_|refine opbo ⟨tab_ok⟩ (plE b8) plS [.tmp 16,.tmp 18,.tmp 20,.tmp 22] [.v (.iface 57 (.pointer (some ⟨b8,0,none⟩))),.v (.iface 57 (.pointer (some ⟨b8,1,none⟩))),.v (.iface 57 (.pointer (some ⟨b8,2,none⟩))),.v (.iface 58 (.pointer (some ⟨b8,3,none⟩)))] (by rfl) (by rfl) (by rfl) (by rfl) rfl (fun g=>?_)|refine rowX (f:=25) 5 (plO w.heap.size b8 40 [] [.int .i64 0,.int .i64 0,.int .i64 0,.slice none 0 0]) (by rfl) (by rfl) (by rfl) (fun w h=>⟨h,by intro x hx; cases hx⟩) (by rfl) ?_|refine callO (f:=25) 5 (A:=plO w.heap.size b8 40 [] [.int .i64 0,.int .i64 0,.int .i64 0,.slice none 0 0]) (ι:=Option Addr×Nat) (fun _=>.b true) (fun z=>plO w.heap.size b8 40 (pwZ y z) []) (fun w1 hH _=>(readH hH 5 4 (lo:=w.heap.size) (b:=b8) (T:=40) (rest:=[.int .i64 0,.int .i64 0,.int .i64 0,.slice none 0 0]) (g:=g) (n:=4) (c:=4) (pls:=plS) (by rfl) (by rfl) (by rfl) xl (by omega) rfl plS_at rfl (by decide) (by decide)).mono (by rw [hv2]; rintro e w' ⟨rfl,h2,h3⟩; obtain ⟨vs,p1,p2⟩:=h3 _ rfl; obtain ⟨z,rfl⟩:=pws_st p1; exact ⟨z,rfl,PlAt.base p2 (Nat.le_trans hlo hH.upd.size),h2,fun g hg=>(pl_low p2 (Nat.le_refl _) g hg).imp (fun e=>by rw [e]; exact pl_mem.2 (.inl rfl)) id⟩)) (fun z=>?_)|refine opixp (j:=5) (q:=0) (r:=⟨b8,40,false,0,[],[.i .i64 0,.i .i64 0,.i .i64 0,.v (.slice none 0 0)],[],true⟩) [.i .i64 y.k,.i .i64 y.a,.i .i64 y.b,.v (.slice z.1 (zsN y.d).length z.2)] (by rfl) (fun w1 hH=>pl_all (Hold.ob hH (A:=plO w.heap.size b8 40 (pwZ y z) []) 5 rfl)) ⟨tab_ok⟩ (by rfl) (by rfl) ?_ (by rfl) (by rfl)|refine opb1 (e:=40) ⟨tab_ok⟩ [.i .i64 y.k,.i .i64 y.a,.i .i64 y.b,.v (.slice z.1 (zsN y.d).length z.2)] (by rfl) (by rfl) ?_|intro gb | refine opap 1 6 (e:=40) (lo:=w.heap.size) (size:=4) (bytes:=48) (z:=.agg #[.int .i64 0,.int .i64 0,.int .i64 0,.slice none 0 0]) (A:=rwO stepE w.heap.size A os.length c os true) (vals:=rowsOf stepE.c os) (cells:=stepC (stZ y z)) (zs:=rowsOf stepE.c (os++[stZ y z])) (n2:=(os++[stZ y z]).length) (fun A2 c2=>rwO stepE w.heap.size A2 (os++[stZ y z]).length c2 (os++[stZ y z]) true) (by rfl) (by rfl) (by rfl) (by rfl) rfl rfl (fun w h=>h) (fun A' c' w h=>h) (fun _ _=>rfl) (by rfl) (by rfl) (by rfl) (by rfl) Tryd.underlying22 (by kernel_rfl) rfl (by decide) (by decide) (by intro u hu; exact stepE.one (stZ y z) u hu) (by omega) (fun w1 hH=>Nat.le_trans hlo hH.upd.size) (by rw [List.length_append]; rfl) (by rw [rowsOf_append]; rfl) (fun A2 c2=>?_)|refine don (os:=os++[stZ y z]) (A:=A2) (c:=c2) (fun w h=>dd_in h 2 5 rfl rfl (by decide)) (okL_add h1 hy) (wkd ?_)|refine fin_s ?_|refine fin_r ?_ ?_|refine fin_e ?_ ?_)
   all_goals (repeat' (first | exact trivial | rfl | ((conv=>whnf); refine And.intro ?_ ?_)))
 case done =>
  rintro D xs W hlD hS ⟨os,A,c,h1,hHW⟩ hD
  have hyes:=rd_all_ok h1 hS
  show Code.wpIn Fence.wide 2 Tryd.prog _ _ _ _
  refine SmW.out (X:=⟨Tryd.prog,tab,fpt (rowsI b2 b3 b4 b5 b6 A os.length c xs.length) (obI w.heap.size os A c B),W,32,[{ target:=.collected D,args:=#[] }]⟩) (s:=⟨[(2,.p 0 0),(3,.p 1 0),(4,.p 2 0),(5,.p 3 0)],rowsI b2 b3 b4 b5 b6 A os.length c xs.length,obI w.heap.size os A c B⟩) ?_ _ W ⟨by show _::a.defers=_; rw [hR.ds],hR.sz,FrOk.cons rfl (hR.fr 2 (.p 0 0) rfl).2 (FrOk.cons rfl (hR.fr 3 (.p 1 0) rfl).2 (FrOk.cons rfl (hR.fr 4 (.p 2 0) rfl).2 (FrOk.cons rfl (hR.fr 5 (.p 3 0) rfl).2 FrOk.nil))),hHW.into⟩
  repeat' ((conv=>whnf); first | refine sgo ⟨tab_ok⟩ ?_|refine br_not ?_|refine br_t rfl ?_|refine br_f rfl ?_|refine br_t (by assumption) ?_|refine br_f (by assumption) ?_|refine br_t (decide_eq_true (by assumption)) ?_|refine br_f (decide_eq_false (by assumption)) ?_|refine br_t (beq_iff_eq.2 (by assumption)) ?_|refine br_f (beq_eq_false_iff_ne.2 (by assumption)) ?_|refine wreg ⟨tab_ok⟩ ?_|refine drA ⟨tab_ok⟩ [] ?_|refine kpt ?_|refine br_t (decide_eq_true (by omega)) ?_|refine br_f (decide_eq_false (by omega)) ?_|refine fin_s ?_|refine fin_r ?_ ?_|refine fin_e ?_ ?_)
  conv=>whnf
  refine wret fun a2 w2 hR2=>ret_of hHW obI_cl hD (Nat.le_trans hsz hlD) hR2 (fun W' u hn=>obI_up hR2.h.obj u (fun g hg=>by rw [List.mem_singleton.1 hg]; exact hn)) ⟨tab_ok⟩ ?_
  conv=>whnf
  refine fin fun w' hH=>rdP_yes hyes h1.2 rfl (Hold.ob hH (A:=rwO stepE w.heap.size A os.length c os true) 1 rfl) (Hold.ob hH (A:=ddO w.heap.size os) 2 rfl) hH.upd.since
 case stop =>
  rintro D pre W hlD ⟨r,hr⟩ ⟨hx,hu,k2,k3,k4⟩ hD
  obtain ⟨k,hk,hno⟩:=rd_err hx hr
  rw [hk] at k3
  refine wpIn_ret ?_
  have u:=upd_obj W D (.deferred none)
  have hn:NC W D:=⟨_,hD,rfl⟩
  have far:∀ {g:Nat} {t:TypeId} {cs:Array Value},Blk W g t cs→Blk (W.putObj D (.deferred none)) g t cs:=fun h=>u.blk h (fun hg=>nc_blk h (by rw [List.mem_singleton.1 hg]; exact hn))
  have h4:=hold_X hH (hu.comp u (fun g hg=>.inr (by rw [List.mem_singleton.1 hg]; exact Nat.le_trans hsz hlD))) (far k2) (far k3) (far k4)
  refine leaves_of (D:=D) (by show _::a.defers=_; rw [hR.ds]) hD (fin_of (X:=⟨Tryd.prog,tab,[],w,32,[]⟩) ⟨tab_ok⟩ rfl .ret _ _ ⟨⟨[(2,.p 0 0),(3,.p 1 0),(4,.p 2 0)],[⟨b2,22,true,0,[],[.v (.slice none 0 0)],[],true⟩,⟨b3,3,true,0,[],[.i .i64 ((k+1:Nat):Int)],[],true⟩,⟨b4,26,true,0,[],[.i .i64 8],[],true⟩],[]⟩,⟨rfl,hR.sz,FrOk.cons rfl (hR.fr 2 (.p 0 0) rfl).2 (FrOk.cons rfl (hR.fr 3 (.p 1 0) rfl).2 (FrOk.cons rfl (hR.fr 4 (.p 2 0) rfl).2 FrOk.nil)),h4⟩, ?_⟩)
  conv=>whnf
  refine fin fun w' hH=>rdP_no hno rfl hH.upd.since
end Sp
namespace Sp
open Go.RowKit Ba Mem En Go.Proofs.YtjghelofdfolbaaDoor.Ty Gw
open Byt (BV isB)
open Co (Hold.ob)
open Sx Sw
set_option maxRecDepth 100000
theorem goE_SP:∀ (ls:List (List UInt8)) (n:Nat) (acc:List SP),(∀ x∈acc,SPok x)→∀ x∈(goE n acc ls).1,SPok x
 | [],n,acc,h,x,hx=>h x hx
 | l::r,n,acc,h,x,hx=>by
  rw [goE_c] at hx
  cases hl:lineQ l with
  | none=>rw [hl] at hx; cases hx
  | some y =>
   rw [hl] at hx
   refine goE_SP r (n+1) (acc++[y]) (fun z hz=>?_) x hx
   rcases List.mem_append.1 hz with hz | hz
   ·exact h z hz
   ·rw [List.mem_singleton.1 hz]
    exact lineW_ok (lineQ_ok hl).2
theorem rdT_SP {s:List UInt8}:∀ x∈(rdT 0 [] s).1,SPok x:=fun x hx=>by
 rw [rd_is] at hx
 exact goE_SP _ _ _ (by intro x hx; cases hx) x hx
def stF' (os:List StepD) (i:Nat):StepD:=os.getD i default
theorem stF_get {os:List StepD} {i:Nat} (h:i < os.length):os[i]?=some (stF' os i):=by
 unfold stF'
 rw [List.getD_eq_getElem?_getD,List.getElem?_eq_getElem h]; rfl
theorem rd_own {α:Type} {E:Ek α} {lo n c:Nat} {A:Option Addr} {ls:List α} {f:Nat→α} {w:World} (h:E.At lo A n c ls w) (hn:n=ls.length) (hf:∀ i,i < n→ls[i]?=some (f i)):E.Rd A n f w:=by
 rcases own_at h with ⟨_,h0,_⟩ | ⟨g,cur,rfl,_,hb,_⟩
 ·exact .inl h0
 ·refine .inr ⟨g,0,rfl,Blk.lt hb,fun i hi j v hj=>?_⟩
  exact Ek.rng h (hf i hi) j v hj
theorem bv_own {lo c:Nat} {A:Option Addr} {zs:List Int} {w:World} (h:byteE.At lo A zs.length c zs w) (hz:∀ z∈zs,isB z) (hl:zs.length≤9223372036854775807):BV w A zs.length zs:=by
 refine ⟨rfl,hl,hz, ?_⟩
 rcases own_at h with ⟨_,h0,_⟩ | ⟨g,cur,rfl,_,hb,_⟩
 ·exact .inl h0
 ·refine .inr ⟨g,0,rfl,Blk.lt hb,fun j hj=>?_⟩
  have:=Ek.rng h (List.getElem?_eq_getElem hj) 0 _ rfl
  rw [List.getD_eq_getElem?_getD,List.getElem?_eq_getElem hj]
  rw [show 0+j*byteE.k+0=0+j from by show 0+j*1+0=0+j; omega] at this
  exact this
theorem zsN_b {l:List Nat} (h:∀ z∈l,z < 256):∀ z∈zsN l,isB z:=fun z hz=>by
 unfold zsN at hz
 obtain ⟨n,hn,rfl⟩:=List.mem_map.1 hz
 have:=h n hn
 exact ⟨by show (0:Int)≤(n:Int); omega,by show (n:Int) < 256; omega⟩
attribute [local irreducible] Go.Calls
theorem rng_at {w:World} {g off k:Nat} {cs:List Value} {v:Value} (h:w.rangeAt g off cs) (hk:cs[k]?=some v):w.rangeAt g (off+k) [v]:=fun j u hj=>by
 cases j with
 | zero =>
  simp at hj; subst hj
  simpa using h k _ hk
 | succ j=>simp at hj
def sumW (ss:Nat→StepD):Nat→Int
 | 0=>0
 | k+1=>IntKind.i64.wrap (sumW ss k+((ss k).n:Int))
def sumT (ss:Nat→StepD):Nat→Nat
 | 0=>0
 | k+1=>sumT ss k+(ss k).n
def litB (ss:Nat→StepD) (len:Nat):Bool:=decide ((len:Int)≤300) && decide (sumW ss len≤20000)
theorem sum_le {ss:Nat→StepD}:∀ k:Nat,k≤300→(∀ i,i < k→StepW (ss i))→sumW ss k=sumT ss k∧sumT ss k≤140737488351232*k
 | 0,_,_=>⟨rfl,Nat.le_refl _⟩
 | k+1,hk,h=>by
  obtain ⟨h1,h2⟩:=sum_le k (by omega) (fun i hi=>h i (by omega))
  have h3:=(h k (by omega)).m
  have h4:sumT ss (k+1)=sumT ss k+(ss k).n:=rfl
  refine ⟨?_,by omega⟩
  show IntKind.i64.wrap (sumW ss k+((ss k).n:Int))=_
  rw [h1,h4,wr64 _ (by omega) (by omega)]
  push_cast; rfl
theorem lit_of {ss:Nat→StepD} {len:Nat} (h:litB ss len=true) (hw:∀ i,i < len→StepW (ss i)):len≤300∧sumT ss len≤20000:=by
 unfold litB at h
 simp only [Bool.and_eq_true,decide_eq_true_eq] at h
 obtain ⟨h1,h2⟩:=h
 have h3:len≤300:=by omega
 have h4:=sum_le len h3 hw
 exact ⟨h3,by rw [h4.1] at h2; omega⟩
theorem sumT_mono {ss:Nat→StepD}:∀ {i k:Nat},i≤k→sumT ss i≤sumT ss k
 | i,0,h=>by rw [Nat.le_zero.1 h]; exact Nat.le_refl _
 | i,k+1,h=>by
  rcases Nat.lt_or_ge i (k+1) with hk | hk
  ·exact Nat.le_trans (sumT_mono (i:=i) (k:=k) (by omega)) (Nat.le_add_right ..)
  ·rw [show i=k+1 by omega]; exact Nat.le_refl _
theorem sumT_at {ss:Nat→StepD} {i len:Nat} (h:i < len):sumT ss i+(ss i).n≤sumT ss len:=sumT_mono (ss:=ss) (i:=i+1) h
theorem hold_st {a:Option Addr} {len nt:Nat} {ss:Nat→StepD} {w:World} (h:StR a len ss w):Hold ⟨Tryd.prog,tab,[],w,nt,[]⟩ [] [stO a len ss] w :=
 Hold.addObj (Hold.nil _ tab [] _ w) (stO a len ss) h (by intro k; cases k) (by intro r hr; cases hr) (by intro A hA; cases hA)
theorem light24 {a:Option Addr} {len cap:Nat} {ss:Nat→StepD} {w:World} (h:StR a len ss w) (hlen:len≤9223372036854775807):Calls Tryd.prog 7 #[.slice a len cap] w fun e w'=>e=.returned (.bool (litB ss len))∧Since w w':=by
 obtain ⟨gb,off,hb⟩:=Ek.rd_addr h.r
 refine entH tab_ok (hold_st h) [.v (.slice a len cap)] Tryd.func7 Tryd.ntmps7 rfl rfl ?_
 repeat' ((conv=>whnf); first | refine sgo ⟨tab_ok⟩ ?_|refine br_not ?_|refine br_t rfl ?_|refine br_f rfl ?_|refine br_t (by assumption) ?_|refine br_f (by assumption) ?_|refine br_t (decide_eq_true (by assumption)) ?_|refine br_f (decide_eq_false (by assumption)) ?_|refine br_t (beq_iff_eq.2 (by assumption)) ?_|refine br_f (beq_eq_false_iff_ne.2 (by assumption)) ?_|intro b | refine drA ⟨tab_ok⟩ [] ?_|refine kpt ?_|refine fin_s ?_|refine fin_r ?_ ?_|refine fin_e ?_ ?_)
 conv=>whnf
 refine lp ⟨tab_ok⟩ (ι:={k:Nat // k≤len}) (fun x=>match x with | ⟨k,_⟩=>⟨[(0,.v (.slice a len cap)),(3,.i .i64 (sumW ss k)),(4,.i .i64 (k:Int))],[],[stO a len ss]⟩) (fun k=>len - k.1) ⟨0,Nat.zero_le _⟩ (wk ?_) ?_
 ·repeat' (first | exact trivial | rfl | ((conv=>whnf); refine And.intro ?_ ?_))
 rintro ⟨k,hk⟩
 by_cases hlt:k < len
 ·have hb:=hb (by omega)
  subst hb
  repeat' ((conv=>whnf); first | refine sgo ⟨tab_ok⟩ ?_|refine br_not ?_|refine br_t rfl ?_|refine br_f rfl ?_|refine br_t (by assumption) ?_|refine br_f (by assumption) ?_|refine br_t (decide_eq_true (by assumption)) ?_|refine br_f (decide_eq_false (by assumption)) ?_|refine br_t (beq_iff_eq.2 (by assumption)) ?_|refine br_f (beq_eq_false_iff_ne.2 (by assumption)) ?_|intro b | refine drA ⟨tab_ok⟩ [] ?_|refine kpt ?_|refine br_t (decide_eq_true (by omega)) ?_|refine br_f (decide_eq_false (by omega)) ?_|refine wr_i ?_|refine wr_lit ?_|refine opiv ⟨tab_ok⟩ (by rfl) (by rfl) (by rfl) (by rfl) (by rfl) (by rfl) ⟨by omega,by omega⟩ ?_|refine puiv ⟨tab_ok⟩ (by rfl) (by rfl) (by rfl) (by rfl) (by rfl) (by rfl) ⟨by omega,by omega⟩ ?_|refine opfv ⟨tab_ok⟩ (by rfl) (by rfl) (by rfl) (by rfl) ?_|refine pufv ⟨tab_ok⟩ (by rfl) (by rfl) (by rfl) (by rfl) ?_|refine opxc (g:=gb) (off:=off+k*4+3) (.v (.slice (ss k).A (ss k).n (ss k).c)) (fun w hH=>rng_at (Ek.rd_rng (StR.r (Hold.ob hH (A:=stO (some ⟨gb,off,none⟩) len ss) 0 rfl)) hlt) rfl) ⟨tab_ok⟩ (by rfl) (by rfl) (by simp only [Go.WideShapes.add_plain]; rfl) ?_|refine En.back ⟨k+1,by omega⟩ (wk ?_) ?_|refine fin_s ?_|refine fin_r ?_ ?_|refine fin_e ?_ ?_)
  all_goals first | (show len - (k+1) < len - k; omega)|skip
  all_goals (repeat' (first | exact trivial | rfl | ((conv=>whnf); refine And.intro ?_ ?_)))
 ·obtain rfl:k=len:=by omega
  repeat' ((conv=>whnf); first | refine sgo ⟨tab_ok⟩ ?_|refine br_not ?_|refine br_t rfl ?_|refine br_f rfl ?_|refine br_t (by assumption) ?_|refine br_f (by assumption) ?_|refine br_t (decide_eq_true (by assumption)) ?_|refine br_f (decide_eq_false (by assumption)) ?_|refine br_t (beq_iff_eq.2 (by assumption)) ?_|refine br_f (beq_eq_false_iff_ne.2 (by assumption)) ?_|intro b | refine drA ⟨tab_ok⟩ [] ?_|refine kpt ?_|refine br_t (decide_eq_true (by omega)) ?_|refine br_f (decide_eq_false (by omega)) ?_|refine br_dec (fun h=>?_) (fun h=>?_)|refine br_eq (fun h=>?_) (fun h=>?_)|refine br_b (fun h=>?_) (fun h=>?_)|refine fin_s ?_|refine fin_r ?_ ?_|refine fin_e ?_ ?_)
  all_goals (simp [den,litB, *])
theorem quct {X:Cx} {s:St} {o:Oper} {K:SV→Prop} {t d:TypeId} {x:Operand} {A:Option Addr} {n c:Nat} {zs:List Int} (ho:o.op=.convert t d x) (hx:evO x s.fr=some (.v (.slice A n c))) (hz:∀ w,Hold X s.m s.ob w→BV w A n zs) (h1:X.P.underlying t=some (.slice 5)) (h2:X.P.underlying 5=some (.int .u8)) (h3:X.P.underlying d=some .string) (h:K (.v (.string (strOfNums zs)))):QuVC X o s K :=
 ⟨⟨.v (.string (strOfNums zs)),rfl,fun a hf w hH=>exec_str t 5 d x (hz w hH) ho (by rw [(evO_of hf hx).2]; rfl) h1 h2 h3,h⟩⟩
theorem hold_ss {A B:Option Addr} {n m nt:Nat} {ss tt:Nat→StepD} {w:World} (h1:StR A n ss w) (h2:StR B m tt w):Hold ⟨Tryd.prog,tab,[],w,nt,[]⟩ [] [stO A n ss,stO B m tt] w :=
 Hold.addObj (Hold.addObj (Hold.nil _ tab [] _ w) (stO A n ss) h1 (by intro k; cases k) (by intro r hr; cases hr) (by intro A hA; cases hA)) (stO B m tt) h2 (by intro k; cases k) (by intro r hr; cases hr) (by intro G hG k; rcases List.mem_append.1 hG with hG | hG; cases hG; rw [List.mem_singleton] at hG; subst hG; rcases k with k | k <;> cases k)
def Alike (n:Nat) (ss tt:Nat→StepD):Prop:=∀ i,i < n→∃ A c,tt i=⟨(ss i).k,(ss i).a,(ss i).b,A,(ss i).n,c,(ss i).d⟩
set_option maxHeartbeats 4000000 in
theorem same24 {A B:Option Addr} {ca cb n:Nat} {ss tt:Nat→StepD} {w:World} (h1:StR A n ss w) (h2:StR B n tt w) (hv:Alike n ss tt) (hl:n≤1000000):Calls Tryd.prog 12 #[.slice A n ca,.slice B n cb] w fun e w'=>e=.returned (.bool true)∧Since w w':=by
 obtain ⟨gA,oA,hgA⟩:=Ek.rd_addr h1.r
 obtain ⟨gB,oB,hgB⟩:=Ek.rd_addr h2.r
 refine entH tab_ok (hold_ss h1 h2) [.v (.slice A n ca),.v (.slice B n cb)] Tryd.func12 Tryd.ntmps12 rfl rfl ?_
 repeat' ((conv=>whnf); first | refine sgo ⟨tab_ok⟩ ?_|refine br_not ?_|refine br_t rfl ?_|refine br_f rfl ?_|refine br_t (by assumption) ?_|refine br_f (by assumption) ?_|refine br_t (decide_eq_true (by assumption)) ?_|refine br_f (decide_eq_false (by assumption)) ?_|refine br_t (beq_iff_eq.2 (by assumption)) ?_|refine br_f (beq_eq_false_iff_ne.2 (by assumption)) ?_|intro b | refine drA ⟨tab_ok⟩ [] ?_|refine kpt ?_|refine br_f (bne_refl _) ?_|refine br_t (beq_self_eq_true _) ?_|refine fin_s ?_|refine fin_r ?_ ?_|refine fin_e ?_ ?_)
 conv=>whnf
 refine lp ⟨tab_ok⟩ (ι:={k:Nat // k≤n}) (fun x=>match x with | ⟨k,_⟩=>⟨[(0,.v (.slice A n ca)),(1,.v (.slice B n cb)),(5,.i .i64 (k:Int))],[],[stO A n ss,stO B n tt]⟩) (fun k=>n - k.1) ⟨0,Nat.zero_le _⟩ (wk ?_) ?_
 ·repeat' (first | exact trivial | rfl | ((conv=>whnf); refine And.intro ?_ ?_))
 rintro ⟨k,hk⟩
 by_cases hlt:k < n
 ·obtain ⟨A2,c2,ht⟩:=hv k hlt
  have hgA:=hgA (by omega)
  have hgB:=hgB (by omega)
  subst hgA hgB
  obtain ⟨sk,hsk⟩:∃ x,ss k=x:=⟨_,rfl⟩
  rw [hsk] at ht
  have rA:∀ w1:World,StR (some ⟨gA,oA,none⟩) n ss w1→w1.rangeAt gA (oA+k*4) (stepC sk):=fun w1 h=>by have:=Ek.rd_rng h.r hlt; rw [hsk] at this; exact this
  have rB:∀ w1:World,StR (some ⟨gB,oB,none⟩) n tt w1→w1.rangeAt gB (oB+k*4) (stepC ⟨sk.k,sk.a,sk.b,A2,sk.n,c2,sk.d⟩):=fun w1 h=>by have:=Ek.rd_rng h.r hlt; rw [ht] at this; exact this
  have dA:∀ w1:World,StR (some ⟨gA,oA,none⟩) n ss w1→BV w1 sk.A sk.n sk.d:=fun w1 h=>by have:=h.d k hlt; rw [hsk] at this; exact this
  have dB:∀ w1:World,StR (some ⟨gB,oB,none⟩) n tt w1→BV w1 A2 sk.n sk.d:=fun w1 h=>by have:=h.d k hlt; rw [ht] at this; exact this
  repeat' ((conv=>whnf); first | refine sgo ⟨tab_ok⟩ ?_|refine br_not ?_|refine br_t rfl ?_|refine br_f rfl ?_|refine br_t (by assumption) ?_|refine br_f (by assumption) ?_|refine br_t (decide_eq_true (by assumption)) ?_|refine br_f (decide_eq_false (by assumption)) ?_|refine br_t (beq_iff_eq.2 (by assumption)) ?_|refine br_f (beq_eq_false_iff_ne.2 (by assumption)) ?_|intro b | refine br_t (decide_eq_true (by omega)) ?_|refine br_f (decide_eq_false (by omega)) ?_|refine wr_i ?_|refine kpt ?_|refine drQ (id:=6) ⟨tab_ok⟩ ?_|refine And.intro ?_ ?_|refine br_f (bne_refl _) ?_|refine br_t (beq_self_eq_true _) ?_|refine quP (puiv ⟨tab_ok⟩ (by rfl) (by rfl) (by rfl) (by rfl) (by rfl) (by rfl) ⟨by omega,by omega⟩ ?_)|refine quP (pufv ⟨tab_ok⟩ (by rfl) (by rfl) (by rfl) (by rfl) ?_)|refine quxc (g:=gA) (off:=oA+k*4+0) (.i .i64 sk.k) (fun w1 hH=>rng_at (rA w1 (Hold.ob hH (A:=stO (some ⟨gA,oA,none⟩) n ss) 0 rfl)) rfl) ⟨tab_ok⟩ (by rfl) (by rfl) (by simp only [Go.WideShapes.add_plain]; rfl) ?_|refine quxc (g:=gA) (off:=oA+k*4+1) (.i .i64 sk.a) (fun w1 hH=>rng_at (rA w1 (Hold.ob hH (A:=stO (some ⟨gA,oA,none⟩) n ss) 0 rfl)) rfl) ⟨tab_ok⟩ (by rfl) (by rfl) (by simp only [Go.WideShapes.add_plain]; rfl) ?_|refine quxc (g:=gA) (off:=oA+k*4+2) (.i .i64 sk.b) (fun w1 hH=>rng_at (rA w1 (Hold.ob hH (A:=stO (some ⟨gA,oA,none⟩) n ss) 0 rfl)) rfl) ⟨tab_ok⟩ (by rfl) (by rfl) (by simp only [Go.WideShapes.add_plain]; rfl) ?_|refine quxc (g:=gA) (off:=oA+k*4+3) (.v (.slice sk.A sk.n sk.c)) (fun w1 hH=>rng_at (rA w1 (Hold.ob hH (A:=stO (some ⟨gA,oA,none⟩) n ss) 0 rfl)) rfl) ⟨tab_ok⟩ (by rfl) (by rfl) (by simp only [Go.WideShapes.add_plain]; rfl) ?_|refine quxc (g:=gB) (off:=oB+k*4+0) (.i .i64 sk.k) (fun w1 hH=>rng_at (rB w1 (Hold.ob hH (A:=stO (some ⟨gB,oB,none⟩) n tt) 1 rfl)) rfl) ⟨tab_ok⟩ (by rfl) (by rfl) (by simp only [Go.WideShapes.add_plain]; rfl) ?_|refine quxc (g:=gB) (off:=oB+k*4+1) (.i .i64 sk.a) (fun w1 hH=>rng_at (rB w1 (Hold.ob hH (A:=stO (some ⟨gB,oB,none⟩) n tt) 1 rfl)) rfl) ⟨tab_ok⟩ (by rfl) (by rfl) (by simp only [Go.WideShapes.add_plain]; rfl) ?_|refine quxc (g:=gB) (off:=oB+k*4+2) (.i .i64 sk.b) (fun w1 hH=>rng_at (rB w1 (Hold.ob hH (A:=stO (some ⟨gB,oB,none⟩) n tt) 1 rfl)) rfl) ⟨tab_ok⟩ (by rfl) (by rfl) (by simp only [Go.WideShapes.add_plain]; rfl) ?_|refine quxc (g:=gB) (off:=oB+k*4+3) (.v (.slice A2 sk.n c2)) (fun w1 hH=>rng_at (rB w1 (Hold.ob hH (A:=stO (some ⟨gB,oB,none⟩) n tt) 1 rfl)) rfl) ⟨tab_ok⟩ (by rfl) (by rfl) (by simp only [Go.WideShapes.add_plain]; rfl) ?_|refine quct (A:=sk.A) (n:=sk.n) (zs:=sk.d) (by rfl) (by rfl) (fun w1 hH=>dA w1 (Hold.ob hH (A:=stO (some ⟨gA,oA,none⟩) n ss) 0 rfl)) (Tryd.underlying38) (Tryd.underlying5) (Tryd.underlying9) ?_|refine quct (A:=A2) (n:=sk.n) (zs:=sk.d) (by rfl) (by rfl) (fun w1 hH=>dB w1 (Hold.ob hH (A:=stO (some ⟨gB,oB,none⟩) n tt) 1 rfl)) (Tryd.underlying38) (Tryd.underlying5) (Tryd.underlying9) ?_|refine En.back ⟨k+1,by omega⟩ (wk ?_) ?_|refine fin_s ?_|refine fin_r ?_ ?_|refine fin_e ?_ ?_)
  all_goals first | (show n - (k+1) < n - k; omega)|skip
  all_goals (repeat' (first | exact trivial | rfl | ((conv=>whnf); refine And.intro ?_ ?_)))
 ·repeat' ((conv=>whnf); first | refine sgo ⟨tab_ok⟩ ?_|refine br_not ?_|refine br_t rfl ?_|refine br_f rfl ?_|refine br_t (by assumption) ?_|refine br_f (by assumption) ?_|refine br_t (decide_eq_true (by assumption)) ?_|refine br_f (decide_eq_false (by assumption)) ?_|refine br_t (beq_iff_eq.2 (by assumption)) ?_|refine br_f (beq_eq_false_iff_ne.2 (by assumption)) ?_|intro b | refine drA ⟨tab_ok⟩ [] ?_|refine kpt ?_|refine br_t (decide_eq_true (by omega)) ?_|refine br_f (decide_eq_false (by omega)) ?_|refine fin_s ?_|refine fin_r ?_ ?_|refine fin_e ?_ ?_)
  all_goals rfl
end Sp
namespace Sp
open Go.RowKit Ba Mem En Go.Proofs.YtjghelofdfolbaaDoor.Ty Gw
open Byt (BV isB)
open Co (Hold.ob)
open Sx Sw
set_option maxRecDepth 100000
theorem frz_upd {w:World} {g n:Nat} {t:TypeId} {cs:Array Value} (h:Blk w g t cs):Upd [g] w (w.freeze ⟨g,n,none⟩ 1):=by
 have hlt:=Blk.lt h
 refine ⟨rfl,rfl,rfl,by simp [World.freeze],fun k hk hg=>?_⟩
 have hne:g≠k:=fun e=>hg (by rw [e]; exact List.mem_singleton.2 rfl)
 simp [World.freeze,Array.getElem?_modify,hne]
theorem frz_cell {w:World} {g n j:Nat} {t:TypeId} {cs:Array Value} (h:Blk w g t cs):(w.freeze ⟨g,n,none⟩ 1).cell? ⟨g,j,none⟩=cs[j]?:=by
 have h:w.heap[g]?=some (.cells cs t (0,0)):=h
 have:(w.freeze ⟨g,n,none⟩ 1).heap[g]?=some (.cells cs t (n,n+1)):=by
  simp [World.freeze,Array.getElem?_modify,h]
 unfold World.cell?
 rw [this]
 rfl
theorem opcm {X:Cx} {s:St} {o:Oper} {K:St→Prop} {t:TypeId} {x:Operand} {lo g n c:Nat} {zs:List Int} (i:Nat) (ho:o.op=.convert t t x) (hx:evO x s.fr=some (.v (.slice (some ⟨g,0,none⟩) n c))) (hA:s.ob[i]?=some (rwO byteE lo (some ⟨g,0,none⟩) n c zs true)) (hz:∀ z∈zs,isB z) (hn:0 < n) (hl:zs.length=n) (ht:X.P.underlying t=some (.slice 5)) (he:X.P.underlying 5=some (.int .u8))
  (h:setO i (bvO (some ⟨g,0,none⟩) n zs) s.ob fun ob=>put X.n o.dst (.v (.slice (some ⟨g,0,none⟩) n c)) ⟨s.fr,s.m,ob⟩ K):OpVC X o s K:=⟨fun a w Q hR=>by
 have st:byteE.At lo (some ⟨g,0,none⟩) n c zs w:=hR.h.obj _ (List.mem_of_getElem? hA)
 obtain ⟨cur,hb⟩:∃ cur,Blk w g 5 cur:=by
  rcases own_at st with ⟨e,_⟩ | ⟨g',cur,e,_,hb,_⟩
  ·cases e
  ·cases e; exact ⟨cur,hb⟩
 have hcell:∀ j,j < n→cur[j]?=some (.int .u8 (zs.getD j 0)):=fun j hj=>by
  have hj2:j < zs.length:=by omega
  have:=Ek.rng st (List.getElem?_eq_getElem hj2) 0 _ rfl
  rw [show 0+j*byteE.k+0=j from by show 0+j*1+0=j; omega,Blk.cell hb] at this
  rw [this,List.getD_eq_getElem?_getD,List.getElem?_eq_getElem hj2]; rfl
 have hsh:w.shape? g=some (5,cur.size):=by
  have hb:w.heap[g]?=some (.cells cur 5 (0,0)):=hb
  unfold World.shape?
  rw [hb]
 have he2:(execOp a.eval o).run X.P w=.ok (.value (.slice (some ⟨g,0,none⟩) n c)) (w.freeze ⟨g,cur.size,none⟩ 1):=by
  have e:=(evO_of hR.fr hx).2
  unfold execOp
  simp only [ho,e,den]
  simp [convert,run_underlying ht,run_underlying he,markStringish,hsh,Result.andThen,Sem.run_bind]
 have u:=frz_upd (n:=cur.size) hb
 have hB:(bvO (some ⟨g,0,none⟩) n zs).st (w.freeze ⟨g,cur.size,none⟩ 1):=by
  refine ⟨hl, ?_,hz,.inr ⟨g,0,rfl,Nat.lt_of_lt_of_le (Blk.lt hb) u.size,fun j hj=>?_⟩⟩
  ·rcases own_at st with ⟨e,_⟩ | ⟨g',cur',e,_,hb',hc,hm,_⟩
   ·cases e
   ·have:n≤maxLen:=Nat.le_trans hc hm
    unfold maxLen at this; omega
  ·rw [Nat.zero_add,frz_cell hb]
   exact hcell j hj
 have hH:=hR.h.obj_set (B:=bvO (some ⟨g,0,none⟩) n zs) hA rfl hB u (fun x hx=>.inl (by
  cases n with
  | zero=>cases hx
  | succ n=>exact hx))
 obtain ⟨s',r1,r2,r3,r4⟩:=put_of (a:=a) (s:=⟨s.fr,s.m,s.ob.set i (bvO (some ⟨g,0,none⟩) n zs)⟩) (v:=.v (.slice (some ⟨g,0,none⟩) n c)) hR.ds hR.sz hR.fr hH rfl (setO_of h)
 exact wp_v2 _ he2 ⟨s',r1,by rw [r2]; exact Ext.refl _,r4⟩⟩
def txA:List UInt8:=[50,32,45,53,32,48,32,120,54,49,10]
theorem txA_is:printP [stA]=txA:=stA_text
theorem ansPr {g gd:Nat} {w:World} (hg:GkS w) (hr:Blk w g 40 #[.int .i64 2,.int .i64 (-5),.int .i64 0,.slice (some ⟨gd,0,none⟩) 1 1]) (hd:BV w (some ⟨gd,0,none⟩) 1 [97]):Calls Tryd.prog 9 #[.slice (some ⟨g,0,none⟩) 1 1] w fun e w'=>e=.returned (.string ⟨txA.toArray⟩)∧Since w w':=by
 have e1:stL 1 (fun _=>(⟨2,-5,0,some ⟨gd,0,none⟩,1,1,[97]⟩:StepD))=[⟨2,-5,0,some ⟨gd,0,none⟩,1,1,[97]⟩]:=rfl
 have e2:printL (stL 1 (fun _=>(⟨2,-5,0,some ⟨gd,0,none⟩,1,1,[97]⟩:StepD)))=txA:=by
  rw [e1,printL_is,← txA_is]; rfl
 have h:=printP_ (A:=some ⟨g,0,none⟩) (n:=1) (c:=1) (ss:=fun _=>(⟨2,-5,0,some ⟨gd,0,none⟩,1,1,[97]⟩:StepD)) hg ⟨.inr ⟨g,0,rfl,Blk.lt hr,fun i hi j v hj=>by
  obtain rfl:i=0:=by omega
  have hj2:j < 4:=(List.getElem?_eq_some_iff.1 hj).1
  rw [show 0+0*stepE.k+j=j by omega,Blk.cell hr]
  rcases (by omega:j=0∨j=1∨j=2∨j=3) with rfl | rfl | rfl | rfl <;> exact hj⟩,fun i hi=>hd⟩ (fun i hi=>⟨by show n64 2; unfold n64; decide,by show n64 (-5); unfold n64; decide,by show n64 0; unfold n64; decide,by show 1≤1000000; decide⟩) (fun i hi=>by show 1≤400000; decide) (by decide) (by rw [e2]; decide)
 rw [e2] at h
 exact h
theorem ansPa {w:World} (hg:GkS w):Calls Tryd.prog 10 #[.string ⟨txA.toArray⟩] w fun e w'=>∃ y:{y:Nat×Nat×StepD // spD y.2.2=stA},e=.returned (.tuple #[.slice (some ⟨y.1.1,0,none⟩) 1 y.1.2.1,.int .i64 0,.int .i64 0])∧stepE.At w.heap.size (some ⟨y.1.1,0,none⟩) 1 y.1.2.1 [y.1.2.2] w'∧Since w w':=by
 refine (parseP txA (by decide) hg).mono ?_
 rw [← txA_is,rdT_one [stA] (by intro x hx; rw [List.mem_singleton.1 hx]; exact stA_ok)]
 rintro e w' ⟨os,z,h1,h2,rfl,h4,h5,h6⟩
 have h1:os.map spD=[stA]:=h1
 have hl:os.length=1:=by rw [← List.length_map (f:=spD),h1]; rfl
 obtain ⟨o,rfl⟩:=List.length_eq_one_iff.1 hl
 have ho:spD o=stA:=by simpa using h1
 obtain ⟨g,hz⟩:=Ek.addr h4
 have hz:=hz (by show 0 < 1; decide)
 obtain ⟨z1,z2⟩:=z
 have hz:z1=some ⟨g,0,none⟩:=hz
 subst hz
 exact ⟨⟨(g,z2,o),ho⟩,rfl,h4,h6⟩
theorem ansPb {w:World} (hg:GkS w):Calls Tryd.prog 10 #[.string ⟨#[49,32,50,32,51,10]⟩] w fun e w'=>∃ z:Option Addr×Nat,e=.returned (.tuple #[.slice z.1 0 z.2,.int .i64 1,.int .i64 8])∧Since w w':=by
 refine (parseP [49,32,50,32,51,10] (by decide) hg).mono ?_
 rw [rd_123]
 rintro e w' ⟨os,z,h1,h2,rfl,h4,h5,h6⟩
 have:os=[]:=by simpa using h1
 subst this
 exact ⟨z,rfl,h6⟩
theorem ansC:∀ n∈cfgI (⟨3,0,0,0,0,0,0,0,0,0,0,0,0,0,0,0,0,9⟩:CfgV),n64 n:=by unfold n64 cfgI; decide
theorem ansSe {w:World} (hg:GkS w):Calls Tryd.prog 15 #[.string ⟨(setL cfgA).toArray⟩] w fun e w'=>e=.returned (.tuple #[.agg #[.int .i64 3,.int .i64 0,.int .i64 0,.int .i64 0,.int .i64 0,.int .i64 0,.int .i64 0,.int .i64 0,.int .i64 0,.int .i64 0,.int .i64 0,.int .i64 0,.int .i64 0,.int .i64 0,.int .i64 0,.int .i64 0,.int .i64 0,.int .i64 9],.bool true])∧Since w w':=by
 have hl:(setL cfgA).length≤900000:=by
  have:=nums_len (l:=cfgA) (by unfold n64 cfgA; decide)
  have e:cfgA.length=18:=rfl
  unfold setL
  rw [List.length_append]
  simp only [List.length_cons,List.length_nil]
  omega
 refine (setP (setL cfgA) hl hg).mono ?_
 rw [cfgA_set]
 rintro e w' ⟨rfl,h⟩
 exact ⟨rfl,h⟩
theorem ansHx {g:Nat} {lo:Nat} {w:World} (h:byteE.At lo (some ⟨g,0,none⟩) 1 1 [16] w):Calls Tryd.prog 18 #[.slice (some ⟨g,0,none⟩) 1 1] w fun e w'=>e=.returned (.string ⟨#[49,48]⟩)∧Since w w':=by
 have:=hexP (c:=1) (bv_own (zs:=[16]) h (by unfold isB; decide) (by decide)) (by decide)
 have e:hexI [16]=[49,48]:=hex_16
 rw [e] at this
 exact this
attribute [local irreducible] Go.Calls setL
set_option maxHeartbeats 8000000 in
theorem ans24 {w:World} (hg:GkS w):Calls Tryd.prog 8 #[] w fun e w'=>e=.returned (.bool true)∧Since w w':=by
 refine entH tab_ok (hold_gk hg) [] Tryd.func8 Tryd.ntmps8 rfl rfl ?_
 repeat' ((conv=>whnf); first | refine sgo ⟨tab_ok⟩ ?_|refine br_not ?_|refine br_t rfl ?_|refine br_f rfl ?_|refine br_t (by assumption) ?_|refine br_f (by assumption) ?_|refine br_t (decide_eq_true (by assumption)) ?_|refine br_f (decide_eq_false (by assumption)) ?_|refine br_t (beq_iff_eq.2 (by assumption)) ?_|refine br_f (beq_eq_false_iff_ne.2 (by assumption)) ?_|intro gs | refine drA ⟨tab_ok⟩ [] ?_|refine kpt ?_|refine br_t (decide_eq_true (by omega)) ?_|refine br_f (decide_eq_false (by omega)) ?_|refine opbo ⟨tab_ok⟩ byteE [97] [.const (.int .u8 97)] [.i .u8 97] (by rfl) (by rfl) (by rfl) (by rfl) rfl (fun gd=>?_)|refine opcm 1 (lo:=w.heap.size) (g:=gd) (n:=1) (c:=1) (zs:=[97]) (by rfl) (by rfl) (by rfl) (by unfold isB; decide) (by decide) (by decide) Tryd.underlying38 Tryd.underlying5 ?_|refine opb1 (e:=40) ⟨tab_ok⟩ [.i .i64 2,.i .i64 (-5),.i .i64 0,.v (.slice (some ⟨gd,0,none⟩) 1 1)] (by rfl) (by rfl) ?_|refine callH (f:=9) (tx txA) (fun w1 hH=>ansPr (Hold.ob hH (A:=gkO) 0 rfl) (hH.row 0 _ rfl rfl) (Hold.ob hH (A:=bvO (some ⟨gd,0,none⟩) 1 [97]) 1 rfl)) ?_|refine callN (f:=10) (ι:={y:Nat×Nat×StepD // spD y.2.2=stA}) (fun y=>.t [.v (.slice (some ⟨y.1.1,0,none⟩) 1 y.1.2.1),.i .i64 0,.i .i64 0]) (fun y=>rwO stepE w.heap.size (some ⟨y.1.1,0,none⟩) 1 y.1.2.1 [y.1.2.2] true) (fun w1 hH=>(ansPa (Hold.ob hH (A:=gkO) 0 rfl)).mono (by rintro e w' ⟨y,rfl,h1,h2⟩; exact ⟨y,rfl,Ek.base h1 hH.upd.size,h2,Ek.lows h1⟩)) (fun y=>?_)|refine fin_s ?_|refine fin_r ?_ ?_|refine fin_e ?_ ?_)
 conv=>whnf
 obtain ⟨⟨g2,c2,o⟩,ho⟩:=y
 have hoa:o.a = -5:=congrArg SP.a ho
 repeat' ((conv=>whnf); first | refine sgo ⟨tab_ok⟩ ?_|refine br_not ?_|refine br_t rfl ?_|refine br_f rfl ?_|refine br_t (by assumption) ?_|refine br_f (by assumption) ?_|refine br_t (decide_eq_true (by assumption)) ?_|refine br_f (decide_eq_false (by assumption)) ?_|refine br_t (beq_iff_eq.2 (by assumption)) ?_|refine br_f (beq_eq_false_iff_ne.2 (by assumption)) ?_|intro b5 | refine drA ⟨tab_ok⟩ [] ?_|refine kpt ?_|refine br_t (decide_eq_true (by omega)) ?_|refine br_f (decide_eq_false (by omega)) ?_|refine callH (f:=14) (tx (setL cfgA)) (fun w1 hH=>settingP (⟨3,0,0,0,0,0,0,0,0,0,0,0,0,0,0,0,0,9⟩:CfgV) ansC (Hold.ob hH (A:=gkO) 0 rfl)) ?_|refine callH (f:=15) (.t [.a [.i .i64 3,.i .i64 0,.i .i64 0,.i .i64 0,.i .i64 0,.i .i64 0,.i .i64 0,.i .i64 0,.i .i64 0,.i .i64 0,.i .i64 0,.i .i64 0,.i .i64 0,.i .i64 0,.i .i64 0,.i .i64 0,.i .i64 0,.i .i64 9],.b true]) (fun w1 hH=>ansSe (Hold.ob hH (A:=gkO) 0 rfl)) ?_|refine callN (f:=10) (ι:=Option Addr×Nat) (fun z=>.t [.v (.slice z.1 0 z.2),.i .i64 1,.i .i64 8]) (fun _=>nilO) (fun w1 hH=>(ansPb (Hold.ob hH (A:=gkO) 0 rfl)).mono (by rintro e w' ⟨z,rfl,h⟩; exact ⟨z,rfl,trivial,h,by intro g hg; cases hg⟩)) (fun z=>?_)|refine opbo ⟨tab_ok⟩ byteE [16] [.const (.int .u8 16)] [.i .u8 16] (by rfl) (by rfl) (by rfl) (by rfl) rfl (fun gh=>?_)|refine callH (f:=18) (tx [49,48]) (fun w1 hH=>ansHx (Hold.ob hH (A:=rwO byteE w.heap.size (some ⟨gh,0,none⟩) 1 1 [16] true) 3 rfl)) ?_|refine callH (f:=18) (tx [49,48]) (fun w1 hH=>ansHx (Hold.ob hH (A:=rwO byteE w.heap.size (some ⟨gh,0,none⟩) 1 1 [16] true) 4 rfl)) ?_|refine br_t (by rfl) ?_|refine br_t (beq_self_eq_true _) ?_|refine opiv ⟨tab_ok⟩ (by rfl) (by rfl) (by rfl) (by rfl) (by rfl) (by rfl) ⟨by decide,by decide⟩ ?_|refine opfv ⟨tab_ok⟩ (by rfl) (by rfl) (by rfl) (by rfl) ?_|refine opxc (g:=g2) (off:=0+0*4+1) (.i .i64 (-5)) (fun w1 hH=>rng_at (Ek.rng (x:=o) (k:=0) (Hold.ob hH (A:=rwO stepE w.heap.size (some ⟨g2,0,none⟩) 1 c2 [o] true) 2 rfl) rfl) (by show some (Value.int .i64 o.a)=_; rw [hoa]; rfl)) ⟨tab_ok⟩ (by rfl) (by rfl) (by simp only [Go.WideShapes.add_plain]; rfl) ?_|refine fin_s ?_|refine fin_r ?_ ?_|refine fin_e ?_ ?_)
 all_goals (show Value.bool (ByteArray.toList _ == ByteArray.toList _)=_; rw [beq_self_eq_true])
end Sp
namespace Sp
open Go.RowKit Ba Mem En Go.Proofs.YtjghelofdfolbaaDoor.Ty Gw
open Byt (BV isB)
open Co (Hold.ob)
open Sx Sw
set_option maxRecDepth 100000
structure RdA (lo:Nat) (ys:List SP) (os:List StepD) (A:Option Addr) (w:World):Prop where
 e:os.map spD=ys
 z:okZ os
 s:StR A ys.length (stF' os) w
 f:∀ g∈stF A ys.length (stF' os),lo≤g
theorem own_le {lo n c size:Nat} {e:TypeId} {A:Option Addr} {xs:List Value} {w:World} (h:w.ownsRow lo e size (.slice A n c) n xs):n≤maxLen:=by
 rcases own_at h with ⟨_,h0,_⟩ | ⟨g,cur,_,_,_,h1,h2,_⟩
 ·rw [h0]; exact Nat.zero_le _
 ·exact Nat.le_trans h1 h2
theorem rdF_le {A:Option Addr} {n lo:Nat} (h:∀ g∈blkOf A,lo≤g):∀ g∈rdF A n,lo≤g:=fun g hg=>by
 cases n with
 | zero=>cases hg
 | succ n=>exact h g hg
theorem rd_st {w w':World} {e:Ending} {s:List UInt8} (h:rdP w (rdT 0 [] s) e w'):∃ (os:List StepD) (z:Option Addr×Nat),e=.returned (.tuple #[.slice z.1 (rdT 0 [] s).1.length z.2,.int .i64 ((rdT 0 [] s).2:Int),.int .i64 (if (rdT 0 [] s).2=0 then 0 else 8)])∧RdA w.heap.size (rdT 0 [] s).1 os z.1 w'∧Since w w':=by
 obtain ⟨os,z,h1,h2,rfl,h4,h5,h6⟩:=h
 have hl:os.length=(rdT 0 [] s).1.length:=by rw [← h1,List.length_map]
 have hs:∀ x∈os.map spD,SPok x:=by rw [h1]; exact rdT_SP
 refine ⟨os,z,by rw [hl],⟨h1,h2, ?_, ?_⟩,h6⟩
 ·rw [← hl]
  refine ⟨rd_own h4 rfl (fun i hi=>stF_get hi),fun i hi=>?_⟩
  have hm:=List.mem_of_getElem? (stF_get hi)
  obtain ⟨x,y,e⟩:=h2 _ hm
  have hx:x∈os.map spD:=by rw [← stZ_sp x y,← e]; exact List.mem_map_of_mem hm
  have hd:=h5 _ hm
  rw [e] at hd ⊢
  exact bv_own hd (zsN_b (hs x hx).d) (by have:(zsN x.d).length≤maxLen:=own_le hd; unfold maxLen at this; omega)
 ·intro g hg
  rcases List.mem_append.1 hg with hg | hg
  ·exact rdF_le (Ek.lows h4) g hg
  ·obtain ⟨i,hi,hg⟩:=List.mem_flatMap.1 hg
   have hi:=List.mem_range.1 hi
   have hm:=List.mem_of_getElem? (stF_get (os:=os) (i:=i) (by omega))
   exact rdF_le (Ek.lows (h5 _ hm)) g hg
theorem alike_of {os ps:List StepD} (h1:okZ os) (h2:okZ ps) (h:os.map spD=ps.map spD):Alike os.length (stF' os) (stF' ps):=fun i hi=>by
 have hl:os.length=ps.length:=by have:=congrArg List.length h; simpa using this
 have g1:=stF_get (os:=os) (i:=i) hi
 have g2:=stF_get (os:=ps) (i:=i) (by omega)
 obtain ⟨x,y,e1⟩:=h1 _ (List.mem_of_getElem? g1)
 obtain ⟨x',y',e2⟩:=h2 _ (List.mem_of_getElem? g2)
 have e3:spD (stF' os i)=spD (stF' ps i):=by
  have:=congrArg (fun l=>l[i]?) h
  simp only [List.getElem?_map,g1,g2,Option.map_some,Option.some.injEq] at this
  exact this
 rw [e1,e2,stZ_sp,stZ_sp] at e3
 subst e3
 exact ⟨y'.1,y'.2,by rw [e1,e2]; rfl⟩
theorem goE_len:∀ (ls:List (List UInt8)) (n:Nat) (acc:List SP),(goE n acc ls).1.length≤acc.length+ls.length
 | [],n,acc=>Nat.le_refl _
 | l::r,n,acc=>by
  rw [goE_c]
  cases hl:lineQ l with
  | none=>exact Nat.zero_le _
  | some y =>
   have:=goE_len r (n+1) (acc++[y])
   rw [List.length_append] at this
   simp only [List.length_cons,List.length_nil] at this ⊢
   omega
theorem rdT_len (s:List UInt8):(rdT 0 [] s).1.length≤s.length:=by
 have h1:=goE_len (lnE s) 0 []
 have h2:=(lnE_sum _ s (Nat.le_refl _)).1
 rw [← rd_is] at h1
 simp only [List.length_nil] at h1
 omega
def raO (lo:Nat) (ys:List SP) (os:List StepD) (A:Option Addr):Asr:=⟨stF A ys.length (stF' os),false,RdA lo ys os A,fun u hd h=>⟨h.e,h.z,(stO A ys.length (stF' os)).up u hd h.s,h.f⟩,fun h=>(stO A ys.length (stF' os)).lt h.s⟩
theorem same_ra {lo lo':Nat} {ys:List SP} {os ps:List StepD} {A B:Option Addr} {ca cb:Nat} {w:World} (h1:RdA lo ys os A w) (h2:RdA lo' ys ps B w) (hl:ys.length≤1000000):Calls Tryd.prog 12 #[.slice A ys.length ca,.slice B ys.length cb] w fun e w'=>e=.returned (.bool true)∧Since w w':=by
 have he:os.length=ys.length:=by rw [← h1.e,List.length_map]
 have ha:=alike_of h1.z h2.z (h1.e.trans h2.e.symm)
 rw [he] at ha
 exact same24 h1.s h2.s ha hl
attribute [local irreducible] Go.Calls
set_option maxHeartbeats 8000000 in
theorem readsL (s:List UInt8) (hm:s.length≤9223372036854775807) {w:World} (hg:GkS w):Calls Tryd.prog 4 #[.string ⟨s.toArray⟩] w fun e w'=>e=.returned (.bool true)∧Since w w':=by
 by_cases hs:s.length≤20000
 ·have hyl:=rdT_len s
  have hp:=fun (w:World) (hg:GkS w)=>(parseP s (by omega) hg).mono fun e w' h=>rd_st h
  have hr:=fun (w:World)=>(readR s (by omega) w).mono fun e w' h=>rd_st h
  obtain ⟨ys,hys⟩:∃ ys,(rdT 0 [] s).1=ys:=⟨_,rfl⟩
  obtain ⟨k,hk⟩:∃ k:Nat,(rdT 0 [] s).2=k:=⟨_,rfl⟩
  obtain ⟨er,her⟩:∃ er:Int,(if k=0 then (0:Int) else 8)=er:=⟨_,rfl⟩
  rw [hys] at hyl
  rw [hys,hk] at hp hr
  simp only [her] at hp hr
  refine entH tab_ok (hold_gk hg) [tx s] Tryd.func4 Tryd.ntmps4 rfl rfl ?_
  repeat' ((conv=>whnf); first | refine sgo ⟨tab_ok⟩ ?_|refine br_not ?_|refine br_t rfl ?_|refine br_f rfl ?_|refine br_t (by assumption) ?_|refine br_f (by assumption) ?_|refine br_t (decide_eq_true (by assumption)) ?_|refine br_f (decide_eq_false (by assumption)) ?_|refine br_t (beq_iff_eq.2 (by assumption)) ?_|refine br_f (beq_eq_false_iff_ne.2 (by assumption)) ?_|refine drA ⟨tab_ok⟩ [] ?_|refine kpt ?_|refine br_t (decide_eq_true (by omega)) ?_|refine br_f (decide_eq_false (by omega)) ?_|refine opP (pvLen (xs:=s) (by rfl) (by rfl) Tryd.underlying9) ?_|refine br_t (by rfl) ?_|refine br_t (beq_self_eq_true _) ?_|refine callN (f:=10) (ι:=List StepD×Option Addr×Nat) (fun y=>.t [.v (.slice y.2.1 ys.length y.2.2),.i .i64 (k:Int),.i .i64 er]) (fun y=>raO w.heap.size ys y.1 y.2.1) (fun w1 hH=>(hp w1 (Hold.ob hH (A:=gkO) 0 rfl)).mono (by rintro e w' ⟨os,z,rfl,h1,h2⟩; exact ⟨(os,z),rfl,⟨h1.e,h1.z,h1.s,fun g hg=>Nat.le_trans hH.upd.size (h1.f g hg)⟩,h2,h1.f⟩)) (fun y=>?_)|refine callN (f:=13) (ι:=List StepD×Option Addr×Nat) (fun y=>.t [.v (.slice y.2.1 ys.length y.2.2),.i .i64 (k:Int),.i .i64 er]) (fun y=>raO w.heap.size ys y.1 y.2.1) (fun w1 hH=>(hr w1).mono (by rintro e w' ⟨os,z,rfl,h1,h2⟩; exact ⟨(os,z),rfl,⟨h1.e,h1.z,h1.s,fun g hg=>Nat.le_trans hH.upd.size (h1.f g hg)⟩,h2,h1.f⟩)) (fun z=>?_)|refine callH (f:=8) (.b true) (fun w1 hH=>ans24 (Hold.ob hH (A:=gkO) 0 rfl)) ?_|refine callH (f:=12) (.b true) (fun w1 hH=>same_ra (Hold.ob hH (A:=raO w.heap.size ys y.1 y.2.1) 1 rfl) (Hold.ob hH (A:=raO w.heap.size ys z.1 z.2.1) 2 rfl) (by omega)) ?_|refine fin_s ?_|refine fin_r ?_ ?_|refine fin_e ?_ ?_)
  all_goals rfl
 ·refine entH tab_ok (hold_gk hg) [tx s] Tryd.func4 Tryd.ntmps4 rfl rfl ?_
  repeat' ((conv=>whnf); first | refine sgo ⟨tab_ok⟩ ?_|refine br_not ?_|refine br_t rfl ?_|refine br_f rfl ?_|refine br_t (by assumption) ?_|refine br_f (by assumption) ?_|refine br_t (decide_eq_true (by assumption)) ?_|refine br_f (decide_eq_false (by assumption)) ?_|refine br_t (beq_iff_eq.2 (by assumption)) ?_|refine br_f (beq_eq_false_iff_ne.2 (by assumption)) ?_|refine drA ⟨tab_ok⟩ [] ?_|refine kpt ?_|refine br_t (decide_eq_true (by omega)) ?_|refine br_f (decide_eq_false (by omega)) ?_|refine opP (pvLen (xs:=s) (by rfl) (by rfl) Tryd.underlying9) ?_|refine callH (f:=8) (.b true) (fun w1 hH=>ans24 (Hold.ob hH (A:=gkO) 0 rfl)) ?_|refine fin_s ?_|refine fin_r ?_ ?_|refine fin_e ?_ ?_)
  all_goals rfl
theorem readsB (a:ByteArray) (hm:a.size≤140737488351232) {w:World} (hg:GkS w):Calls Tryd.prog 4 #[.string a] w fun e w'=>e=.returned (.bool true)∧Since w w':=by
 obtain ⟨s,rfl⟩:∃ s:List UInt8,a=⟨s.toArray⟩:=⟨a.data.toList,by simp⟩
 exact readsL s (by rw [tx_size] at hm; omega) hg
end Sp
namespace Sp
open Go.RowKit Ba Mem En Go.Proofs.YtjghelofdfolbaaDoor.Ty Gw
open Byt (BV isB)
open Co (Hold.ob)
open Sx Sw
set_option maxRecDepth 100000
theorem sz_at {H:Type} {P:Program} {ts:List TypeId} {ds:List (DataW H)} (h:(DataW.weightsEach P ts ds).all (·≤reachBytes)=true) {j:Nat} {t:TypeId} {d:DataW H} (ht:ts[j]?=some t) (hd:ds[j]?=some d):∀ u∈d.weights P t,u≤reachBytes:=fun u hu=>by
  have:=List.all_eq_true.1 h u (DataW.weights_mem_each ht hd u hu)
  exact of_decide_eq_true this
theorem steps_in {H:Type} {enc:TypeId×Value→H} {x:DataW H×List MemPlace} {a:Option Addr} {len cap:Nat} {w:World} (hx:∃ m,DataW.trod enc Tryd.prog w 0 (fun _=>true) true m 22 (Value.cells (.slice a len cap)).toList=some x) (hU:∀ u∈x.1.weights Tryd.prog 22,u≤reachBytes):∃ ss,StR a len ss w∧(∀ i,i < len→StepW (ss i))∧len≤9223372036854775807:=by
 obtain ⟨m,hm⟩:=hx
 exact steps_open hm (fun u hu=>hU u hu)
theorem hold_gs {a:Option Addr} {len nt:Nat} {ss:Nat→StepD} {w:World} (hg:GkS w) (h:StR a len ss w):Hold ⟨Tryd.prog,tab,[],w,nt,[]⟩ [] [gkO,stO a len ss] w :=
 Hold.addObj (hold_gk hg) (stO a len ss) h (by intro k; cases k) (by intro r hr; cases hr) (by intro A hA hw; rw [List.mem_singleton.1 hA] at hw; rcases hw with h | h <;> cases h)
theorem sp_ok {a:Option Addr} {len i:Nat} {ss:Nat→StepD} {w:World} (h:StR a len ss w) (hw:StepW (ss i)) (hi:i < len):SPok (spD (ss i)):=by
 refine ⟨w_64 hw.k,w_64 hw.a,w_64 hw.b,fun z hz=>?_⟩
 obtain ⟨y,hy,rfl⟩:=List.mem_map.1 hz
 have:=(h.d i hi).2.2.1 y hy
 unfold isB at this
 show y.toNat < 256
 omega
theorem stL_mem {n:Nat} {ss:Nat→StepD} {x:StepD} (h:x∈stL n ss):∃ i,i < n∧x=ss i:=by
 unfold stL at h
 obtain ⟨i,hi,rfl⟩:=List.mem_map.1 h
 exact ⟨i,List.mem_range.1 hi,rfl⟩
theorem sps_ok {a:Option Addr} {len:Nat} {ss:Nat→StepD} {w:World} (h:StR a len ss w) (hw:∀ i,i < len→StepW (ss i)):∀ x∈(stL len ss).map spD,SPok x:=fun x hx=>by
 obtain ⟨y,hy,rfl⟩:=List.mem_map.1 hx
 obtain ⟨i,hi,rfl⟩:=stL_mem hy
 exact sp_ok h (hw i hi) hi
theorem stL_succ (n:Nat) (ss:Nat→StepD):stL (n+1) ss=stL n ss++[ss n]:=by
 unfold stL
 rw [List.range_succ,List.map_append]; rfl
theorem printL_app (l m:List StepD):printL (l++m)=printL l++printL m:=by unfold printL; rw [List.flatMap_append]
theorem print_le {a:Option Addr} {len:Nat} {ss:Nat→StepD} {w:World} (h:StR a len ss w) (hw:∀ i,i < len→StepW (ss i)):∀ k,k≤len→(printL (stL k ss)).length≤70*k+2*sumT ss k
 | 0,_=>Nat.zero_le _
 | k+1,hk=>by
  have h1:=print_le h hw k (by omega)
  have hW:=hw k (by omega)
  have h2:=lineL_len (zs:=(ss k).d) (w_64 hW.k) (w_64 hW.a) (w_64 hW.b)
  have h3:=hW.l
  rw [stL_succ,printL_app,List.length_append]
  have e:printL [ss k]=lineL (ss k).k (ss k).a (ss k).b (ss k).d:=by unfold printL; simp
  have e2:sumT ss (k+1)=sumT ss k+(ss k).n:=rfl
  rw [e,e2]
  omega
theorem nat_back {zs:List Int} (h:∀ z∈zs,isB z):zsN (zs.map Int.toNat)=zs:=by
 unfold zsN
 rw [List.map_map]
 conv=>rhs; rw [← List.map_id zs]
 refine List.map_congr_left fun z hz=>?_
 have:=h z hz
 unfold isB at this
 show ((z.toNat:Nat):Int)=z
 omega
theorem alike_in {a:Option Addr} {len:Nat} {ss:Nat→StepD} {os:List StepD} {w:World} (h:StR a len ss w) (hz:okZ os) (he:os.map spD=(stL len ss).map spD):Alike len (stF' os) ss:=fun i hi=>by
 have hl:os.length=len:=by have:=congrArg List.length he; rw [List.length_map,List.length_map,stL_len] at this; exact this
 have g1:=stF_get (os:=os) (i:=i) (by omega)
 obtain ⟨x,y,e1⟩:=hz _ (List.mem_of_getElem? g1)
 have e3:spD (stF' os i)=spD (ss i):=by
  have:=congrArg (fun l=>l[i]?) he
  simp only [List.getElem?_map,g1,stL_at hi,Option.map_some,Option.some.injEq] at this
  exact this
 rw [e1,stZ_sp] at e3
 have hb:=h.d i hi
 have h1:=nat_back hb.2.2.1
 have h2:(ss i).d.length=(ss i).n:=hb.1
 obtain ⟨s0,hq⟩:∃ s0,ss i=s0:=⟨_,rfl⟩
 rw [hq] at e3 h1 h2 ⊢
 obtain ⟨k1,a1,b1,A1,n1,c1,d1⟩:=s0
 have h2:d1.length=n1:=h2
 have h1:zsN (d1.map Int.toNat)=d1:=h1
 subst h2
 rw [e1,e3]
 refine ⟨A1,c1, ?_⟩
 show _=StepD.mk k1 a1 b1 A1 (zsN (d1.map Int.toNat)).length c1 (zsN (d1.map Int.toNat))
 rw [h1]
theorem text_of {a:Option Addr} {len:Nat} {ss:Nat→StepD} {w:World} (h:StR a len ss w) (hw:∀ i,i < len→StepW (ss i)):rdT 0 [] (printL (stL len ss))=((stL len ss).map spD,0):=by
 rw [printL_is]
 exact rdT_one _ (sps_ok h hw)
attribute [local irreducible] Go.Calls printL stL litB
set_option maxHeartbeats 8000000 in
theorem printsF {a:Option Addr} {len cap:Nat} {ss:Nat→StepD} {w:World} (hg:GkS w) (h:StR a len ss w) (hw:∀ i,i < len→StepW (ss i)) (hlen:len≤9223372036854775807):Calls Tryd.prog 3 #[.slice a len cap] w fun e w'=>e=.returned (.bool true)∧Since w w':=by
 cases hb:litB ss len with
 | false =>
  refine entH tab_ok (hold_gs hg h) [.v (.slice a len cap)] Tryd.func3 Tryd.ntmps3 rfl rfl ?_
  repeat' ((conv=>whnf); first | refine sgo ⟨tab_ok⟩ ?_|refine br_not ?_|refine br_t rfl ?_|refine br_f rfl ?_|refine br_t (by assumption) ?_|refine br_f (by assumption) ?_|refine br_t (decide_eq_true (by assumption)) ?_|refine br_f (decide_eq_false (by assumption)) ?_|refine br_t (beq_iff_eq.2 (by assumption)) ?_|refine br_f (beq_eq_false_iff_ne.2 (by assumption)) ?_|refine drA ⟨tab_ok⟩ [] ?_|refine kpt ?_|refine br_t (decide_eq_true (by omega)) ?_|refine br_f (decide_eq_false (by omega)) ?_|refine callH (f:=7) (.b false) (fun w1 hH=>by have:=light24 (cap:=cap) (Hold.ob hH (A:=stO a len ss) 1 rfl) hlen; rw [hb] at this; exact this) ?_|refine callH (f:=8) (.b true) (fun w1 hH=>ans24 (Hold.ob hH (A:=gkO) 0 rfl)) ?_|refine fin_s ?_|refine fin_r ?_ ?_|refine fin_e ?_ ?_)
  all_goals rfl
 | true =>
  obtain ⟨h3,h4⟩:=lit_of hb hw
  have hn:∀ i,i < len→(ss i).n≤20000:=fun i hi=>by have:=sumT_at (ss:=ss) hi; omega
  have hL:=print_le h hw len (Nat.le_refl _)
  have hrd:=text_of h hw
  obtain ⟨t,ht⟩:∃ t,printL (stL len ss)=t:=⟨_,rfl⟩
  have hB:∀ i,i < len→StB (ss i):=fun i hi=>⟨w_64 (hw i hi).k,w_64 (hw i hi).a,w_64 (hw i hi).b,by have:=hn i hi; omega⟩
  have hp:=fun (w:World) (hg:GkS w) (h:StR a len ss w)=>printP_ (c:=cap) hg h hB (fun i hi=>by have:=hn i hi; omega) (by omega) (by omega)
  have hr:=fun (w:World) (h:StR a len ss w)=>printR (c:=cap) h hB (by omega) (by omega)
  rw [ht] at hL hrd hp hr
  have hq:=fun (w:World) (hg:GkS w)=>(parseP t (by omega) hg).mono fun e w' h=>rd_st h
  have hyl:((stL len ss).map spD).length=len:=by rw [List.length_map,stL_len]
  rw [hrd] at hq
  simp only [hyl] at hq
  refine entH tab_ok (hold_gs hg h) [.v (.slice a len cap)] Tryd.func3 Tryd.ntmps3 rfl rfl ?_
  repeat' ((conv=>whnf); first | refine sgo ⟨tab_ok⟩ ?_|refine br_not ?_|refine br_t rfl ?_|refine br_f rfl ?_|refine br_t (by assumption) ?_|refine br_f (by assumption) ?_|refine br_t (decide_eq_true (by assumption)) ?_|refine br_f (decide_eq_false (by assumption)) ?_|refine br_t (beq_iff_eq.2 (by assumption)) ?_|refine br_f (beq_eq_false_iff_ne.2 (by assumption)) ?_|refine drA ⟨tab_ok⟩ [] ?_|refine kpt ?_|refine br_t (decide_eq_true (by omega)) ?_|refine br_f (decide_eq_false (by omega)) ?_|refine br_t (by rfl) ?_|refine br_t (beq_self_eq_true _) ?_|refine callH (f:=7) (.b true) (fun w1 hH=>by have:=light24 (cap:=cap) (Hold.ob hH (A:=stO a len ss) 1 rfl) hlen; rw [hb] at this; exact this) ?_|refine callH (f:=9) (tx t) (fun w1 hH=>hp w1 (Hold.ob hH (A:=gkO) 0 rfl) (Hold.ob hH (A:=stO a len ss) 1 rfl)) ?_|refine callN (f:=10) (ι:=List StepD×Option Addr×Nat) (fun y=>.t [.v (.slice y.2.1 len y.2.2),.i .i64 0,.i .i64 0]) (fun y=>raO w.heap.size ((stL len ss).map spD) y.1 y.2.1) (fun w1 hH=>(hq w1 (Hold.ob hH (A:=gkO) 0 rfl)).mono (by rintro e w' ⟨os,z,rfl,h1,h2⟩; exact ⟨(os,z),rfl,⟨h1.e,h1.z,h1.s,fun g hg=>Nat.le_trans hH.upd.size (h1.f g hg)⟩,h2,h1.f⟩)) (fun y=>?_)|refine callH (f:=8) (.b true) (fun w1 hH=>ans24 (Hold.ob hH (A:=gkO) 0 rfl)) ?_|refine callH (f:=11) (tx t) (fun w1 hH=>hr w1 (Hold.ob hH (A:=stO a len ss) 1 rfl)) ?_|refine callH (f:=12) (.b true) (fun w1 hH=>by have hr:=Hold.ob hH (A:=raO w.heap.size ((stL len ss).map spD) y.1 y.2.1) 2 rfl; have hs:=RdA.s hr; rw [hyl] at hs; exact same24 hs (Hold.ob hH (A:=stO a len ss) 1 rfl) (alike_in (Hold.ob hH (A:=stO a len ss) 1 rfl) (RdA.z hr) (RdA.e hr)) (by omega)) ?_|refine fin_s ?_|refine fin_r ?_ ?_|refine fin_e ?_ ?_)
  all_goals rfl
theorem printsL {H:Type} {enc:TypeId×Value→H} {x:DataW H×List MemPlace} {a:Option Addr} {len cap:Nat} {w:World} (hg:GkS w) (hx:∃ m,DataW.trod enc Tryd.prog w 0 (fun _=>true) true m 22 (Value.cells (.slice a len cap)).toList=some x) (hU:∀ u∈x.1.weights Tryd.prog 22,u≤reachBytes):Calls Tryd.prog 3 #[.slice a len cap] w fun e w'=>e=.returned (.bool true)∧Since w w':=by
 obtain ⟨ss,h1,h2,h3⟩:=steps_in hx hU
 exact printsF hg h1 h2 h3
end Sp
namespace Sp
open Go.RowKit Ba Mem En Go.Proofs.YtjghelofdfolbaaDoor.Ty Gw
open Co (Hold.ob)
open Sx Sw
set_option maxRecDepth 100000
theorem se_18 (s:List UInt8):(seD (setV s)).length=18:=by
 cases h:setV s with
 | none=>rfl
 | some l=>exact set_18 h
theorem cfg_ok {x0 x1 x2 x3 x4 x5 x6 x7 x8 x9 x10 x11 x12 x13 x14 x15 x16 x17:Int} (h0:(Lit.int .i64 x0).wf=true) (h1:(Lit.int .i64 x1).wf=true) (h2:(Lit.int .i64 x2).wf=true) (h3:(Lit.int .i64 x3).wf=true) (h4:(Lit.int .i64 x4).wf=true) (h5:(Lit.int .i64 x5).wf=true) (h6:(Lit.int .i64 x6).wf=true) (h7:(Lit.int .i64 x7).wf=true) (h8:(Lit.int .i64 x8).wf=true) (h9:(Lit.int .i64 x9).wf=true) (h10:(Lit.int .i64 x10).wf=true) (h11:(Lit.int .i64 x11).wf=true) (h12:(Lit.int .i64 x12).wf=true) (h13:(Lit.int .i64 x13).wf=true) (h14:(Lit.int .i64 x14).wf=true) (h15:(Lit.int .i64 x15).wf=true) (h16:(Lit.int .i64 x16).wf=true) (h17:(Lit.int .i64 x17).wf=true):∀ n∈cfgI ⟨x0,x1,x2,x3,x4,x5,x6,x7,x8,x9,x10,x11,x12,x13,x14,x15,x16,x17⟩,n64 n:=by
 intro n hn
 unfold cfgI at hn
 simp only [List.mem_cons,List.not_mem_nil,or_false] at hn
 rcases hn with rfl | rfl | rfl | rfl | rfl | rfl | rfl | rfl | rfl | rfl | rfl | rfl | rfl | rfl | rfl | rfl | rfl | rfl <;> (apply w_64; assumption)
attribute [local irreducible] Go.Calls setL
set_option maxHeartbeats 8000000 in
theorem setsL (c:CfgV) (hc:∀ n∈cfgI c,n64 n) (s:List UInt8) {w:World} (hg:GkS w):Calls Tryd.prog 5 #[.agg #[.int .i64 c.ca,.int .i64 c.fl,.int .i64 c.ft,.int .i64 c.se,.int .i64 c.dr,.int .i64 c.dw,.int .i64 c.ho,.int .i64 c.re,.int .i64 c.yi,.int .i64 c.qu,.int .i64 c.qo,.int .i64 c.lo,.int .i64 c.sl,.int .i64 c.rt,.int .i64 c.cp,.int .i64 c.tr,.int .i64 c.de,.int .i64 c.wi],.string ⟨s.toArray⟩] w fun e w'=>e=.returned (.bool true)∧Since w w':=by
 by_cases hs:s.length≤2000
 ·have hset:=fun (w:World) (hg:GkS w)=>settingP c hc hg
  have hrs:=fun (w:World)=>settingR c hc w
  have hb:=set_setL (l:=cfgI c) rfl hc
  have hl:(setL (cfgI c)).length≤900000:=by
   have:=nums_len (l:=cfgI c) hc
   have e:(cfgI c).length=18:=rfl
   unfold setL
   rw [List.length_append]
   simp only [List.length_cons,List.length_nil]
   omega
  have hback:∀ w:World,GkS w→Calls Tryd.prog 15 #[.string ⟨(setL (cfgI c)).toArray⟩] w fun e w'=>e=.returned (.tuple #[.agg #[.int .i64 c.ca,.int .i64 c.fl,.int .i64 c.ft,.int .i64 c.se,.int .i64 c.dr,.int .i64 c.dw,.int .i64 c.ho,.int .i64 c.re,.int .i64 c.yi,.int .i64 c.qu,.int .i64 c.qo,.int .i64 c.lo,.int .i64 c.sl,.int .i64 c.rt,.int .i64 c.cp,.int .i64 c.tr,.int .i64 c.de,.int .i64 c.wi],.bool true])∧Since w w':=fun w hg=>(setP _ hl hg).mono (by rw [hb]; rintro e w' ⟨rfl,h⟩; exact ⟨rfl,h⟩)
  obtain ⟨t,ht⟩:∃ t,setL (cfgI c)=t:=⟨_,rfl⟩
  rw [ht] at hset hrs hback
  obtain ⟨yes,hy⟩:∃ y:Bool,(setV s).isSome=y:=⟨_,rfl⟩
  obtain ⟨a0,a1,a2,a3,a4,a5,a6,a7,a8,a9,a10,a11,a12,a13,a14,a15,a16,a17,hv⟩:=at18 (se_18 s)
  have hsp:∀ w:World,GkS w→Calls Tryd.prog 15 #[.string ⟨s.toArray⟩] w fun e w'=>e=.returned (.tuple #[.agg #[.int .i64 a0,.int .i64 a1,.int .i64 a2,.int .i64 a3,.int .i64 a4,.int .i64 a5,.int .i64 a6,.int .i64 a7,.int .i64 a8,.int .i64 a9,.int .i64 a10,.int .i64 a11,.int .i64 a12,.int .i64 a13,.int .i64 a14,.int .i64 a15,.int .i64 a16,.int .i64 a17],.bool yes])∧Since w w':=fun w hg=>(setP s (by omega) hg).mono (by rintro e w' ⟨rfl,h⟩; rw [hv,hy]; exact ⟨rfl,h⟩)
  have hsr:∀ w:World,Calls Tryd.prog 16 #[.string ⟨s.toArray⟩] w fun e w'=>e=.returned (.tuple #[.agg #[.int .i64 a0,.int .i64 a1,.int .i64 a2,.int .i64 a3,.int .i64 a4,.int .i64 a5,.int .i64 a6,.int .i64 a7,.int .i64 a8,.int .i64 a9,.int .i64 a10,.int .i64 a11,.int .i64 a12,.int .i64 a13,.int .i64 a14,.int .i64 a15,.int .i64 a16,.int .i64 a17],.bool yes])∧Since w w':=fun w=>(setR s (by omega) w).mono (by rintro e w' ⟨rfl,h⟩; rw [hv,hy]; exact ⟨rfl,h⟩)
  refine entH tab_ok (hold_gk hg) [.a [.i .i64 c.ca,.i .i64 c.fl,.i .i64 c.ft,.i .i64 c.se,.i .i64 c.dr,.i .i64 c.dw,.i .i64 c.ho,.i .i64 c.re,.i .i64 c.yi,.i .i64 c.qu,.i .i64 c.qo,.i .i64 c.lo,.i .i64 c.sl,.i .i64 c.rt,.i .i64 c.cp,.i .i64 c.tr,.i .i64 c.de,.i .i64 c.wi],tx s] Tryd.func5 Tryd.ntmps5 rfl rfl ?_
  repeat' ((conv=>whnf); first | refine sgo ⟨tab_ok⟩ ?_|refine br_not ?_|refine br_t rfl ?_|refine br_f rfl ?_|refine br_t (by assumption) ?_|refine br_f (by assumption) ?_|refine br_t (decide_eq_true (by assumption)) ?_|refine br_f (decide_eq_false (by assumption)) ?_|refine br_t (beq_iff_eq.2 (by assumption)) ?_|refine br_f (beq_eq_false_iff_ne.2 (by assumption)) ?_|intro b | refine drA ⟨tab_ok⟩ [] ?_|refine kpt ?_|refine br_t (decide_eq_true (by omega)) ?_|refine br_f (decide_eq_false (by omega)) ?_|refine br_t (by rfl) ?_|refine br_t (beq_self_eq_true _) ?_|refine br_t (by simp) ?_|refine opP (pvLen (xs:=s) (by rfl) (by rfl) Tryd.underlying9) ?_|refine callH (f:=14) (tx t) (fun w1 hH=>hset w1 (Hold.ob hH (A:=gkO) 0 rfl)) ?_|refine callH (f:=15) (.t [.a [.i .i64 c.ca,.i .i64 c.fl,.i .i64 c.ft,.i .i64 c.se,.i .i64 c.dr,.i .i64 c.dw,.i .i64 c.ho,.i .i64 c.re,.i .i64 c.yi,.i .i64 c.qu,.i .i64 c.qo,.i .i64 c.lo,.i .i64 c.sl,.i .i64 c.rt,.i .i64 c.cp,.i .i64 c.tr,.i .i64 c.de,.i .i64 c.wi],.b true]) (fun w1 hH=>hback w1 (Hold.ob hH (A:=gkO) 0 rfl)) ?_|refine callH (f:=15) (.t [.a [.i .i64 a0,.i .i64 a1,.i .i64 a2,.i .i64 a3,.i .i64 a4,.i .i64 a5,.i .i64 a6,.i .i64 a7,.i .i64 a8,.i .i64 a9,.i .i64 a10,.i .i64 a11,.i .i64 a12,.i .i64 a13,.i .i64 a14,.i .i64 a15,.i .i64 a16,.i .i64 a17],.b yes]) (fun w1 hH=>hsp w1 (Hold.ob hH (A:=gkO) 0 rfl)) ?_|refine callS (f:=16) (.t [.a [.i .i64 a0,.i .i64 a1,.i .i64 a2,.i .i64 a3,.i .i64 a4,.i .i64 a5,.i .i64 a6,.i .i64 a7,.i .i64 a8,.i .i64 a9,.i .i64 a10,.i .i64 a11,.i .i64 a12,.i .i64 a13,.i .i64 a14,.i .i64 a15,.i .i64 a16,.i .i64 a17],.b yes]) (fun w1=>hsr w1) ?_|refine callS (f:=17) (tx t) (fun w1=>hrs w1) ?_|refine callH (f:=8) (.b true) (fun w1 hH=>ans24 (Hold.ob hH (A:=gkO) 0 rfl)) ?_|refine fin_s ?_|refine fin_r ?_ ?_|refine fin_e ?_ ?_)
  all_goals first | rfl | (simp [den]; done)
 ·refine entH tab_ok (hold_gk hg) [.a [.i .i64 c.ca,.i .i64 c.fl,.i .i64 c.ft,.i .i64 c.se,.i .i64 c.dr,.i .i64 c.dw,.i .i64 c.ho,.i .i64 c.re,.i .i64 c.yi,.i .i64 c.qu,.i .i64 c.qo,.i .i64 c.lo,.i .i64 c.sl,.i .i64 c.rt,.i .i64 c.cp,.i .i64 c.tr,.i .i64 c.de,.i .i64 c.wi],tx s] Tryd.func5 Tryd.ntmps5 rfl rfl ?_
  repeat' ((conv=>whnf); first | refine sgo ⟨tab_ok⟩ ?_|refine br_not ?_|refine br_t rfl ?_|refine br_f rfl ?_|refine br_t (by assumption) ?_|refine br_f (by assumption) ?_|refine br_t (decide_eq_true (by assumption)) ?_|refine br_f (decide_eq_false (by assumption)) ?_|refine br_t (beq_iff_eq.2 (by assumption)) ?_|refine br_f (beq_eq_false_iff_ne.2 (by assumption)) ?_|intro b | refine drA ⟨tab_ok⟩ [] ?_|refine kpt ?_|refine br_t (decide_eq_true (by omega)) ?_|refine br_f (decide_eq_false (by omega)) ?_|refine opP (pvLen (xs:=s) (by rfl) (by rfl) Tryd.underlying9) ?_|refine callH (f:=8) (.b true) (fun w1 hH=>ans24 (Hold.ob hH (A:=gkO) 0 rfl)) ?_|refine fin_s ?_|refine fin_r ?_ ?_|refine fin_e ?_ ?_)
  all_goals rfl
theorem setsB (c:CfgV) (a:ByteArray) (hc:∀ n∈cfgI c,n64 n) {w:World} (hg:GkS w):Calls Tryd.prog 5 #[.agg #[.int .i64 c.ca,.int .i64 c.fl,.int .i64 c.ft,.int .i64 c.se,.int .i64 c.dr,.int .i64 c.dw,.int .i64 c.ho,.int .i64 c.re,.int .i64 c.yi,.int .i64 c.qu,.int .i64 c.qo,.int .i64 c.lo,.int .i64 c.sl,.int .i64 c.rt,.int .i64 c.cp,.int .i64 c.tr,.int .i64 c.de,.int .i64 c.wi],.string a] w fun e w'=>e=.returned (.bool true)∧Since w w':=by
 obtain ⟨s,rfl⟩:∃ s:List UInt8,a=⟨s.toArray⟩:=⟨a.data.toList,by simp⟩
 exact setsL c hc s hg
end Sp
namespace Sp
open Go.RowKit Ba Mem En Go.Proofs.YtjghelofdfolbaaDoor.Ty Gw
open Byt (BV isB)
open Co (Hold.ob)
open Sx Sw
set_option maxRecDepth 100000
theorem st_reads {a:Option Addr} {len:Nat} {ss:Nat→StepD} {w:World} (h:StR a len ss w):Reads w w.heap.size 4 a len (rowsOf stepE.c (stL len ss)):=by
 have hk:∀ s:StepD,(stepE.c s).length=4:=fun _=>rfl
 have hl:(rowsOf stepE.c (stL len ss)).length=len*4:=by rw [rowsOf_len hk,stL_len]
 refine ⟨hl,fun h0=>?_⟩
 rcases h.r with e | ⟨b,off,rfl,hb,hc⟩
 ·omega
 ·refine ⟨_,rfl,hb,fun j u hj=>?_⟩
  have hj4:j < len*4:=by rw [← hl]; exact (List.getElem?_eq_some_iff.1 hj).1
  have hi:j / 4 < len:=by omega
  have hi2:j / 4 < (stL len ss).length:=by rw [stL_len]; exact hi
  have e:=rowsOf_at hk hi2
  have e2:(stL len ss)[j / 4]=ss (j / 4):=by
   have:=stL_at (ss:=ss) hi
   rw [List.getElem?_eq_getElem hi2] at this
   exact Option.some.inj this
  rw [e2] at e
  have h3:(stepE.c (ss (j / 4)))[j % 4]?=some u:=by
   rw [← e,List.getElem?_take_of_lt (by omega),List.getElem?_drop,show j / 4*4+j % 4=j by omega]
   exact hj
  have:=hc (j / 4) hi (j % 4) u h3
  rw [show off+j / 4*stepE.k+j % 4=off+j from by show off+j / 4*4+j % 4=off+j; omega] at this
  rw [Go.WideShapes.add_plain]
  exact this
theorem st_join {a b A:Option Addr} {la lb c lo:Nat} {sa sb:Nat→StepD} {w:World} (h:stepE.At lo A (stL la sa++stL lb sb).length c (stL la sa++stL lb sb) w) (h1:StR a la sa w) (h2:StR b lb sb w):StR A (stL la sa++stL lb sb).length (stF' (stL la sa++stL lb sb)) w:=by
 refine ⟨rd_own h rfl (fun i hi=>stF_get hi),fun i hi=>?_⟩
 have hm:=List.mem_of_getElem? (stF_get hi)
 rcases List.mem_append.1 hm with hm | hm
 ·obtain ⟨j,hj,e⟩:=stL_mem hm
  rw [e]; exact h1.d j hj
 ·obtain ⟨j,hj,e⟩:=stL_mem hm
  rw [e]; exact h2.d j hj
theorem alike_gen {os ps:List StepD} (hz:okZ os) (he:os.map spD=ps.map spD) (hb:∀ p∈ps,(∀ z∈p.d,isB z)∧p.d.length=p.n):Alike os.length (stF' os) (stF' ps):=fun i hi=>by
 have hl:os.length=ps.length:=by have:=congrArg List.length he; simpa using this
 have g1:=stF_get (os:=os) (i:=i) hi
 have g2:=stF_get (os:=ps) (i:=i) (by omega)
 obtain ⟨x,y,e1⟩:=hz _ (List.mem_of_getElem? g1)
 have e3:spD (stF' os i)=spD (stF' ps i):=by
  have:=congrArg (fun l=>l[i]?) he
  simp only [List.getElem?_map,g1,g2,Option.map_some,Option.some.injEq] at this
  exact this
 rw [e1,stZ_sp] at e3
 obtain ⟨h0,h2⟩:=hb _ (List.mem_of_getElem? g2)
 have h1:=nat_back h0
 obtain ⟨s0,hq⟩:∃ s0,stF' ps i=s0:=⟨_,rfl⟩
 rw [hq] at e3 h1 h2 ⊢
 obtain ⟨k1,a1,b1,A1,n1,c1,d1⟩:=s0
 have h2:d1.length=n1:=h2
 have h1:zsN (d1.map Int.toNat)=d1:=h1
 subst h2
 rw [e1,e3]
 refine ⟨A1,c1, ?_⟩
 show _=StepD.mk k1 a1 b1 A1 (zsN (d1.map Int.toNat)).length c1 (zsN (d1.map Int.toNat))
 rw [h1]
theorem st_b {a:Option Addr} {len:Nat} {ss:Nat→StepD} {w:World} (h:StR a len ss w):∀ p∈stL len ss,(∀ z∈p.d,isB z)∧p.d.length=p.n:=fun p hp=>by
 obtain ⟨i,hi,rfl⟩:=stL_mem hp
 exact ⟨(h.d i hi).2.2.1,(h.d i hi).1⟩
def bsI (s:List UInt8):List Int:=s.map fun b=>(b.toNat:Int)
theorem str_bv {g:Nat} {s:List UInt8} {w:World} (h:(strO g s).st w) (hl:s.length≤9223372036854775807):BV w (some ⟨g,0,none⟩) s.length (bsI s):=by
 obtain ⟨cs,fz,h1,h2⟩:=h
 refine ⟨by simp [bsI],hl,fun z hz=>?_,.inr ⟨g,0,rfl,(Array.getElem?_eq_some_iff.1 h1).1,fun j hj=>?_⟩⟩
 ·obtain ⟨b,_,rfl⟩:=List.mem_map.1 hz
  have:=b.toNat_lt
  unfold isB
  omega
 ·have e:cs[j]?=(Lib.byteCells s)[j]?:=by
   rw [← h2,List.getElem?_take_of_lt hj]; simp
  have e3:w.cell? ⟨g,j,none⟩=cs[j]?:=by simp [World.cell?,h1]
  rw [Nat.zero_add,e3,e]
  unfold bsI
  rw [List.getD_eq_getElem?_getD]
  simp [Lib.byteCells,hj]
theorem hold_jn {a b:Option Addr} {la lb nt:Nat} {sa sb:Nat→StepD} {w:World} (hg:GkS w) (h1:StR a la sa w) (h2:StR b lb sb w):Hold ⟨Tryd.prog,tab,[],w,nt,[]⟩ [] [gkO,stO a la sa,stO b lb sb] w :=
 Hold.addObj (hold_gs hg h1) (stO b lb sb) h2 (by intro k; cases k) (by intro r hr; cases hr) (by
  intro A hA hw
  rcases List.mem_cons.1 hA with rfl | hA
  ·rcases hw with h | h <;> cases h
  ·rw [List.mem_singleton.1 hA] at hw; rcases hw with h | h <;> cases h)
theorem rd_bad {w w':World} {e:Ending} {s:List UInt8} {k:Nat} (hy:rdT 0 [] s=([],k+1)) (h:rdP w (rdT 0 [] s) e w'):∃ z:Option Addr×Nat,e=.returned (.tuple #[.slice z.1 0 z.2,.int .i64 ((k+1:Nat):Int),.int .i64 8])∧Since w w':=by
 rw [hy] at h
 obtain ⟨os,z,h1,h2,rfl,h4,h5,h6⟩:=h
 have:os=[]:=by simpa using h1
 subst this
 exact ⟨z,by simp,h6⟩
theorem text_two {a b:Option Addr} {la lb:Nat} {sa sb:Nat→StepD} {w:World} (h1:StR a la sa w) (h2:StR b lb sb w) (w1:∀ i,i < la→StepW (sa i)) (w2:∀ i,i < lb→StepW (sb i)):rdT 0 [] (printL (stL la sa)++printL (stL lb sb))=((stL la sa++stL lb sb).map spD,0):=by
 rw [printL_is,printL_is,List.map_append]
 exact rdT_two _ _ (sps_ok h1 w1) (sps_ok h2 w2)
theorem text_mid {a:Option Addr} {la lb:Nat} {sa sb:Nat→StepD} {s:List UInt8} {w:World} (h1:StR a la sa w) (w1:∀ i,i < la→StepW (sa i)) (hs:∀ c∈s,c≠10) (hl:lineV s=none):rdT 0 [] (printL (stL la sa)++s++[10]++printL (stL lb sb))=([],la+1):=by
 rw [printL_is,printL_is]
 have:=rdT_mid ((stL la sa).map spD) ((stL lb sb).map spD) s (sps_ok h1 w1) hs hl
 rw [List.length_map,stL_len] at this
 exact this
end Sp
end Go.Proofs.YtjghelofdfolbaaDoor
