/-
  Wanted: part 5.
  No condition.
-/
import Derived.Test.YtjghelofdfolbaaDoorRows
import Derived.Test.YtjghelofdfolbaaDoorPS4
import Derived.Test.YtjghelofdfolbaaDoorPS3
import Derived.Deep.Slices
import Derived.ChangeSlices
import Derived.SizedLaws
import Derived.DataShut
import Derived.Test.YtjghelofdfolbaaDoorPS2
set_option linter.all false
namespace Go.Proofs.YtjghelofdfolbaaDoor
namespace Gw
open Go.RowKit Ba Mem En Go.Proofs.YtjghelofdfolbaaDoor.Ty
open Byt (BV isB)
set_option maxRecDepth 100000
structure StepD where
 k:Int
 a:Int
 b:Int
 A:Option Addr
 n:Nat
 c:Nat
 d:List Int
instance:Inhabited StepD:=⟨⟨0,0,0,none,0,0,[]⟩⟩
def stepC (s:StepD):List Value:=[.int .i64 s.k,.int .i64 s.a,.int .i64 s.b,.slice s.A s.n s.c]
def stepE:Ek StepD:=⟨40,4,stepC,fun _=>rfl,by
 intro a u hu
 simp only [stepC,List.mem_cons,List.not_mem_nil,or_false] at hu
 rcases hu with rfl | rfl | rfl | rfl <;> rfl⟩
structure StepW (s:StepD):Prop where
 k:(Lit.int .i64 s.k).wf=true
 a:(Lit.int .i64 s.a).wf=true
 b:(Lit.int .i64 s.b).wf=true
 l:s.d.length=s.n
 c:s.n≤s.c
 m:s.n≤140737488351232
theorem weights_mem_all {H:Type} {P:Program} {e:TypeId}:∀ {ds:List (DataW H)} {d:DataW H},d∈ds→∀ n∈d.weights P e,n∈DataW.weightsAll P e ds
 | [],_,h,_,_=>by cases h
 | d0::r,d,h,n,hn=>by
  simp only [DataW.weightsAll,List.mem_append]
  rcases List.mem_cons.1 h with rfl | h
  ·exact .inl hn
  ·exact .inr (weights_mem_all h n hn)
section
variable {H:Type} {enc:TypeId×Value→H} {w:World} {base:Nat} {spare:Nat→Bool} {held:Bool}
theorem step_of {fuel:Nat} {cs:List Value} {x:DataW H×List MemPlace} (h:DataW.trod enc Tryd.prog w base spare held fuel 40 cs=some x) (hU:∀ u∈x.1.weights Tryd.prog 40,u≤140737488351232):∃ s:StepD,cs=stepC s∧BV w s.A s.n s.d∧StepW s:=by
 have e1:Tryd.prog.cellsOf 3=1:=by kernel_rfl
 have es:Tryd.prog.cellsOf 38=1:=by kernel_rfl
 have eb:Tryd.prog.bytesOf 5=1:=by kernel_rfl
 obtain ⟨xs,n,rfl,hxe,hl,hx,hf⟩:=DataW.trod_struct Tryd.underlying40 h
 have hl':cs.length=4:=hl.trans (by kernel_rfl)
 match cs,hl' with
 | [a0,a1,a2,a3],_ =>
  have hx':xs.length=4:=hx
  match xs,hx' with
  | [y0,y1,y2,y3],_ =>
   have g0:=hf 0 _ rfl
   have g1:=hf 1 _ rfl
   have g2:=hf 2 _ rfl
   have g3:=hf 3 _ rfl
   simp [e1,es] at g0 g1 g2 g3
   obtain ⟨v0,q0,_,k0⟩:=DataW.trod_int Tryd.underlying3 g0
   obtain ⟨v1,q1,_,k1⟩:=DataW.trod_int Tryd.underlying3 g1
   obtain ⟨v2,q2,_,k2⟩:=DataW.trod_int Tryd.underlying3 g2
   simp at q0 q1 q2
   subst q0 q1 q2
   have hw:∀ u∈DataW.weights Tryd.prog 38 y3.1,u≤140737488351232:=fun u hu=>by
    refine hU u ?_
    rw [hxe]
    simp only [DataW.weights,Tryd.underlying40]
    exact DataW.weights_mem_each (j:=3) (t:=38) (d:=y3.1) rfl rfl u hu
   rcases Go.ChangeShapes.open_ints Tryd.underlying38 Tryd.underlying5 (by kernel_rfl) g3 with ⟨hcs,_⟩ | ⟨x,l2,c,zs,hcs,_,hlc,hm2,hz,hy,hcl,hww⟩
   ·simp at hcs
    subst hcs
    exact ⟨⟨v0,v1,v2,none,0,0,[]⟩,rfl,BV.nil _ _,⟨k0,k1,k2,rfl,by simp,by simp⟩⟩
   ·simp at hcs
    subst hcs
    have hlz:l2≤zs.length:=by rw [hz]; split <;> omega
    have hm3:l2≤140737488351232:=by
     have:=hw _ (by
      rw [show y3=_ from hy]
      simp only [DataW.weights,Tryd.underlying38]
      exact List.mem_cons_self ..)
     simp only [Go.ChangeShapes.lits,List.length_map,List.length_take,List.length_drop,eb] at this
     omega
    exact ⟨⟨v0,v1,v2,some x,l2,c,zs.take l2⟩,rfl,Pa.bv_cells hlz (Nat.le_trans hlc hm2) hcl hww,⟨k0,k1,k2,by show (zs.take l2).length=l2; rw [List.length_take]; omega,hlc,hm3⟩⟩
end
structure StR (a:Option Addr) (len:Nat) (ss:Nat→StepD) (w:World):Prop where
 r:stepE.Rd a len ss w
 d:∀ i,i < len→BV w (ss i).A (ss i).n (ss i).d
def stF (a:Option Addr) (len:Nat) (ss:Nat→StepD):List Nat:=rdF a len++(List.range len).flatMap fun i=>rdF (ss i).A (ss i).n
theorem stF_at {a:Option Addr} {len i:Nat} {ss:Nat→StepD} (hi:i < len):∀ g∈rdF (ss i).A (ss i).n,g∈stF a len ss:=fun g hg=>List.mem_append.2 (.inr (List.mem_flatMap.2 ⟨i,List.mem_range.2 hi,hg⟩))
def stO (a:Option Addr) (len:Nat) (ss:Nat→StepD):Asr:=⟨stF a len ss,false,StR a len ss,fun u hd h=>⟨(rdO stepE a len ss).up u (fun g hg=>hd g (List.mem_append.2 (.inl hg))) h.r,fun i hi=>bv_up u (h.d i hi) (fun g hg=>hd g (stF_at hi g hg))⟩,fun h g hg=>by
 rcases List.mem_append.1 hg with hg | hg
 ·exact (rdO stepE a len ss).lt h.r g hg
 ·obtain ⟨i,hi,hg⟩:=List.mem_flatMap.1 hg
  exact bv_lt (h.d i (List.mem_range.1 hi)) g hg⟩
section
variable {H:Type} {enc:TypeId×Value→H} {w:World} {base:Nat} {spare:Nat→Bool} {held:Bool}
theorem steps_open {fuel:Nat} {a:Option Addr} {len cap:Nat} {x:DataW H×List MemPlace} (h:DataW.trod enc Tryd.prog w base spare held fuel 22 [.slice a len cap]=some x) (hU:∀ u∈x.1.weights Tryd.prog 22,u≤140737488351232):∃ ss,StR a len ss w∧(∀ i,i < len→StepW (ss i))∧len≤9223372036854775807:=by
 have ce:Tryd.prog.cellsOf 40=4:=by kernel_rfl
 rcases Go.Deep.open_slice Tryd.underlying22 h with ⟨hcs,_⟩ | ⟨a',len',cap',m,n,D,Pl,hcs,hb,hlc,hcm,hm,hxe,hx⟩
 ·simp at hcs
  obtain ⟨rfl,rfl,rfl⟩:=hcs
  exact ⟨default,⟨.inl rfl,fun i hi=>by omega⟩,fun i hi=>by omega,by omega⟩
 ·simp at hcs
  obtain ⟨rfl,rfl,rfl⟩:=hcs
  have hlm:len≤m:=by rw [hm]; split <;> omega
  have hw:∀ i,i < len→∀ u∈(D i).weights Tryd.prog 40,u≤140737488351232:=fun i hi u hu=>by
   refine hU u ?_
   rw [hxe]
   simp only [DataW.weights,Tryd.underlying22]
   exact List.mem_cons_of_mem _ (List.mem_append.2 (.inl (weights_mem_all (List.mem_map.2 ⟨i,List.mem_range.2 hi,rfl⟩) u hu)))
  have each:∀ i,i < len→∃ l:StepD,(∀ j v,(stepC l)[j]?=some v→w.cell? ((a'.add (i*4)).add j)=some v)∧BV w l.A l.n l.d∧StepW l:=by
   intro i hi
   obtain ⟨cs',h1,h2⟩:=hx i (by omega)
   rw [ce] at h1
   obtain ⟨_,hlen,hcell⟩:=World.cells?_some h1
   obtain ⟨l,rfl,h3,h4⟩:=step_of h2 (hw i hi)
   refine ⟨l,fun j v hj=>?_,h3,h4⟩
   have hj9:j < 4:=by
    obtain ⟨hlt,_⟩:=List.getElem?_eq_some_iff.1 hj
    simpa [stepC] using hlt
   rw [hcell j hj9,hj]
  obtain ⟨ls,hls⟩:=Go.Deep.choose_lt each
  refine ⟨ls,⟨?_,fun i hi=>(hls i hi).2.1⟩,fun i hi=>(hls i hi).2.2,by unfold maxLen at hcm; omega⟩
  rcases Nat.eq_zero_or_pos len with h0 | h0
  ·exact .inl h0
  ·obtain ⟨b,off,idx⟩:=a'
   have c0:=(hls 0 h0).1 0 _ rfl
   cases idx with
   | none =>
    rw [Go.WideShapes.add_plain,Go.WideShapes.add_plain] at c0
    refine .inr ⟨b,off,rfl,World.block_lt_of_cell? _ _ c0,fun i hi j v hj=>?_⟩
    have:=(hls i hi).1 j v hj
    rw [Go.WideShapes.add_plain,Go.WideShapes.add_plain] at this
    exact this
   | some q =>
    exfalso
    simp [World.cell?,Addr.add] at c0
    split at c0 <;> simp at c0
end
end Gw
namespace Sw
open Go.RowKit Ba Mem En Go.Proofs.YtjghelofdfolbaaDoor.Ty Gw
open Byt (BV isB)
open Co (Hold.ob)
open Sx
open Go.Lib (itoa)
set_option maxRecDepth 100000
def lineL (k a b:Int) (zs:List Int):List UInt8:=itoa k++[32]++itoa a++[32]++itoa b++[32,120]++hexI zs++[10]
def spD (s:StepD):SP:=⟨s.k,s.a,s.b,s.d.map Int.toNat⟩
theorem lineL_is (k a b:Int) (zs:List Int):lineL k a b zs=lineP ⟨k,a,b,zs.map Int.toNat⟩++[10]:=by
 unfold lineL lineP hexI; simp
theorem ito_len {n:Int} (h:n64 n):(itoa n).length≤21:=by unfold n64 at h; have:=Lib.itoa_length_le n h.1 h.2; omega
theorem lineL_len {k a b:Int} {zs:List Int} (hk:n64 k) (ha:n64 a) (hb:n64 b):(lineL k a b zs).length≤70+2*zs.length:=by
 have h1:=ito_len hk
 have h2:=ito_len ha
 have h3:=ito_len hb
 unfold lineL
 simp only [List.length_append,List.length_cons,List.length_nil,hexI_len]
 omega
def printL (l:List StepD):List UInt8:=l.flatMap fun s=>lineL s.k s.a s.b s.d
theorem printL_is (l:List StepD):printL l=printP (l.map spD):=by
 unfold printL printP
 rw [List.flatMap_map]
 congr 1
 funext s
 exact lineL_is _ _ _ _
attribute [local irreducible] Go.Calls hexI itoa n64
set_option maxHeartbeats 4000000 in
theorem lineR {k a b:Int} {A:Option Addr} {n c:Nat} {zs:List Int} {w:World} (h:BV w A n zs) (hk:n64 k) (ha:n64 a) (hb:n64 b) (hn:n≤1000000):Calls Tryd.prog 26 #[.agg #[.int .i64 k,.int .i64 a,.int .i64 b,.slice A n c]] w fun e w'=>e=.returned (.string ⟨(lineL k a b zs).toArray⟩)∧Since w w':=by
 have h1:=ito_len hk
 have h2:=ito_len ha
 have h3:=ito_len hb
 have hl:=h.1
 have h4:(hexI zs).length≤2000000:=by rw [hexI_len]; omega
 refine entH tab_ok (hold_bv h) [.a [.i .i64 k,.i .i64 a,.i .i64 b,.v (.slice A n c)]] Tryd.func26 Tryd.ntmps26 rfl rfl ?_
 repeat' ((conv=>whnf); first | refine sgo ⟨tab_ok⟩ ?_|refine br_not ?_|refine br_t rfl ?_|refine br_f rfl ?_|refine br_t (by assumption) ?_|refine br_f (by assumption) ?_|refine br_t (decide_eq_true (by assumption)) ?_|refine br_f (decide_eq_false (by assumption)) ?_|refine br_t (beq_iff_eq.2 (by assumption)) ?_|refine br_f (beq_eq_false_iff_ne.2 (by assumption)) ?_|intro b0 | refine drA (id:=1) ⟨tab_ok⟩ [2,6,11,16] ?_|refine drA ⟨tab_ok⟩ [] ?_|refine kpt ?_|refine br_t (decide_eq_true (by omega)) ?_|refine br_f (decide_eq_false (by omega)) ?_|refine callS (f:=31) (tx (itoa k)) (fun w=>decT k hk w) ?_|refine callS (f:=31) (tx (itoa a)) (fun w=>decT a ha w) ?_|refine callS (f:=31) (tx (itoa b)) (fun w=>decT b hb w) ?_|refine callH (f:=19) (tx (hexI zs)) (fun w1 hH=>hexR (Hold.ob hH (A:=bvO A n zs) 0 rfl) hn) ?_|refine puP (pvCat (by rfl) (by rfl) (by rfl) ⟨(by first | omega | (simp only [List.length_append,List.length_cons,List.length_nil]; omega)),(by first | omega | (simp only [List.length_append,List.length_cons,List.length_nil]; omega))⟩) ?_|refine fin_s ?_|refine fin_r ?_ ?_|refine fin_e ?_ ?_)
 all_goals rfl
def stL (n:Nat) (ss:Nat→StepD):List StepD:=(List.range n).map ss
theorem stL_len (n:Nat) (ss:Nat→StepD):(stL n ss).length=n:=by simp [stL]
theorem stL_at {n i:Nat} {ss:Nat→StepD} (h:i < n):(stL n ss)[i]?=some (ss i):=by simp [stL,h]
theorem print_next {l:List StepD} {i:Nat} {s:StepD} (h:l[i]?=some s):printL (l.take (i+1))=printL (l.take i)++lineL s.k s.a s.b s.d:=by
 unfold printL
 rw [List.take_add_one,h]; simp
theorem print_len (l:List StepD) (i:Nat):(printL (l.take i)).length≤(printL l).length:=by
 unfold printL
 conv=>rhs; rw [← List.take_append_drop i l]
 rw [List.flatMap_append,List.length_append]; omega
structure StB (s:StepD):Prop where
 k:n64 s.k
 a:n64 s.a
 b:n64 s.b
 n:s.n≤1000000
theorem w_64 {z:Int} (h:(Lit.int .i64 z).wf=true):n64 z:=by unfold n64; exact (Lit.wf_int_iff .i64 z).1 h
attribute [local irreducible] lineL printL
set_option maxHeartbeats 4000000 in
theorem printR {A:Option Addr} {n c:Nat} {ss:Nat→StepD} {w:World} (h:StR A n ss w) (hs:∀ i,i < n→StB (ss i)) (hn:n≤1000000) (hL:(printL (stL n ss)).length≤1000000):Calls Tryd.prog 11 #[.slice A n c] w fun e w'=>e=.returned (.string ⟨(printL (stL n ss)).toArray⟩)∧Since w w':=by
 obtain ⟨g,off,hA⟩:=Ek.rd_addr h.r
 have hl:=stL_len n ss
 refine entH tab_ok (Hold.addObj (Hold.nil _ tab [] _ w) (stO A n ss) h (by intro k; cases k) (by intro r hr; cases hr) (by intro A hA; cases hA)) [.v (.slice A n c)] Tryd.func11 Tryd.ntmps11 rfl rfl ?_
 repeat' ((conv=>whnf); first | refine sgo ⟨tab_ok⟩ ?_|refine br_not ?_|refine br_t rfl ?_|refine br_f rfl ?_|refine br_t (by assumption) ?_|refine br_f (by assumption) ?_|refine br_t (decide_eq_true (by assumption)) ?_|refine br_f (decide_eq_false (by assumption)) ?_|refine br_t (beq_iff_eq.2 (by assumption)) ?_|refine br_f (beq_eq_false_iff_ne.2 (by assumption)) ?_|refine br_t (decide_eq_true (by omega)) ?_|refine br_f (decide_eq_false (by omega)) ?_|refine fin_s ?_|refine fin_r ?_ ?_|refine fin_e ?_ ?_)
 conv=>whnf
 refine lp ⟨tab_ok⟩ (ι:={y:Nat×List UInt8 // y.1≤n∧y.2=printL ((stL n ss).take y.1)}) (fun y=>match y with | ⟨(i,x),_⟩=>⟨[(0,.v (.slice A n c)),(3,tx x),(4,.i .i64 (i:Int))],[],[stO A n ss]⟩) (fun y=>n - y.1.1) ⟨(0,[]),Nat.zero_le _,by simp [printL]⟩ (wk ?_) ?_
 ·repeat' (first | exact trivial | rfl | ((conv=>whnf); refine And.intro ?_ ?_))
 rintro ⟨⟨i,x⟩,hi,hx⟩
 have hi:i≤n:=hi
 have hx:x=printL ((stL n ss).take i):=hx
 by_cases hlt:i < n
 ·have hA:=hA (by omega)
  subst hA
  have hb:=hs i hlt
  have hnx:=print_next (stL_at (ss:=ss) hlt)
  rw [← hx] at hnx
  have h1:=print_len (stL n ss) i
  have h2:=print_len (stL n ss) (i+1)
  rw [← hx] at h1
  rw [hnx,List.length_append] at h2
  repeat' ((conv=>whnf); first | refine sgo ⟨tab_ok⟩ ?_|refine br_not ?_|refine br_t rfl ?_|refine br_f rfl ?_|refine br_t (by assumption) ?_|refine br_f (by assumption) ?_|refine br_t (decide_eq_true (by assumption)) ?_|refine br_f (decide_eq_false (by assumption)) ?_|refine br_t (beq_iff_eq.2 (by assumption)) ?_|refine br_f (beq_eq_false_iff_ne.2 (by assumption)) ?_|refine drA ⟨tab_ok⟩ [] ?_|refine kpt ?_|refine br_t (decide_eq_true (by omega)) ?_|refine br_f (decide_eq_false (by omega)) ?_|refine wr_i ?_|refine opiv ⟨tab_ok⟩ (by rfl) (by rfl) (by rfl) (by rfl) (by rfl) (by rfl) ⟨by omega,by omega⟩ ?_|refine opix (g:=g) (off:=off+i*4) [.i .i64 (ss i).k,.i .i64 (ss i).a,.i .i64 (ss i).b,.v (.slice (ss i).A (ss i).n (ss i).c)] (fun w1 hH=>Ek.rd_rng (Hold.ob hH (A:=stO (some ⟨g,off,none⟩) n ss) 0 rfl).r hlt) ⟨tab_ok⟩ (by rfl) (by rfl) (by first | (simp only [Go.WideShapes.add_plain]; done)|(simp only [Go.WideShapes.add_plain]; rfl)|(simp [Go.WideShapes.add_plain]; done)) ?_|refine callH (f:=26) (tx (lineL (ss i).k (ss i).a (ss i).b (ss i).d)) (fun w1 hH=>lineR ((Hold.ob hH (A:=stO (some ⟨g,off,none⟩) n ss) 0 rfl).d i hlt) hb.k hb.a hb.b hb.n) ?_|refine opP (pvCat (by rfl) (by rfl) (by rfl) ⟨by omega,by omega⟩) ?_|refine En.back ⟨(i+1,x++lineL (ss i).k (ss i).a (ss i).b (ss i).d),by show i+1≤n; omega,hnx.symm⟩ (wk ?_) ?_|refine fin_s ?_|refine fin_r ?_ ?_|refine fin_e ?_ ?_)
  all_goals first | (show n - (i+1) < n - i; omega)|skip
  all_goals (repeat' (first | exact trivial | rfl | ((conv=>whnf); refine And.intro ?_ ?_)))
 ·have e0:i=n:=by omega
  subst e0
  have e1:x=printL (stL i ss):=by
   rw [hx]
   have:=List.take_length (l:=stL i ss)
   rw [hl] at this
   rw [this]
  repeat' ((conv=>whnf); first | refine sgo ⟨tab_ok⟩ ?_|refine br_not ?_|refine br_t rfl ?_|refine br_f rfl ?_|refine br_t (by assumption) ?_|refine br_f (by assumption) ?_|refine br_t (decide_eq_true (by assumption)) ?_|refine br_f (decide_eq_false (by assumption)) ?_|refine br_t (beq_iff_eq.2 (by assumption)) ?_|refine br_f (beq_eq_false_iff_ne.2 (by assumption)) ?_|refine drA ⟨tab_ok⟩ [] ?_|refine kpt ?_|refine br_t (decide_eq_true (by omega)) ?_|refine br_f (decide_eq_false (by omega)) ?_|refine fin_s ?_|refine fin_r ?_ ?_|refine fin_e ?_ ?_)
  all_goals (rw [e1]; rfl)
end Sw
namespace En
open Go.RowKit Ba Mem
section
variable {X:Cx} {s:St}
theorem rowX {f:FuncId} {vs:List SV} {K:SV→St→Prop} (j:Nat) {r:Row} (C:Asr) (hr:s.m[j]?=some r) (hl:(r.live && r.rw)=true) (hF:C.F=[r.g]) (hC:∀ w,Blk w r.g r.t (rowA s.m r)→C.st w) (hv:denL (s.m.set j { r with live:=false }) vs=denL s.m vs)
  (h:setR j (fun r K=>K { r with live:=false }) s.m fun m=>appO s.ob C fun ob=>CallVC X f vs ⟨s.fr,m,ob⟩ K):CallVC X f vs s K:=by
 simp only [Bool.and_eq_true] at hl
 obtain ⟨r',hr',hs⟩:=setR_of h
 rw [hr] at hr'; cases hr'
 have hs:=appO_of hs
 refine ⟨hs.out.1,fun w hH=>?_⟩
 have hH2:=Hold.toObj hH (C:=C) hr hl.1 hl.2 hF (hC w (hH.row j r hr hl.1))
 have:=hs.out.2 w hH2
 rw [show denL (s.m.set j { r with live:=false }) vs=denL s.m vs from hv] at this
 refine this.mono ?_
 rintro e w' ⟨v,m',ob',h1,h2,h3,h4,h5⟩
 exact ⟨v,m',ob',h1,h2,(Ext.dead hr).trans h3,h4,h5⟩
theorem opixp {o:Oper} {K:St→Prop} {t:TypeId} {x:Operand} {j q:Nat} {r:Row} (cs:List SV) (hj:s.m[j]?=some r) (hr:∀ w,Hold X s.m s.ob w→w.rangeAt r.g (r.off+q) (denL s.m cs)) (hX:X.Ok) (ho:o.op=.load t x) (hx:evO x s.fr=some (.p j q)) (h:put X.n o.dst (.a cs) s K)
  (hn:(match tyO t X.tab with | some y=>y.row && Nat.beq y.size cs.length | none=>false)=true) (hv:okV s.m.length (.a cs)=true):OpVC X o s K:=by
 refine opq (.a cs) (fun a w hf hH=>?_) h hv
 cases hy:tyO t X.tab with
 | none=>simp [hy] at hn
 | some y =>
  simp only [hy,Bool.and_eq_true] at hn
  obtain ⟨d,i,T⟩:=(hX.tab _ _ hy).out
  have he:=(evO_of hf hx).2
  have hl:=run_loadVar_mid (P:=X.P) w r.g (r.off+q) t (denL s.m cs) d (hr w hH) T.un (by rw [T.row,hn.1]) (by rw [T.inf]; simp [T.size,denL_len,Nat.eq_of_beq_eq_true hn.2])
  unfold execOp
  simp only [ho,he,den,hj,Instr.loadAt,Instr.sureAddr,Sem.run_bind,Sem.run_pure,Result.andThen_ok,hl]
end
end En
namespace Sw
open Go.RowKit Ba Mem En Go.Proofs.YtjghelofdfolbaaDoor.Ty Gw
open Co (Hold.ob)
open Sx
open Go.Lib (itoa)
set_option maxRecDepth 100000
def ptE (b:Nat):Ek Nat:=⟨57,1,fun i=>[.pointer (some ⟨b,i,none⟩)],fun _=>rfl,fun a u hu=>by rw [List.mem_singleton] at hu; subst hu; rfl⟩
attribute [local irreducible] Go.Calls
set_option maxHeartbeats 4000000 in
theorem fieldsR (b:Nat) (w:World):Calls Tryd.prog 29 #[.pointer (some ⟨b,0,none⟩)] w fun e w'=>∃ g:Nat,e=.returned (.slice (some ⟨g,0,none⟩) 18 18)∧(ptE b).At w.heap.size (some ⟨g,0,none⟩) 18 18 (List.range 18) w'∧Since w w':=by
 refine ent tab_ok [.v (.pointer (some ⟨b,0,none⟩))] Tryd.func29 Tryd.ntmps29 rfl rfl ?_
 repeat' ((conv=>whnf); first | refine sgo ⟨tab_ok⟩ ?_|refine br_not ?_|refine br_t rfl ?_|refine br_f rfl ?_|refine br_t (by assumption) ?_|refine br_f (by assumption) ?_|refine br_t (decide_eq_true (by assumption)) ?_|refine br_f (decide_eq_false (by assumption)) ?_|refine br_t (beq_iff_eq.2 (by assumption)) ?_|refine br_f (beq_eq_false_iff_ne.2 (by assumption)) ?_|refine drA (id:=1) ⟨tab_ok⟩ [54] ?_|refine drA ⟨tab_ok⟩ [] ?_|refine kpt ?_|refine br_t (decide_eq_true (by omega)) ?_|refine br_f (decide_eq_false (by omega)) ?_|refine punv (by rfl) (by rfl) ?_|refine pufv ⟨tab_ok⟩ (by rfl) (by rfl) (by rfl) (by rfl) ?_|refine opbo ⟨tab_ok⟩ (ptE b) (List.range 18) [.tmp 5,.tmp 8,.tmp 11,.tmp 14,.tmp 17,.tmp 20,.tmp 23,.tmp 26,.tmp 29,.tmp 32,.tmp 35,.tmp 38,.tmp 41,.tmp 44,.tmp 47,.tmp 50,.tmp 53,.tmp 56] [.v (.pointer (some ⟨b,0,none⟩)),.v (.pointer (some ⟨b,1,none⟩)),.v (.pointer (some ⟨b,2,none⟩)),.v (.pointer (some ⟨b,3,none⟩)),.v (.pointer (some ⟨b,4,none⟩)),.v (.pointer (some ⟨b,5,none⟩)),.v (.pointer (some ⟨b,6,none⟩)),.v (.pointer (some ⟨b,7,none⟩)),.v (.pointer (some ⟨b,8,none⟩)),.v (.pointer (some ⟨b,9,none⟩)),.v (.pointer (some ⟨b,10,none⟩)),.v (.pointer (some ⟨b,11,none⟩)),.v (.pointer (some ⟨b,12,none⟩)),.v (.pointer (some ⟨b,13,none⟩)),.v (.pointer (some ⟨b,14,none⟩)),.v (.pointer (some ⟨b,15,none⟩)),.v (.pointer (some ⟨b,16,none⟩)),.v (.pointer (some ⟨b,17,none⟩))] (by rfl) (by rfl) (by rfl) (by rfl) rfl (fun g=>?_)|refine fin fun w' hH=>⟨g,rfl,Hold.ob hH (A:=rwO (ptE b) w.heap.size (some ⟨g,0,none⟩) 18 18 (List.range 18) true) 0 rfl,hH.upd.since⟩|refine fin_s ?_|refine fin_r ?_ ?_|refine fin_e ?_ ?_)
def cfgI (c:CfgV):List Int:=[c.ca,c.fl,c.ft,c.se,c.dr,c.dw,c.ho,c.re,c.yi,c.qu,c.qo,c.lo,c.sl,c.rt,c.cp,c.tr,c.de,c.wi]
def intsV (l:List Int):List Value:=l.map fun z=>.int .i64 z
theorem pl_rng {lo b i:Nat} {T:TypeId} {vs:List PW} {rest:List Value} {v:Value} {w:World} (h:PlAt lo b T vs rest w) (hv:(vs.map PW.v++rest)[i]?=some v):w.rangeAt b i [v]:=fun j u hj=>by
 cases j with
 | zero =>
  simp at hj
  subst hj
  have:=Blk.cell h.1 (i:=i)
  rw [Nat.add_zero,this]
  unfold plA
  simpa using hv
 | succ j=>simp at hj
theorem nums_len {l:List Int} (h:∀ n∈l,n64 n):(numsL l).length≤23*l.length:=by
 induction l with
 | nil=>exact Nat.zero_le _
 | cons a r ih =>
  have h1:=ito_len (h a (List.mem_cons_self ..))
  have h2:=ih (fun n hn=>h n (List.mem_cons_of_mem _ hn))
  cases r with
  | nil=>show (itoa a).length≤_; simp; omega
  | cons b r =>
   show (itoa a++32::numsL (b::r)).length≤_
   rw [List.length_append,List.length_cons,List.length_cons]
   omega
theorem nums_next {l:List Int} {i:Nat} {n:Int} (h:l[i]?=some n):numsL (l.take (i+1))=(if i=0 then [] else numsL (l.take i)++[32])++itoa n:=by
 have hl:i < l.length:=(List.getElem?_eq_some_iff.1 h).1
 rw [List.take_add_one,h]
 show numsL (l.take i++[n])=_
 rw [numsL_add]
 congr 1
 by_cases h0:i=0
 ·subst h0; simp
 ·have hne:l.take i≠[]:=fun e=>by
   have h2:(l.take i).length=0:=by rw [e]; rfl
   rw [List.length_take] at h2
   omega
  rw [if_neg h0,if_neg hne]
attribute [local irreducible] itoa numsL n64
set_option maxHeartbeats 8000000 in
theorem settingR (c:CfgV) (hc:∀ n∈cfgI c,n64 n) (w:World):Calls Tryd.prog 17 #[.agg #[.int .i64 c.ca,.int .i64 c.fl,.int .i64 c.ft,.int .i64 c.se,.int .i64 c.dr,.int .i64 c.dw,.int .i64 c.ho,.int .i64 c.re,.int .i64 c.yi,.int .i64 c.qu,.int .i64 c.qo,.int .i64 c.lo,.int .i64 c.sl,.int .i64 c.rt,.int .i64 c.cp,.int .i64 c.tr,.int .i64 c.de,.int .i64 c.wi]] w fun e w'=>e=.returned (.string ⟨(setL (cfgI c)).toArray⟩)∧Since w w':=by
 have hl18:(cfgI c).length=18:=rfl
 refine ent tab_ok [.a [.i .i64 c.ca,.i .i64 c.fl,.i .i64 c.ft,.i .i64 c.se,.i .i64 c.dr,.i .i64 c.dw,.i .i64 c.ho,.i .i64 c.re,.i .i64 c.yi,.i .i64 c.qu,.i .i64 c.qo,.i .i64 c.lo,.i .i64 c.sl,.i .i64 c.rt,.i .i64 c.cp,.i .i64 c.tr,.i .i64 c.de,.i .i64 c.wi]] Tryd.func17 Tryd.ntmps17 rfl rfl ?_
 repeat' ((conv=>whnf); first | refine sgo ⟨tab_ok⟩ ?_|refine br_not ?_|refine br_t rfl ?_|refine br_f rfl ?_|refine br_t (by assumption) ?_|refine br_f (by assumption) ?_|refine br_t (decide_eq_true (by assumption)) ?_|refine br_f (decide_eq_false (by assumption)) ?_|refine br_t (beq_iff_eq.2 (by assumption)) ?_|refine br_f (beq_eq_false_iff_ne.2 (by assumption)) ?_|refine drA ⟨tab_ok⟩ [] ?_|refine kpt ?_|refine br_t (decide_eq_true (by omega)) ?_|refine br_f (decide_eq_false (by omega)) ?_|refine fin_s ?_|refine fin_r ?_ ?_|refine fin_e ?_ ?_)
 conv=>whnf
 intro b0
 repeat' ((conv=>whnf); first | refine sgo ⟨tab_ok⟩ ?_|refine br_not ?_|refine br_t rfl ?_|refine br_f rfl ?_|refine br_t (by assumption) ?_|refine br_f (by assumption) ?_|refine br_t (decide_eq_true (by assumption)) ?_|refine br_f (decide_eq_false (by assumption)) ?_|refine br_t (beq_iff_eq.2 (by assumption)) ?_|refine br_f (beq_eq_false_iff_ne.2 (by assumption)) ?_|refine drA ⟨tab_ok⟩ [] ?_|refine kpt ?_|refine br_t (decide_eq_true (by omega)) ?_|refine br_f (decide_eq_false (by omega)) ?_|refine rowX (f:=29) 0 (plO w.heap.size b0 32 [] (intsV (cfgI c))) (by rfl) (by rfl) (by rfl) (fun w h=>⟨h,by intro x hx; cases hx⟩) (by rfl) ?_|refine callN (f:=29) (ι:=Nat) (fun g=>.v (.slice (some ⟨g,0,none⟩) 18 18)) (fun g=>rwO (ptE b0) w.heap.size (some ⟨g,0,none⟩) 18 18 (List.range 18) true) (fun w1 hH=>(fieldsR b0 w1).mono (by rintro e w' ⟨g,rfl,h1,h2⟩; exact ⟨g,rfl,Ek.base h1 hH.upd.size,h2,Ek.lows h1⟩)) (fun g=>?_)|refine fin_s ?_|refine fin_r ?_ ?_|refine fin_e ?_ ?_)
 conv=>whnf
 refine lp ⟨tab_ok⟩ (ι:={y:Nat×List UInt8 // y.1≤18∧y.2=numsL ((cfgI c).take y.1)}) (fun y=>match y with | ⟨(i,x),_⟩=>⟨[(3,tx x),(4,.v (.slice (some ⟨g,0,none⟩) 18 18)),(5,.i .i64 (i:Int))],[],[plO w.heap.size b0 32 [] (intsV (cfgI c)),rwO (ptE b0) w.heap.size (some ⟨g,0,none⟩) 18 18 (List.range 18) true]⟩) (fun y=>18 - y.1.1) ⟨(0,[]),Nat.zero_le _,by unfold numsL; rfl⟩ (wkd ?_) ?_
 ·repeat' (first | exact trivial | rfl | ((conv=>whnf); refine And.intro ?_ ?_))
 rintro ⟨⟨i,x⟩,hi0,hx0⟩
 have hi:i≤18:=hi0
 have hx:x=numsL ((cfgI c).take i):=hx0
 have hxl:x.length≤414:=by
  have:=nums_len (l:=(cfgI c).take i) (fun n hn=>hc n (List.mem_of_mem_take hn))
  rw [← hx,List.length_take] at this
  omega
 by_cases hlt:i < 18
 ·obtain ⟨n,hn⟩:∃ n,(cfgI c)[i]?=some n:=⟨_,List.getElem?_eq_getElem (by omega)⟩
  have hn64:=hc n (List.mem_of_getElem? hn)
  have hnl:=ito_len hn64
  have hnx:=nums_next hn
  have hri:(List.range 18)[i]?=some i:=List.getElem?_range hlt
  have hvi:(([]:List PW).map PW.v++intsV (cfgI c))[i]?=some (.int .i64 n):=by
   show (intsV (cfgI c))[i]?=_
   unfold intsV
   rw [List.getElem?_map,hn]; rfl
  by_cases h0:i=0
  ·rw [if_pos h0] at hnx
   have hx0:x=[]:=by rw [hx,h0]; unfold numsL; rfl
   subst hx0
   repeat' ((conv=>whnf); first | refine sgo ⟨tab_ok⟩ ?_|refine br_not ?_|refine br_t rfl ?_|refine br_f rfl ?_|refine br_t (by assumption) ?_|refine br_f (by assumption) ?_|refine br_t (decide_eq_true (by assumption)) ?_|refine br_f (decide_eq_false (by assumption)) ?_|refine br_t (beq_iff_eq.2 (by assumption)) ?_|refine br_f (beq_eq_false_iff_ne.2 (by assumption)) ?_|refine drA ⟨tab_ok⟩ [] ?_|refine kpt ?_|refine br_t (decide_eq_true (by omega)) ?_|refine br_f (decide_eq_false (by omega)) ?_|refine wr_i ?_|refine opiv ⟨tab_ok⟩ (by rfl) (by rfl) (by rfl) (by rfl) (by rfl) (by rfl) ⟨by omega,by omega⟩ ?_|refine opxc (g:=g) (off:=0+i*1) (.v (.pointer (some ⟨b0,i,none⟩))) (fun w1 hH=>Ek.rng (Hold.ob hH (A:=rwO (ptE b0) w.heap.size (some ⟨g,0,none⟩) 18 18 (List.range 18) true) 1 rfl) hri) ⟨tab_ok⟩ (by rfl) (by rfl) (by first | (simp only [Go.WideShapes.add_plain]; done)|(simp only [Go.WideShapes.add_plain]; rfl)) ?_|refine opnv (by rfl) (by rfl) ?_|refine opxc (g:=b0) (off:=i) (.i .i64 n) (fun w1 hH=>pl_rng (Hold.ob hH (A:=plO w.heap.size b0 32 [] (intsV (cfgI c))) 0 rfl) hvi) ⟨tab_ok⟩ (by rfl) (by rfl) (by rfl) ?_|refine callS (f:=31) (tx (itoa n)) (fun w=>decT n hn64 w) ?_|refine opP (pvCat (by rfl) (by rfl) (by rfl) ⟨by omega,by omega⟩) ?_|refine En.back ⟨(i+1,[]++itoa n),by show i+1≤18; omega,hnx.symm⟩ (wkd ?_) ?_|refine fin_s ?_|refine fin_r ?_ ?_|refine fin_e ?_ ?_)
   all_goals first | (show 18 - (i+1) < 18 - i; omega)|skip
   all_goals (repeat' (first | exact trivial | rfl | ((conv=>whnf); refine And.intro ?_ ?_)))
  ·rw [if_neg h0,← hx] at hnx
   repeat' ((conv=>whnf); first | refine sgo ⟨tab_ok⟩ ?_|refine br_not ?_|refine br_t rfl ?_|refine br_f rfl ?_|refine br_t (by assumption) ?_|refine br_f (by assumption) ?_|refine br_t (decide_eq_true (by assumption)) ?_|refine br_f (decide_eq_false (by assumption)) ?_|refine br_t (beq_iff_eq.2 (by assumption)) ?_|refine br_f (beq_eq_false_iff_ne.2 (by assumption)) ?_|refine drA ⟨tab_ok⟩ [] ?_|refine kpt ?_|refine br_t (decide_eq_true (by omega)) ?_|refine br_f (decide_eq_false (by omega)) ?_|refine wr_i ?_|refine opiv ⟨tab_ok⟩ (by rfl) (by rfl) (by rfl) (by rfl) (by rfl) (by rfl) ⟨by omega,by omega⟩ ?_|refine opxc (g:=g) (off:=0+i*1) (.v (.pointer (some ⟨b0,i,none⟩))) (fun w1 hH=>Ek.rng (Hold.ob hH (A:=rwO (ptE b0) w.heap.size (some ⟨g,0,none⟩) 18 18 (List.range 18) true) 1 rfl) hri) ⟨tab_ok⟩ (by rfl) (by rfl) (by first | (simp only [Go.WideShapes.add_plain]; done)|(simp only [Go.WideShapes.add_plain]; rfl)) ?_|refine opnv (by rfl) (by rfl) ?_|refine opxc (g:=b0) (off:=i) (.i .i64 n) (fun w1 hH=>pl_rng (Hold.ob hH (A:=plO w.heap.size b0 32 [] (intsV (cfgI c))) 0 rfl) hvi) ⟨tab_ok⟩ (by rfl) (by rfl) (by rfl) ?_|refine callS (f:=31) (tx (itoa n)) (fun w=>decT n hn64 w) ?_|refine opP (pvCat (xs:=x) (ys:=[32]) (by rfl) (by rfl) (by rfl) ⟨by omega,by show 0+1≤8388608; omega⟩) ?_|refine opP (pvCat (xs:=x++[32]) (ys:=itoa n) (by rfl) (by rfl) (by rfl) ⟨by rw [List.length_append]; show _+(0+1)≤8388608; omega,by omega⟩) ?_|refine En.back ⟨(i+1,x++[32]++itoa n),by show i+1≤18; omega,hnx.symm⟩ (wkd ?_) ?_|refine fin_s ?_|refine fin_r ?_ ?_|refine fin_e ?_ ?_)
   all_goals first | (show 18 - (i+1) < 18 - i; omega)|skip
   all_goals (repeat' (first | exact trivial | rfl | ((conv=>whnf); refine And.intro ?_ ?_)))
 ·have e0:i=18:=by omega
  have e1:x=numsL (cfgI c):=by rw [hx,e0]; rfl
  repeat' ((conv=>whnf); first | refine sgo ⟨tab_ok⟩ ?_|refine br_not ?_|refine br_t rfl ?_|refine br_f rfl ?_|refine br_t (by assumption) ?_|refine br_f (by assumption) ?_|refine br_t (decide_eq_true (by assumption)) ?_|refine br_f (decide_eq_false (by assumption)) ?_|refine br_t (beq_iff_eq.2 (by assumption)) ?_|refine br_f (beq_eq_false_iff_ne.2 (by assumption)) ?_|refine drA ⟨tab_ok⟩ [] ?_|refine kpt ?_|refine br_t (decide_eq_true (by omega)) ?_|refine br_f (decide_eq_false (by omega)) ?_|refine wr_i ?_|refine opP (pvCat (xs:=x) (ys:=[10]) (by rfl) (by rfl) (by rfl) ⟨by omega,by show 0+1≤8388608; omega⟩) ?_|refine fin_s ?_|refine fin_r ?_ ?_|refine fin_e ?_ ?_)
  all_goals (rw [e1]; rfl)
end Sw
namespace En
open Go.RowKit Ba Mem
theorem opia {X:Cx} {s:St} {o:Oper} {K:St→Prop} {t e:TypeId} {x ix:Operand} {j q n:Nat} {k:IntKind} {I:Int} (i:Nat) {r:Row} (ho:o.op=.indexAddr t x ix) (hx:evO x s.fr=some (.p j q)) (hi:evO ix s.fr=some (.i k I)) (hI:I=(i:Int)∧i < n) (hr:s.m[j]?=some r) (ht:X.P.underlying t=some (.array n e)) (hs:(X.P.info? e).map (·.size)=some 1)
  (h:put X.n o.dst (.p j (q+i)) s K):OpVC X o s K :=
 opq (.p j (q+i)) (fun a w hf _=>by
  obtain ⟨rfl,hlt⟩:=hI
  obtain ⟨inf,hinf,hsz⟩:=Option.map_eq_some_iff.1 hs
  have h2:=(evO_of hf hx).2
  have k2:=(evO_of hf hi).2
  have hz:(sizeOf e).run X.P=fun w=>.ok 1 w:=by funext w; simp [sizeOf,typeInfo,hinf,hsz]
  have hb:(0:Int)≤(i:Int)∧(i:Int) < (n:Int):=by omega
  unfold execOp
  simp only [ho,h2,k2,den,hr,Instr.indexAt,asIntOf,Instr.sureAddr,Sem.run_bind,Sem.run_pure,Result.andThen_ok,run_underlying ht,hz,if_pos hb,Option.map_some]
  simp [Go.WideShapes.add_plain,Nat.add_assoc]) h (by simp [okV,Nat.blt_eq,(List.getElem?_eq_some_iff.1 hr).1])
end En
namespace Sw
open Go.RowKit Ba Mem En Go.Proofs.YtjghelofdfolbaaDoor.Ty Gw
open Co (Hold.ob)
open Sx
set_option maxRecDepth 100000
def sD (y:Option SP):SP:=match y with
 | some x=>x
 | none=>⟨0,0,0,[]⟩
def rlP (w:World) (y:Option SP) (e:Ending) (w':World):Prop:=∃ z:Option Addr×Nat,e=.returned (.tuple #[.agg #[.int .i64 (sD y).k,.int .i64 (sD y).a,.int .i64 (sD y).b,.slice z.1 (zsN (sD y).d).length z.2],.bool y.isSome])∧byteE.At w.heap.size z.1 (zsN (sD y).d).length z.2 (zsN (sD y).d) w'∧Since w w'
attribute [local irreducible] Go.Calls numR datV spl
theorem rl_no {w w':World} {e:Ending} {y:Option SP} (hy:y=none) (he:e=.returned (.tuple #[.agg #[.int .i64 0,.int .i64 0,.int .i64 0,.slice none 0 0],.bool false])) (hs:Since w w'):rlP w y e w':=by
 subst hy
 exact ⟨(none,0),by rw [he]; show _=Ending.returned (.tuple #[.agg #[_,_,_,.slice none (zsN []).length 0],_]); rw [zsN_0]; rfl,by show byteE.At _ none (zsN []).length 0 (zsN []) w'; rw [zsN_0]; exact Ek.nil _ _ _,hs⟩
theorem cutR4 {s p q r t:List UInt8} (hs:s.length≤900000) (h:spl s=[p,q,r,t]) (w:World):Calls Tryd.prog 28 #[.string ⟨s.toArray⟩] w fun e w'=>∃ y:Nat×Nat,e=.returned (.slice (some ⟨y.1,0,none⟩) 4 y.2)∧strE.At w.heap.size (some ⟨y.1,0,none⟩) 4 y.2 [p,q,r,t] w'∧Since w w':=by
 refine (cutR s hs w).mono ?_
 rintro e w' ⟨⟨A,c⟩,rfl,h1,h2⟩
 rw [h] at h1 ⊢
 have h1:strE.At w.heap.size A 4 c [p,q,r,t] w':=h1
 rcases own_at h1 with ⟨_,h0,_⟩ | ⟨g,_,rfl,_⟩
 ·exact absurd h0 (by decide)
 ·exact ⟨(g,c),rfl,h1,h2⟩
theorem numberS {s:List UInt8} {n:Int} (hl:s.length≤1000000) (h:numR s=some n) (w:World):Calls Tryd.prog 30 #[.string ⟨s.toArray⟩] w fun e w'=>e=.returned (.tuple #[.int .i64 n,.bool true])∧Since w w':=by
 have:=numberR s hl w
 rw [h] at this; exact this
theorem numberN {s:List UInt8} (hl:s.length≤1000000) (h:numR s=none) (w:World):Calls Tryd.prog 30 #[.string ⟨s.toArray⟩] w fun e w'=>e=.returned (.tuple #[.int .i64 0,.bool false])∧Since w w':=by
 have:=numberR s hl w
 rw [h] at this; exact this
theorem line_no4 {s:List UInt8} (h:(spl s).length≠4):lineV s=none:=by
 unfold lineV
 match spl s,h with
 | [],_=>rfl
 | [_],_=>rfl
 | [_,_],_=>rfl
 | [_,_,_],_=>rfl
 | [_,_,_,_],h=>exact absurd rfl h
 | _::_::_::_::_::_,_=>rfl
theorem line_4 {s p q r t:List UInt8} (h:spl s=[p,q,r,t]):lineV s=match numR p,numR q,numR r,datV t with
  | some k,some a,some b,some d=>some ⟨k,a,b,d⟩
  | _,_,_,_=>none:=by
 unfold lineV
 rw [h,lineW_4,num_same,num_same,num_same]
 cases numR p <;> cases numR q <;> cases numR r <;> cases datV t <;> rfl
theorem at4 {s:List UInt8} (h:(spl s).length=4):∃ p q r t,spl s=[p,q,r,t]:=by
 match spl s,h with
 | [p,q,r,t],_=>exact ⟨p,q,r,t,rfl⟩
theorem spl_0:spl []=[[]]:=by unfold spl; rfl
theorem word_len:∀ {s w:List UInt8},w∈spl s→w.length≤s.length
 | [],w,h=>by
  rw [spl_0,List.mem_singleton] at h
  rw [h]; exact Nat.le_refl _
 | c::r,w,h=>by
  rw [spl_c] at h
  split at h
  ·rcases List.mem_cons.1 h with rfl | h
   ·exact Nat.zero_le _
   ·have:=word_len h; rw [List.length_cons]; omega
  ·split at h
   ·rw [List.mem_singleton.1 h]; simp
   ·rename_i v vs e
    rcases List.mem_cons.1 h with rfl | h
    ·have:=word_len (s:=r) (w:=v) (by rw [e]; exact List.mem_cons_self ..)
     rw [List.length_cons,List.length_cons]; omega
    ·have:=word_len (s:=r) (w:=w) (by rw [e]; exact List.mem_cons_of_mem _ h)
     rw [List.length_cons]; omega
structure NI (p q r:List UInt8) (i:Nat) (a b c:Int):Prop where
 le:i≤3
 a1:0 < i→numR p=some a
 a0:i≤0→a=0
 b1:1 < i→numR q=some b
 b0:i≤1→b=0
 c1:2 < i→numR r=some c
 c0:i≤2→c=0
theorem NI.z (p q r:List UInt8):NI p q r 0 0 0 0:=⟨by decide,fun h=>by omega,fun _=>rfl,fun h=>by omega,fun _=>rfl,fun h=>by omega,fun _=>rfl⟩
theorem NI.s0 {p q r:List UInt8} {a b c m:Int} (h:NI p q r 0 a b c) (hm:numR p=some m):NI p q r 1 m b c:=⟨by decide,fun _=>hm,fun h=>by omega,fun h=>by omega,fun _=>h.b0 (by decide),fun h=>by omega,fun _=>h.c0 (by decide)⟩
theorem NI.s1 {p q r:List UInt8} {a b c m:Int} (h:NI p q r 1 a b c) (hm:numR q=some m):NI p q r 2 a m c:=⟨by decide,fun _=>h.a1 (by decide),fun h=>by omega,fun _=>hm,fun h=>by omega,fun h=>by omega,fun _=>h.c0 (by decide)⟩
theorem NI.s2 {p q r:List UInt8} {a b c m:Int} (h:NI p q r 2 a b c) (hm:numR r=some m):NI p q r 3 a b m:=⟨by decide,fun _=>h.a1 (by decide),fun h=>by omega,fun _=>h.b1 (by decide),fun h=>by omega,fun _=>hm,fun h=>by omega⟩
theorem rl_yes {w w':World} {e:Ending} {y:Option SP} {x:SP} {A:Option Addr} {c:Nat} (hy:y=some x) (h:(rwO byteE w.heap.size A (zsN x.d).length c (zsN x.d) true).st w') (he:e=.returned (.tuple #[.agg #[.int .i64 x.k,.int .i64 x.a,.int .i64 x.b,.slice A (zsN x.d).length c],.bool true])) (hs:Since w w'):rlP w y e w':=by
 subst hy
 exact ⟨(A,c),he,h,hs⟩
set_option maxHeartbeats 8000000 in
theorem rlR (s:List UInt8) (hs:s.length≤900000) (w:World):Calls Tryd.prog 20 #[.string ⟨s.toArray⟩] w (rlP w (lineV s)):=by
 by_cases h4:(spl s).length=4
 ·obtain ⟨p,q,r,t,hw⟩:=at4 h4
  have hl4:=line_4 hw
  have hp:=word_len (s:=s) (w:=p) (by rw [hw]; simp)
  have hq:=word_len (s:=s) (w:=q) (by rw [hw]; simp)
  have hr:=word_len (s:=s) (w:=r) (by rw [hw]; simp)
  have ht:=word_len (s:=s) (w:=t) (by rw [hw]; simp)
  have hcut:=cutR4 hs hw
  refine ent tab_ok [tx s] Tryd.func20 Tryd.ntmps20 rfl rfl ?_
  repeat' ((conv=>whnf); first | refine sgo ⟨tab_ok⟩ ?_|refine br_not ?_|refine br_t rfl ?_|refine br_f rfl ?_|refine br_t (by assumption) ?_|refine br_f (by assumption) ?_|refine br_t (decide_eq_true (by assumption)) ?_|refine br_f (decide_eq_false (by assumption)) ?_|refine br_t (beq_iff_eq.2 (by assumption)) ?_|refine br_f (beq_eq_false_iff_ne.2 (by assumption)) ?_|refine drA ⟨tab_ok⟩ [] ?_|refine kpt ?_|refine br_t (decide_eq_true (by omega)) ?_|refine br_f (decide_eq_false (by omega)) ?_|refine fin_s ?_|refine fin_r ?_ ?_|refine fin_e ?_ ?_)
  conv=>whnf
  intro b0
  repeat' ((conv=>whnf); first | refine sgo ⟨tab_ok⟩ ?_|refine br_not ?_|refine br_t rfl ?_|refine br_f rfl ?_|refine br_t (by assumption) ?_|refine br_f (by assumption) ?_|refine br_t (decide_eq_true (by assumption)) ?_|refine br_f (decide_eq_false (by assumption)) ?_|refine br_t (beq_iff_eq.2 (by assumption)) ?_|refine br_f (beq_eq_false_iff_ne.2 (by assumption)) ?_|refine drA ⟨tab_ok⟩ [] ?_|refine kpt ?_|refine br_t (decide_eq_true (by omega)) ?_|refine br_f (decide_eq_false (by omega)) ?_|refine callN (f:=28) (ι:=Nat×Nat) (fun y=>.v (.slice (some ⟨y.1,0,none⟩) 4 y.2)) (fun y=>rwO strE w.heap.size (some ⟨y.1,0,none⟩) 4 y.2 [p,q,r,t] true) (fun w1 hH=>(hcut w1).mono (by rintro e w' ⟨y,rfl,h1,h2⟩; exact ⟨y,rfl,Ek.base h1 hH.upd.size,h2,Ek.lows h1⟩)) (fun y=>?_)|refine fin_s ?_|refine fin_r ?_ ?_|refine fin_e ?_ ?_)
  conv=>whnf
  intro b1
  repeat' ((conv=>whnf); first | refine sgo ⟨tab_ok⟩ ?_|refine br_not ?_|refine br_t rfl ?_|refine br_f rfl ?_|refine br_t (by assumption) ?_|refine br_f (by assumption) ?_|refine br_t (decide_eq_true (by assumption)) ?_|refine br_f (decide_eq_false (by assumption)) ?_|refine br_t (beq_iff_eq.2 (by assumption)) ?_|refine br_f (beq_eq_false_iff_ne.2 (by assumption)) ?_|refine drA ⟨tab_ok⟩ [] ?_|refine kpt ?_|refine br_t (decide_eq_true (by omega)) ?_|refine br_f (decide_eq_false (by omega)) ?_|refine fin_s ?_|refine fin_r ?_ ?_|refine fin_e ?_ ?_)
  conv=>whnf
  refine lp ⟨tab_ok⟩ (ι:={v:Nat×Int×Int×Int // NI p q r v.1 v.2.1 v.2.2.1 v.2.2.2}) (fun v=>match v with | ⟨(i,a,b,c),_⟩=>⟨[(0,tx s),(2,.p 0 0),(3,.b false),(4,.v (.slice (some ⟨y.1,0,none⟩) 4 y.2)),(5,.p 1 0),(6,.i .i64 (i:Int))],[⟨b0,40,true,0,[],[.i .i64 0,.i .i64 0,.i .i64 0,.v (.slice none 0 0)],[],true⟩,⟨b1,72,true,0,[],[.i .i64 a,.i .i64 b,.i .i64 c],[],true⟩],[rwO strE w.heap.size (some ⟨y.1,0,none⟩) 4 y.2 [p,q,r,t] true]⟩) (fun v=>3 - v.1.1) ⟨(0,0,0,0),NI.z p q r⟩ (wk ?_) ?_
  ·repeat' (first | exact trivial | rfl | ((conv=>whnf); refine And.intro ?_ ?_))
  rintro ⟨⟨i,a,b,c⟩,hI⟩
  have hI:NI p q r i a b c:=hI
  have hi:=hI.le
  rcases (by omega:i=0∨i=1∨i=2∨i=3) with rfl | rfl | rfl | rfl
  ·rcases hm:numR p with _|m
   ·have hno:lineV s=none:=by rw [hl4]; rw [hm]
    repeat' ((conv=>whnf); first | refine sgo ⟨tab_ok⟩ ?_|refine br_not ?_|refine br_t rfl ?_|refine br_f rfl ?_|refine br_t (by assumption) ?_|refine br_f (by assumption) ?_|refine br_t (decide_eq_true (by assumption)) ?_|refine br_f (decide_eq_false (by assumption)) ?_|refine br_t (beq_iff_eq.2 (by assumption)) ?_|refine br_f (beq_eq_false_iff_ne.2 (by assumption)) ?_|refine drA ⟨tab_ok⟩ [] ?_|refine kpt ?_|refine br_t (decide_eq_true (by omega)) ?_|refine br_f (decide_eq_false (by omega)) ?_|refine wr_i ?_|refine opiv ⟨tab_ok⟩ (by rfl) (by rfl) (by rfl) (by rfl) (by rfl) (by rfl) ⟨by decide,by decide⟩ ?_|refine opxc (g:=y.1) (off:=0+0*1) (tx p) (fun w1 hH=>Ek.rng (Hold.ob hH (A:=rwO strE w.heap.size (some ⟨y.1,0,none⟩) 4 y.2 [p,q,r,t] true) 0 rfl) (k:=0) rfl) ⟨tab_ok⟩ (by rfl) (by rfl) (by rfl) ?_|refine opxc (g:=y.1) (off:=0+1*1) (tx q) (fun w1 hH=>Ek.rng (Hold.ob hH (A:=rwO strE w.heap.size (some ⟨y.1,0,none⟩) 4 y.2 [p,q,r,t] true) 0 rfl) (k:=1) rfl) ⟨tab_ok⟩ (by rfl) (by rfl) (by rfl) ?_|refine opxc (g:=y.1) (off:=0+2*1) (tx r) (fun w1 hH=>Ek.rng (Hold.ob hH (A:=rwO strE w.heap.size (some ⟨y.1,0,none⟩) 4 y.2 [p,q,r,t] true) 0 rfl) (k:=2) rfl) ⟨tab_ok⟩ (by rfl) (by rfl) (by rfl) ?_|refine opxc (g:=y.1) (off:=0+3*1) (tx t) (fun w1 hH=>Ek.rng (Hold.ob hH (A:=rwO strE w.heap.size (some ⟨y.1,0,none⟩) 4 y.2 [p,q,r,t] true) 0 rfl) (k:=3) rfl) ⟨tab_ok⟩ (by rfl) (by rfl) (by rfl) ?_|refine callS (f:=30) (.t [.i .i64 0,.b false]) (fun w=>numberN (by omega) hm w) ?_|refine fin fun w' hH=>rl_no hno rfl hH.upd.since | refine fin_s ?_|refine fin_r ?_ ?_|refine fin_e ?_ ?_)
   ·repeat' ((conv=>whnf); first | refine sgo ⟨tab_ok⟩ ?_|refine br_not ?_|refine br_t rfl ?_|refine br_f rfl ?_|refine br_t (by assumption) ?_|refine br_f (by assumption) ?_|refine br_t (decide_eq_true (by assumption)) ?_|refine br_f (decide_eq_false (by assumption)) ?_|refine br_t (beq_iff_eq.2 (by assumption)) ?_|refine br_f (beq_eq_false_iff_ne.2 (by assumption)) ?_|refine drA ⟨tab_ok⟩ [] ?_|refine kpt ?_|refine br_t (decide_eq_true (by omega)) ?_|refine br_f (decide_eq_false (by omega)) ?_|refine wr_i ?_|refine opiv ⟨tab_ok⟩ (by rfl) (by rfl) (by rfl) (by rfl) (by rfl) (by rfl) ⟨by decide,by decide⟩ ?_|refine opxc (g:=y.1) (off:=0+0*1) (tx p) (fun w1 hH=>Ek.rng (Hold.ob hH (A:=rwO strE w.heap.size (some ⟨y.1,0,none⟩) 4 y.2 [p,q,r,t] true) 0 rfl) (k:=0) rfl) ⟨tab_ok⟩ (by rfl) (by rfl) (by rfl) ?_|refine opxc (g:=y.1) (off:=0+1*1) (tx q) (fun w1 hH=>Ek.rng (Hold.ob hH (A:=rwO strE w.heap.size (some ⟨y.1,0,none⟩) 4 y.2 [p,q,r,t] true) 0 rfl) (k:=1) rfl) ⟨tab_ok⟩ (by rfl) (by rfl) (by rfl) ?_|refine opxc (g:=y.1) (off:=0+2*1) (tx r) (fun w1 hH=>Ek.rng (Hold.ob hH (A:=rwO strE w.heap.size (some ⟨y.1,0,none⟩) 4 y.2 [p,q,r,t] true) 0 rfl) (k:=2) rfl) ⟨tab_ok⟩ (by rfl) (by rfl) (by rfl) ?_|refine opxc (g:=y.1) (off:=0+3*1) (tx t) (fun w1 hH=>Ek.rng (Hold.ob hH (A:=rwO strE w.heap.size (some ⟨y.1,0,none⟩) 4 y.2 [p,q,r,t] true) 0 rfl) (k:=3) rfl) ⟨tab_ok⟩ (by rfl) (by rfl) (by rfl) ?_|refine callS (f:=30) (.t [.i .i64 m,.b true]) (fun w=>numberS (by omega) hm w) ?_|refine opia 0 (by rfl) (by rfl) (by rfl) ⟨rfl,by decide⟩ (by rfl) (Tryd.underlying72) (by kernel_rfl) ?_|refine En.back ⟨(1,m,b,c),hI.s0 hm⟩ (wkd ?_) ?_|refine fin_s ?_|refine fin_r ?_ ?_|refine fin_e ?_ ?_)
    all_goals first | (show 3 - (0+1) < 3 - 0; omega)|skip
    all_goals (repeat' (first | exact trivial | rfl | ((conv=>whnf); refine And.intro ?_ ?_)))
  ·rcases hm:numR q with _|m
   ·have hno:lineV s=none:=by rw [hl4]; rw [hI.a1 (by decide),hm]
    repeat' ((conv=>whnf); first | refine sgo ⟨tab_ok⟩ ?_|refine br_not ?_|refine br_t rfl ?_|refine br_f rfl ?_|refine br_t (by assumption) ?_|refine br_f (by assumption) ?_|refine br_t (decide_eq_true (by assumption)) ?_|refine br_f (decide_eq_false (by assumption)) ?_|refine br_t (beq_iff_eq.2 (by assumption)) ?_|refine br_f (beq_eq_false_iff_ne.2 (by assumption)) ?_|refine drA ⟨tab_ok⟩ [] ?_|refine kpt ?_|refine br_t (decide_eq_true (by omega)) ?_|refine br_f (decide_eq_false (by omega)) ?_|refine wr_i ?_|refine opiv ⟨tab_ok⟩ (by rfl) (by rfl) (by rfl) (by rfl) (by rfl) (by rfl) ⟨by decide,by decide⟩ ?_|refine opxc (g:=y.1) (off:=0+0*1) (tx p) (fun w1 hH=>Ek.rng (Hold.ob hH (A:=rwO strE w.heap.size (some ⟨y.1,0,none⟩) 4 y.2 [p,q,r,t] true) 0 rfl) (k:=0) rfl) ⟨tab_ok⟩ (by rfl) (by rfl) (by rfl) ?_|refine opxc (g:=y.1) (off:=0+1*1) (tx q) (fun w1 hH=>Ek.rng (Hold.ob hH (A:=rwO strE w.heap.size (some ⟨y.1,0,none⟩) 4 y.2 [p,q,r,t] true) 0 rfl) (k:=1) rfl) ⟨tab_ok⟩ (by rfl) (by rfl) (by rfl) ?_|refine opxc (g:=y.1) (off:=0+2*1) (tx r) (fun w1 hH=>Ek.rng (Hold.ob hH (A:=rwO strE w.heap.size (some ⟨y.1,0,none⟩) 4 y.2 [p,q,r,t] true) 0 rfl) (k:=2) rfl) ⟨tab_ok⟩ (by rfl) (by rfl) (by rfl) ?_|refine opxc (g:=y.1) (off:=0+3*1) (tx t) (fun w1 hH=>Ek.rng (Hold.ob hH (A:=rwO strE w.heap.size (some ⟨y.1,0,none⟩) 4 y.2 [p,q,r,t] true) 0 rfl) (k:=3) rfl) ⟨tab_ok⟩ (by rfl) (by rfl) (by rfl) ?_|refine callS (f:=30) (.t [.i .i64 0,.b false]) (fun w=>numberN (by omega) hm w) ?_|refine fin fun w' hH=>rl_no hno rfl hH.upd.since | refine fin_s ?_|refine fin_r ?_ ?_|refine fin_e ?_ ?_)
   ·repeat' ((conv=>whnf); first | refine sgo ⟨tab_ok⟩ ?_|refine br_not ?_|refine br_t rfl ?_|refine br_f rfl ?_|refine br_t (by assumption) ?_|refine br_f (by assumption) ?_|refine br_t (decide_eq_true (by assumption)) ?_|refine br_f (decide_eq_false (by assumption)) ?_|refine br_t (beq_iff_eq.2 (by assumption)) ?_|refine br_f (beq_eq_false_iff_ne.2 (by assumption)) ?_|refine drA ⟨tab_ok⟩ [] ?_|refine kpt ?_|refine br_t (decide_eq_true (by omega)) ?_|refine br_f (decide_eq_false (by omega)) ?_|refine wr_i ?_|refine opiv ⟨tab_ok⟩ (by rfl) (by rfl) (by rfl) (by rfl) (by rfl) (by rfl) ⟨by decide,by decide⟩ ?_|refine opxc (g:=y.1) (off:=0+0*1) (tx p) (fun w1 hH=>Ek.rng (Hold.ob hH (A:=rwO strE w.heap.size (some ⟨y.1,0,none⟩) 4 y.2 [p,q,r,t] true) 0 rfl) (k:=0) rfl) ⟨tab_ok⟩ (by rfl) (by rfl) (by rfl) ?_|refine opxc (g:=y.1) (off:=0+1*1) (tx q) (fun w1 hH=>Ek.rng (Hold.ob hH (A:=rwO strE w.heap.size (some ⟨y.1,0,none⟩) 4 y.2 [p,q,r,t] true) 0 rfl) (k:=1) rfl) ⟨tab_ok⟩ (by rfl) (by rfl) (by rfl) ?_|refine opxc (g:=y.1) (off:=0+2*1) (tx r) (fun w1 hH=>Ek.rng (Hold.ob hH (A:=rwO strE w.heap.size (some ⟨y.1,0,none⟩) 4 y.2 [p,q,r,t] true) 0 rfl) (k:=2) rfl) ⟨tab_ok⟩ (by rfl) (by rfl) (by rfl) ?_|refine opxc (g:=y.1) (off:=0+3*1) (tx t) (fun w1 hH=>Ek.rng (Hold.ob hH (A:=rwO strE w.heap.size (some ⟨y.1,0,none⟩) 4 y.2 [p,q,r,t] true) 0 rfl) (k:=3) rfl) ⟨tab_ok⟩ (by rfl) (by rfl) (by rfl) ?_|refine callS (f:=30) (.t [.i .i64 m,.b true]) (fun w=>numberS (by omega) hm w) ?_|refine opia 1 (by rfl) (by rfl) (by rfl) ⟨rfl,by decide⟩ (by rfl) (Tryd.underlying72) (by kernel_rfl) ?_|refine En.back ⟨(2,a,m,c),hI.s1 hm⟩ (wkd ?_) ?_|refine fin_s ?_|refine fin_r ?_ ?_|refine fin_e ?_ ?_)
    all_goals first | (show 3 - (1+1) < 3 - 1; omega)|skip
    all_goals (repeat' (first | exact trivial | rfl | ((conv=>whnf); refine And.intro ?_ ?_)))
  ·rcases hm:numR r with _|m
   ·have hno:lineV s=none:=by rw [hl4]; rw [hI.a1 (by decide),hI.b1 (by decide),hm]
    repeat' ((conv=>whnf); first | refine sgo ⟨tab_ok⟩ ?_|refine br_not ?_|refine br_t rfl ?_|refine br_f rfl ?_|refine br_t (by assumption) ?_|refine br_f (by assumption) ?_|refine br_t (decide_eq_true (by assumption)) ?_|refine br_f (decide_eq_false (by assumption)) ?_|refine br_t (beq_iff_eq.2 (by assumption)) ?_|refine br_f (beq_eq_false_iff_ne.2 (by assumption)) ?_|refine drA ⟨tab_ok⟩ [] ?_|refine kpt ?_|refine br_t (decide_eq_true (by omega)) ?_|refine br_f (decide_eq_false (by omega)) ?_|refine wr_i ?_|refine opiv ⟨tab_ok⟩ (by rfl) (by rfl) (by rfl) (by rfl) (by rfl) (by rfl) ⟨by decide,by decide⟩ ?_|refine opxc (g:=y.1) (off:=0+0*1) (tx p) (fun w1 hH=>Ek.rng (Hold.ob hH (A:=rwO strE w.heap.size (some ⟨y.1,0,none⟩) 4 y.2 [p,q,r,t] true) 0 rfl) (k:=0) rfl) ⟨tab_ok⟩ (by rfl) (by rfl) (by rfl) ?_|refine opxc (g:=y.1) (off:=0+1*1) (tx q) (fun w1 hH=>Ek.rng (Hold.ob hH (A:=rwO strE w.heap.size (some ⟨y.1,0,none⟩) 4 y.2 [p,q,r,t] true) 0 rfl) (k:=1) rfl) ⟨tab_ok⟩ (by rfl) (by rfl) (by rfl) ?_|refine opxc (g:=y.1) (off:=0+2*1) (tx r) (fun w1 hH=>Ek.rng (Hold.ob hH (A:=rwO strE w.heap.size (some ⟨y.1,0,none⟩) 4 y.2 [p,q,r,t] true) 0 rfl) (k:=2) rfl) ⟨tab_ok⟩ (by rfl) (by rfl) (by rfl) ?_|refine opxc (g:=y.1) (off:=0+3*1) (tx t) (fun w1 hH=>Ek.rng (Hold.ob hH (A:=rwO strE w.heap.size (some ⟨y.1,0,none⟩) 4 y.2 [p,q,r,t] true) 0 rfl) (k:=3) rfl) ⟨tab_ok⟩ (by rfl) (by rfl) (by rfl) ?_|refine callS (f:=30) (.t [.i .i64 0,.b false]) (fun w=>numberN (by omega) hm w) ?_|refine fin fun w' hH=>rl_no hno rfl hH.upd.since | refine fin_s ?_|refine fin_r ?_ ?_|refine fin_e ?_ ?_)
   ·repeat' ((conv=>whnf); first | refine sgo ⟨tab_ok⟩ ?_|refine br_not ?_|refine br_t rfl ?_|refine br_f rfl ?_|refine br_t (by assumption) ?_|refine br_f (by assumption) ?_|refine br_t (decide_eq_true (by assumption)) ?_|refine br_f (decide_eq_false (by assumption)) ?_|refine br_t (beq_iff_eq.2 (by assumption)) ?_|refine br_f (beq_eq_false_iff_ne.2 (by assumption)) ?_|refine drA ⟨tab_ok⟩ [] ?_|refine kpt ?_|refine br_t (decide_eq_true (by omega)) ?_|refine br_f (decide_eq_false (by omega)) ?_|refine wr_i ?_|refine opiv ⟨tab_ok⟩ (by rfl) (by rfl) (by rfl) (by rfl) (by rfl) (by rfl) ⟨by decide,by decide⟩ ?_|refine opxc (g:=y.1) (off:=0+0*1) (tx p) (fun w1 hH=>Ek.rng (Hold.ob hH (A:=rwO strE w.heap.size (some ⟨y.1,0,none⟩) 4 y.2 [p,q,r,t] true) 0 rfl) (k:=0) rfl) ⟨tab_ok⟩ (by rfl) (by rfl) (by rfl) ?_|refine opxc (g:=y.1) (off:=0+1*1) (tx q) (fun w1 hH=>Ek.rng (Hold.ob hH (A:=rwO strE w.heap.size (some ⟨y.1,0,none⟩) 4 y.2 [p,q,r,t] true) 0 rfl) (k:=1) rfl) ⟨tab_ok⟩ (by rfl) (by rfl) (by rfl) ?_|refine opxc (g:=y.1) (off:=0+2*1) (tx r) (fun w1 hH=>Ek.rng (Hold.ob hH (A:=rwO strE w.heap.size (some ⟨y.1,0,none⟩) 4 y.2 [p,q,r,t] true) 0 rfl) (k:=2) rfl) ⟨tab_ok⟩ (by rfl) (by rfl) (by rfl) ?_|refine opxc (g:=y.1) (off:=0+3*1) (tx t) (fun w1 hH=>Ek.rng (Hold.ob hH (A:=rwO strE w.heap.size (some ⟨y.1,0,none⟩) 4 y.2 [p,q,r,t] true) 0 rfl) (k:=3) rfl) ⟨tab_ok⟩ (by rfl) (by rfl) (by rfl) ?_|refine callS (f:=30) (.t [.i .i64 m,.b true]) (fun w=>numberS (by omega) hm w) ?_|refine opia 2 (by rfl) (by rfl) (by rfl) ⟨rfl,by decide⟩ (by rfl) (Tryd.underlying72) (by kernel_rfl) ?_|refine En.back ⟨(3,a,b,m),hI.s2 hm⟩ (wkd ?_) ?_|refine fin_s ?_|refine fin_r ?_ ?_|refine fin_e ?_ ?_)
    all_goals first | (show 3 - (2+1) < 3 - 2; omega)|skip
    all_goals (repeat' (first | exact trivial | rfl | ((conv=>whnf); refine And.intro ?_ ?_)))
  ·rcases hd:datV t with _|d
   ·have hno:lineV s=none:=by rw [hl4,hI.a1 (by decide),hI.b1 (by decide),hI.c1 (by decide),hd]
    repeat' ((conv=>whnf); first | refine sgo ⟨tab_ok⟩ ?_|refine br_not ?_|refine br_t rfl ?_|refine br_f rfl ?_|refine br_t (by assumption) ?_|refine br_f (by assumption) ?_|refine br_t (decide_eq_true (by assumption)) ?_|refine br_f (decide_eq_false (by assumption)) ?_|refine br_t (beq_iff_eq.2 (by assumption)) ?_|refine br_f (beq_eq_false_iff_ne.2 (by assumption)) ?_|refine drA ⟨tab_ok⟩ [] ?_|refine kpt ?_|refine br_t (decide_eq_true (by omega)) ?_|refine br_f (decide_eq_false (by omega)) ?_|refine wr_i ?_|refine opiv ⟨tab_ok⟩ (by rfl) (by rfl) (by rfl) (by rfl) (by rfl) (by rfl) ⟨by decide,by decide⟩ ?_|refine opxc (g:=y.1) (off:=0+0*1) (tx p) (fun w1 hH=>Ek.rng (Hold.ob hH (A:=rwO strE w.heap.size (some ⟨y.1,0,none⟩) 4 y.2 [p,q,r,t] true) 0 rfl) (k:=0) rfl) ⟨tab_ok⟩ (by rfl) (by rfl) (by rfl) ?_|refine opxc (g:=y.1) (off:=0+1*1) (tx q) (fun w1 hH=>Ek.rng (Hold.ob hH (A:=rwO strE w.heap.size (some ⟨y.1,0,none⟩) 4 y.2 [p,q,r,t] true) 0 rfl) (k:=1) rfl) ⟨tab_ok⟩ (by rfl) (by rfl) (by rfl) ?_|refine opxc (g:=y.1) (off:=0+2*1) (tx r) (fun w1 hH=>Ek.rng (Hold.ob hH (A:=rwO strE w.heap.size (some ⟨y.1,0,none⟩) 4 y.2 [p,q,r,t] true) 0 rfl) (k:=2) rfl) ⟨tab_ok⟩ (by rfl) (by rfl) (by rfl) ?_|refine opxc (g:=y.1) (off:=0+3*1) (tx t) (fun w1 hH=>Ek.rng (Hold.ob hH (A:=rwO strE w.heap.size (some ⟨y.1,0,none⟩) 4 y.2 [p,q,r,t] true) 0 rfl) (k:=3) rfl) ⟨tab_ok⟩ (by rfl) (by rfl) (by rfl) ?_|refine callN (f:=33) (ι:=Option Addr×Nat) (fun z=>.t [.v (.slice z.1 0 z.2),.b false]) (fun z=>rwO byteE w.heap.size z.1 0 z.2 [] true) (fun w1 hH=>(bytesR t (by omega) w1).mono (by intro e w' h; rw [hd] at h; obtain ⟨z,rfl,h1,h2⟩:=h; exact ⟨z,rfl,Ek.base (by rw [← zsN_0]; exact h1) hH.upd.size,h2,Ek.lows h1⟩)) (fun z=>?_)|refine fin fun w' hH=>rl_no hno rfl hH.upd.since | refine fin_s ?_|refine fin_r ?_ ?_|refine fin_e ?_ ?_)
   ·have hyes:lineV s=some ⟨a,b,c,d⟩:=by rw [hl4,hI.a1 (by decide),hI.b1 (by decide),hI.c1 (by decide),hd]
    repeat' ((conv=>whnf); first | refine sgo ⟨tab_ok⟩ ?_|refine br_not ?_|refine br_t rfl ?_|refine br_f rfl ?_|refine br_t (by assumption) ?_|refine br_f (by assumption) ?_|refine br_t (decide_eq_true (by assumption)) ?_|refine br_f (decide_eq_false (by assumption)) ?_|refine br_t (beq_iff_eq.2 (by assumption)) ?_|refine br_f (beq_eq_false_iff_ne.2 (by assumption)) ?_|refine drA ⟨tab_ok⟩ [] ?_|refine kpt ?_|refine br_t (decide_eq_true (by omega)) ?_|refine br_f (decide_eq_false (by omega)) ?_|refine wr_i ?_|refine opiv ⟨tab_ok⟩ (by rfl) (by rfl) (by rfl) (by rfl) (by rfl) (by rfl) ⟨by decide,by decide⟩ ?_|refine opxc (g:=y.1) (off:=0+0*1) (tx p) (fun w1 hH=>Ek.rng (Hold.ob hH (A:=rwO strE w.heap.size (some ⟨y.1,0,none⟩) 4 y.2 [p,q,r,t] true) 0 rfl) (k:=0) rfl) ⟨tab_ok⟩ (by rfl) (by rfl) (by rfl) ?_|refine opxc (g:=y.1) (off:=0+1*1) (tx q) (fun w1 hH=>Ek.rng (Hold.ob hH (A:=rwO strE w.heap.size (some ⟨y.1,0,none⟩) 4 y.2 [p,q,r,t] true) 0 rfl) (k:=1) rfl) ⟨tab_ok⟩ (by rfl) (by rfl) (by rfl) ?_|refine opxc (g:=y.1) (off:=0+2*1) (tx r) (fun w1 hH=>Ek.rng (Hold.ob hH (A:=rwO strE w.heap.size (some ⟨y.1,0,none⟩) 4 y.2 [p,q,r,t] true) 0 rfl) (k:=2) rfl) ⟨tab_ok⟩ (by rfl) (by rfl) (by rfl) ?_|refine opxc (g:=y.1) (off:=0+3*1) (tx t) (fun w1 hH=>Ek.rng (Hold.ob hH (A:=rwO strE w.heap.size (some ⟨y.1,0,none⟩) 4 y.2 [p,q,r,t] true) 0 rfl) (k:=3) rfl) ⟨tab_ok⟩ (by rfl) (by rfl) (by rfl) ?_|refine opia 0 (by rfl) (by rfl) (by rfl) ⟨rfl,by decide⟩ (by rfl) (Tryd.underlying72) (by kernel_rfl) ?_|refine opia 1 (by rfl) (by rfl) (by rfl) ⟨rfl,by decide⟩ (by rfl) (Tryd.underlying72) (by kernel_rfl) ?_|refine opia 2 (by rfl) (by rfl) (by rfl) ⟨rfl,by decide⟩ (by rfl) (Tryd.underlying72) (by kernel_rfl) ?_|refine callN (f:=33) (ι:=Option Addr×Nat) (fun z=>.t [.v (.slice z.1 (zsN d).length z.2),.b true]) (fun z=>rwO byteE w.heap.size z.1 (zsN d).length z.2 (zsN d) true) (fun w1 hH=>(bytesR t (by omega) w1).mono (by intro e w' h; rw [hd] at h; obtain ⟨z,he,h1,h2⟩:=h; refine ⟨z,by rw [zsN_len]; exact he,Ek.base (by rw [zsN_len]; exact h1) hH.upd.size,h2,Ek.lows h1⟩)) (fun z=>?_)|refine fin fun w' hH=>rl_yes hyes (Hold.ob hH (A:=rwO byteE w.heap.size z.1 (zsN d).length z.2 (zsN d) true) 1 rfl) rfl hH.upd.since | refine fin_s ?_|refine fin_r ?_ ?_|refine fin_e ?_ ?_)
 ·have hno:=line_no4 h4
  have h4i:(((spl s).length:Int) == 4)=false:=beq_eq_false_iff_ne.2 (by omega)
  refine ent tab_ok [tx s] Tryd.func20 Tryd.ntmps20 rfl rfl ?_
  repeat' ((conv=>whnf); first | refine sgo ⟨tab_ok⟩ ?_|refine br_not ?_|refine br_t rfl ?_|refine br_f rfl ?_|refine br_t (by assumption) ?_|refine br_f (by assumption) ?_|refine br_t (decide_eq_true (by assumption)) ?_|refine br_f (decide_eq_false (by assumption)) ?_|refine br_t (beq_iff_eq.2 (by assumption)) ?_|refine br_f (beq_eq_false_iff_ne.2 (by assumption)) ?_|intro b0 | refine drA ⟨tab_ok⟩ [] ?_|refine kpt ?_|refine br_t (decide_eq_true (by omega)) ?_|refine br_f (decide_eq_false (by omega)) ?_|refine br_f h4i ?_|refine callN (f:=28) (ι:=Option Addr×Nat) (fun y=>.v (.slice y.1 (spl s).length y.2)) (fun y=>rwO strE w.heap.size y.1 (spl s).length y.2 (spl s) true) (fun w1 hH=>(cutR s hs w1).mono (by rintro e w' ⟨y,rfl,h1,h2⟩; exact ⟨y,rfl,Ek.base h1 hH.upd.size,h2,Ek.lows h1⟩)) (fun y=>?_)|refine fin fun w' hH=>rl_no hno rfl hH.upd.since | refine fin_s ?_|refine fin_r ?_ ?_|refine fin_e ?_ ?_)
end Sw
namespace Sw
open Go.RowKit Ba Mem En Go.Proofs.YtjghelofdfolbaaDoor.Ty Gw
open Co (Hold.ob)
open Sx
set_option maxRecDepth 100000
def seD (y:Option (List Int)):List Int:=match y with
 | some l=>l
 | none=>List.replicate 18 0
def seP (w:World) (y:Option (List Int)) (e:Ending) (w':World):Prop:=e=.returned (.tuple #[.agg (intsV (seD y)).toArray,.bool y.isSome])∧Since w w'
theorem se_no {w w':World} {e:Ending} {y:Option (List Int)} (hy:y=none) (he:e=.returned (.tuple #[.agg #[.int .i64 0,.int .i64 0,.int .i64 0,.int .i64 0,.int .i64 0,.int .i64 0,.int .i64 0,.int .i64 0,.int .i64 0,.int .i64 0,.int .i64 0,.int .i64 0,.int .i64 0,.int .i64 0,.int .i64 0,.int .i64 0,.int .i64 0,.int .i64 0],.bool false])) (hs:Since w w'):seP w y e w':=by
 subst hy
 exact ⟨he,hs⟩
theorem se_yes {w w':World} {e:Ending} {y:Option (List Int)} {a0 a1 a2 a3 a4 a5 a6 a7 a8 a9 a10 a11 a12 a13 a14 a15 a16 a17:Int} (hy:y=some [a0,a1,a2,a3,a4,a5,a6,a7,a8,a9,a10,a11,a12,a13,a14,a15,a16,a17]) (he:e=.returned (.tuple #[.agg #[.int .i64 a0,.int .i64 a1,.int .i64 a2,.int .i64 a3,.int .i64 a4,.int .i64 a5,.int .i64 a6,.int .i64 a7,.int .i64 a8,.int .i64 a9,.int .i64 a10,.int .i64 a11,.int .i64 a12,.int .i64 a13,.int .i64 a14,.int .i64 a15,.int .i64 a16,.int .i64 a17],.bool true])) (hs:Since w w'):seP w y e w':=by
 subst hy
 exact ⟨he,hs⟩
theorem at18 {l:List Int} (h:l.length=18):∃ a0 a1 a2 a3 a4 a5 a6 a7 a8 a9 a10 a11 a12 a13 a14 a15 a16 a17,l=[a0,a1,a2,a3,a4,a5,a6,a7,a8,a9,a10,a11,a12,a13,a14,a15,a16,a17]:=by
 match l,h with
 | [a0,a1,a2,a3,a4,a5,a6,a7,a8,a9,a10,a11,a12,a13,a14,a15,a16,a17],_=>exact ⟨a0,a1,a2,a3,a4,a5,a6,a7,a8,a9,a10,a11,a12,a13,a14,a15,a16,a17,rfl⟩
theorem pl_all {lo b:Nat} {T:TypeId} {vs:List PW} {rest cs:List Value} {w:World} (h:PlAt lo b T vs rest w) (hc:vs.map PW.v++rest=cs:=by rfl):w.rangeAt b (0+0) cs:=fun j u hj=>by
 have:=Blk.cell h.1 (i:=0+0+j)
 rw [this]
 subst hc
 unfold plA
 simpa using hj
attribute [local irreducible] Go.Calls numR spl
theorem cutR18 {s:List UInt8} {W:List (List UInt8)} (hs:s.length≤900000) (h:spl s=W) (hw:W.length=18) (w:World):Calls Tryd.prog 28 #[.string ⟨s.toArray⟩] w fun e w'=>∃ y:Nat×Nat,e=.returned (.slice (some ⟨y.1,0,none⟩) 18 y.2)∧strE.At w.heap.size (some ⟨y.1,0,none⟩) 18 y.2 W w'∧Since w w':=by
 refine (cutR s hs w).mono ?_
 rintro e w' ⟨⟨A,c⟩,rfl,h1,h2⟩
 rw [h,hw] at h1 ⊢
 have h1:strE.At w.heap.size A 18 c W w':=h1
 rcases own_at h1 with ⟨_,h0,_⟩ | ⟨g,_,rfl,_⟩
 ·exact absurd h0 (by decide)
 ·exact ⟨(g,c),rfl,h1,h2⟩
structure SeI (W:List (List UInt8)) (i:Nat) (l:List Int) (ps:List PW) (rest:List Value):Prop where
 n:l.length=i
 le:i≤18
 p:ps=l.map PW.nu
 r:rest=List.replicate (18 - i) (.int .i64 0)
 v:numsV W=(numsV (W.drop i)).map fun r=>l++r
theorem SeI.z (W:List (List UInt8)):SeI W 0 [] [] (List.replicate 18 (.int .i64 0)):=⟨rfl,Nat.zero_le _,rfl,rfl,by show numsV W=(numsV W).map _; cases numsV W <;> rfl⟩
theorem SeI.cons {W:List (List UInt8)} {i:Nat} {l:List Int} {ps:List PW} {rest:List Value} (h:SeI W i l ps rest) (hi:i < 18):∃ r,rest=.int .i64 0::r∧r=List.replicate (18 - (i+1)) (.int .i64 0):=by
 refine ⟨_, ?_,rfl⟩
 rw [h.r,show 18 - i=(18 - (i+1))+1 by omega]; rfl
theorem SeI.more {W:List (List UInt8)} {i:Nat} {l:List Int} {ps:List PW} {rest r:List Value} {x:List UInt8} {n:Int} (h:SeI W i l ps rest) (hi:i < 18) (hr:r=List.replicate (18 - (i+1)) (.int .i64 0)) (hx:W[i]?=some x) (hn:numR x=some n):SeI W (i+1) (l++[n]) (ps++[PW.nu n]) r:=by
 refine ⟨by rw [List.length_append,h.n]; rfl,by omega,by rw [h.p,List.map_append]; rfl,hr, ?_⟩
 rw [h.v,numsV_step hx,num_same,hn]
 cases numsV (W.drop (i+1)) with
 | none=>rfl
 | some r=>simp
theorem SeI.bad {W:List (List UInt8)} {i:Nat} {l:List Int} {ps:List PW} {rest:List Value} {x:List UInt8} (h:SeI W i l ps rest) (hx:W[i]?=some x) (hn:numR x=none):numsV W=none:=by
 rw [h.v,numsV_step hx,num_same,hn]; rfl
theorem SeI.end_ {W:List (List UInt8)} {i:Nat} {l:List Int} {ps:List PW} {rest:List Value} (h:SeI W i l ps rest) (hw:W.length≤i):numsV W=some l:=by
 rw [h.v,List.drop_eq_nil_of_le hw]
 show (some []).map _=_
 simp
set_option maxHeartbeats 8000000 in
theorem setR (s:List UInt8) (hs:s.length≤900000) (w:World):Calls Tryd.prog 16 #[.string ⟨s.toArray⟩] w (seP w (setV s)):=by
 by_cases hne:s=[]
 ·subst hne
  have hno:setV []=none:=rfl
  have h0:(((([]:List UInt8).length:Nat):Int) == 0)=true:=rfl
  refine ent tab_ok [tx []] Tryd.func16 Tryd.ntmps16 rfl rfl ?_
  repeat' ((conv=>whnf); first | refine sgo ⟨tab_ok⟩ ?_|refine br_not ?_|refine br_t rfl ?_|refine br_f rfl ?_|refine br_t (by assumption) ?_|refine br_f (by assumption) ?_|refine br_t (decide_eq_true (by assumption)) ?_|refine br_f (decide_eq_false (by assumption)) ?_|refine br_t (beq_iff_eq.2 (by assumption)) ?_|refine br_f (beq_eq_false_iff_ne.2 (by assumption)) ?_|intro b0 | refine drA ⟨tab_ok⟩ [] ?_|refine kpt ?_|refine br_t (decide_eq_true (by omega)) ?_|refine br_f (decide_eq_false (by omega)) ?_|refine wr_i ?_|refine opP (pvLen (xs:=[]) (by rfl) (by rfl) Tryd.underlying9) ?_|refine fin fun w' hH=>se_no hno rfl hH.upd.since | refine fin_s ?_|refine fin_r ?_ ?_|refine fin_e ?_ ?_)
 have hpos:0 < s.length:=List.length_pos_iff.2 hne
 obtain ⟨c,hlast⟩:∃ c,s[s.length - 1]?=some c:=⟨_,List.getElem?_eq_getElem (by omega)⟩
 have hgl:s.getLast?=some c:=by rw [List.getLast?_eq_getElem?]; exact hlast
 have hdl:s.dropLast=s.take (s.length - 1):=List.dropLast_eq_take
 by_cases h10:c=10
 ·subst h10
  obtain ⟨W,hW⟩:∃ W,spl (s.take (s.length - 1))=W:=⟨_,rfl⟩
  by_cases hW18:W.length=18
  ·have hv:setV s=numsV W:=by unfold setV; rw [if_pos hgl,hdl,hW,if_pos hW18]
   rw [hv]
   have hwl:∀ x∈W,x.length≤900000:=fun x hx=>by
    have:=word_len (s:=s.take (s.length - 1)) (w:=x) (by rw [hW]; exact hx)
    rw [List.length_take] at this; omega
   refine ent tab_ok [tx s] Tryd.func16 Tryd.ntmps16 rfl rfl ?_
   repeat' ((conv=>whnf); first | refine sgo ⟨tab_ok⟩ ?_|refine br_not ?_|refine br_t rfl ?_|refine br_f rfl ?_|refine br_t (by assumption) ?_|refine br_f (by assumption) ?_|refine br_t (decide_eq_true (by assumption)) ?_|refine br_f (decide_eq_false (by assumption)) ?_|refine br_t (beq_iff_eq.2 (by assumption)) ?_|refine br_f (beq_eq_false_iff_ne.2 (by assumption)) ?_|refine drA ⟨tab_ok⟩ [] ?_|refine kpt ?_|refine br_t (decide_eq_true (by omega)) ?_|refine br_f (decide_eq_false (by omega)) ?_|refine fin_s ?_|refine fin_r ?_ ?_|refine fin_e ?_ ?_)
   conv=>whnf
   intro b0
   repeat' ((conv=>whnf); first | refine sgo ⟨tab_ok⟩ ?_|refine br_not ?_|refine br_t rfl ?_|refine br_f rfl ?_|refine br_t (by assumption) ?_|refine br_f (by assumption) ?_|refine br_t (decide_eq_true (by assumption)) ?_|refine br_f (decide_eq_false (by assumption)) ?_|refine br_t (beq_iff_eq.2 (by assumption)) ?_|refine br_f (beq_eq_false_iff_ne.2 (by assumption)) ?_|refine drA ⟨tab_ok⟩ [] ?_|refine kpt ?_|refine br_t (decide_eq_true (by omega)) ?_|refine br_f (decide_eq_false (by omega)) ?_|refine br_t (beq_iff_eq.2 (by omega)) ?_|refine br_f (beq_eq_false_iff_ne.2 (by omega)) ?_|refine wr (show IntKind.i64.wrap ((s.length:Int) - 1)=((s.length - 1:Nat):Int) by rw [show (s.length:Int) - 1=((s.length - 1:Nat):Int) by omega]; exact wr64 _ (by omega) (by omega)) ?_|refine wr_i ?_|refine opP (pvLen (xs:=s) (by rfl) (by rfl) Tryd.underlying9) ?_|refine opP (pvIdx (xs:=s) (j:=s.length - 1) (by rfl) (by rfl) (by rfl) (by omega) hlast Tryd.underlying9) ?_|refine opP (pvSlH (xs:=s) (s.length - 1) (by rfl) (by rfl) (by rfl) ⟨by omega,by omega⟩ Tryd.underlying9) ?_|refine callN (f:=28) (ι:=Nat×Nat) (fun y=>.v (.slice (some ⟨y.1,0,none⟩) 18 y.2)) (fun y=>rwO strE w.heap.size (some ⟨y.1,0,none⟩) 18 y.2 W true) (fun w1 hH=>(cutR18 (by rw [List.length_take]; omega) hW hW18 w1).mono (by rintro e w' ⟨y,rfl,h1,h2⟩; exact ⟨y,rfl,Ek.base h1 hH.upd.size,h2,Ek.lows h1⟩)) (fun y=>?_)|refine fin_s ?_|refine fin_r ?_ ?_|refine fin_e ?_ ?_)
   conv=>whnf
   intro b1
   repeat' ((conv=>whnf); first | refine sgo ⟨tab_ok⟩ ?_|refine br_not ?_|refine br_t rfl ?_|refine br_f rfl ?_|refine br_t (by assumption) ?_|refine br_f (by assumption) ?_|refine br_t (decide_eq_true (by assumption)) ?_|refine br_f (decide_eq_false (by assumption)) ?_|refine br_t (beq_iff_eq.2 (by assumption)) ?_|refine br_f (beq_eq_false_iff_ne.2 (by assumption)) ?_|refine drA ⟨tab_ok⟩ [] ?_|refine kpt ?_|refine br_t (decide_eq_true (by omega)) ?_|refine br_f (decide_eq_false (by omega)) ?_|refine rowX (f:=29) 1 (plO w.heap.size b1 32 [] (List.replicate 18 (.int .i64 0))) (by rfl) (by rfl) (by rfl) (fun w h=>⟨h,by intro x hx; cases hx⟩) (by rfl) ?_|refine callN (f:=29) (ι:=Nat) (fun g=>.v (.slice (some ⟨g,0,none⟩) 18 18)) (fun g=>rwO (ptE b1) w.heap.size (some ⟨g,0,none⟩) 18 18 (List.range 18) true) (fun w1 hH=>(fieldsR b1 w1).mono (by rintro e w' ⟨g,rfl,h1,h2⟩; exact ⟨g,rfl,Ek.base h1 hH.upd.size,h2,Ek.lows h1⟩)) (fun g=>?_)|refine fin_s ?_|refine fin_r ?_ ?_|refine fin_e ?_ ?_)
   conv=>whnf
   refine lp ⟨tab_ok⟩ (ι:={v:Nat×List Int×List PW×List Value // SeI W v.1 v.2.1 v.2.2.1 v.2.2.2}) (fun v=>match v with | ⟨(i,l,ps,rest),_⟩=>⟨[(0,tx s),(2,.p 0 0),(3,.b false),(4,.v (.slice (some ⟨y.1,0,none⟩) 18 y.2)),(5,.p 1 0),(6,.v (.slice (some ⟨g,0,none⟩) 18 18)),(7,.i .i64 (i:Int))],[⟨b0,32,true,0,[],[.i .i64 0,.i .i64 0,.i .i64 0,.i .i64 0,.i .i64 0,.i .i64 0,.i .i64 0,.i .i64 0,.i .i64 0,.i .i64 0,.i .i64 0,.i .i64 0,.i .i64 0,.i .i64 0,.i .i64 0,.i .i64 0,.i .i64 0,.i .i64 0],[],true⟩,⟨b1,32,false,0,[],[.i .i64 0,.i .i64 0,.i .i64 0,.i .i64 0,.i .i64 0,.i .i64 0,.i .i64 0,.i .i64 0,.i .i64 0,.i .i64 0,.i .i64 0,.i .i64 0,.i .i64 0,.i .i64 0,.i .i64 0,.i .i64 0,.i .i64 0,.i .i64 0],[],true⟩],[rwO strE w.heap.size (some ⟨y.1,0,none⟩) 18 y.2 W true,plO w.heap.size b1 32 ps rest,rwO (ptE b1) w.heap.size (some ⟨g,0,none⟩) 18 18 (List.range 18) true]⟩) (fun v=>18 - v.1.1) ⟨(0,[],[],List.replicate 18 (.int .i64 0)),SeI.z W⟩ (wkd ?_) ?_
   ·repeat' (first | exact trivial | rfl | ((conv=>whnf); refine And.intro ?_ ?_))
   rintro ⟨⟨i,l,ps,rest⟩,hI0⟩
   have hI:SeI W i l ps rest:=hI0
   have hi:=hI.le
   by_cases hlt:i < 18
   ·obtain ⟨x,hx⟩:∃ x,W[i]?=some x:=⟨_,List.getElem?_eq_getElem (by omega)⟩
    have hxl:=hwl x (List.mem_of_getElem? hx)
    have hri:(List.range 18)[i]?=some i:=List.getElem?_range hlt
    obtain ⟨r,hr1,hr2⟩:=hI.cons hlt
    subst hr1
    rcases hm:numR x with _|m
    ·have hno:=hI.bad hx hm
     repeat' ((conv=>whnf); first | refine sgo ⟨tab_ok⟩ ?_|refine br_not ?_|refine br_t rfl ?_|refine br_f rfl ?_|refine br_t (by assumption) ?_|refine br_f (by assumption) ?_|refine br_t (decide_eq_true (by assumption)) ?_|refine br_f (decide_eq_false (by assumption)) ?_|refine br_t (beq_iff_eq.2 (by assumption)) ?_|refine br_f (beq_eq_false_iff_ne.2 (by assumption)) ?_|refine drA ⟨tab_ok⟩ [] ?_|refine kpt ?_|refine br_t (decide_eq_true (by omega)) ?_|refine br_f (decide_eq_false (by omega)) ?_|refine wr_i ?_|refine opiv ⟨tab_ok⟩ (by rfl) (by rfl) (by rfl) (by rfl) (by rfl) (by rfl) ⟨by omega,by omega⟩ ?_|refine opxc (g:=y.1) (off:=0+i*1) (tx x) (fun w1 hH=>Ek.rng (Hold.ob hH (A:=rwO strE w.heap.size (some ⟨y.1,0,none⟩) 18 y.2 W true) 0 rfl) hx) ⟨tab_ok⟩ (by rfl) (by rfl) (by first | (simp only [Go.WideShapes.add_plain]; done)|(simp only [Go.WideShapes.add_plain]; rfl)) ?_|refine callS (f:=30) (.t [.i .i64 0,.b false]) (fun w=>numberN (by omega) hm w) ?_|refine fin fun w' hH=>se_no hno rfl hH.upd.since | refine fin_s ?_|refine fin_r ?_ ?_|refine fin_e ?_ ?_)
    ·have hlp:i=ps.length:=by rw [hI.p,List.length_map,hI.n]
     repeat' ((conv=>whnf); first | refine sgo ⟨tab_ok⟩ ?_|refine br_not ?_|refine br_t rfl ?_|refine br_f rfl ?_|refine br_t (by assumption) ?_|refine br_f (by assumption) ?_|refine br_t (decide_eq_true (by assumption)) ?_|refine br_f (decide_eq_false (by assumption)) ?_|refine br_t (beq_iff_eq.2 (by assumption)) ?_|refine br_f (beq_eq_false_iff_ne.2 (by assumption)) ?_|refine drA ⟨tab_ok⟩ [] ?_|refine kpt ?_|refine br_t (decide_eq_true (by omega)) ?_|refine br_f (decide_eq_false (by omega)) ?_|refine wr_i ?_|refine opiv ⟨tab_ok⟩ (by rfl) (by rfl) (by rfl) (by rfl) (by rfl) (by rfl) ⟨by omega,by omega⟩ ?_|refine opxc (g:=y.1) (off:=0+i*1) (tx x) (fun w1 hH=>Ek.rng (Hold.ob hH (A:=rwO strE w.heap.size (some ⟨y.1,0,none⟩) 18 y.2 W true) 0 rfl) hx) ⟨tab_ok⟩ (by rfl) (by rfl) (by first | (simp only [Go.WideShapes.add_plain]; done)|(simp only [Go.WideShapes.add_plain]; rfl)) ?_|refine callS (f:=30) (.t [.i .i64 m,.b true]) (fun w=>numberS (by omega) hm w) ?_|refine opxc (g:=g) (off:=0+i*1) (.v (.pointer (some ⟨b1,i,none⟩))) (fun w1 hH=>Ek.rng (Hold.ob hH (A:=rwO (ptE b1) w.heap.size (some ⟨g,0,none⟩) 18 18 (List.range 18) true) 2 rfl) hri) ⟨tab_ok⟩ (by rfl) (by rfl) (by first | (simp only [Go.WideShapes.add_plain]; done)|(simp only [Go.WideShapes.add_plain]; rfl)) ?_|refine opnv (by rfl) (by rfl) ?_|refine opsPn (b:=b1) (q:=i) 1 m (by rfl) (by rfl) hlp (by rfl) (by rfl) (by kernel_rfl) ?_|refine En.back ⟨(i+1,l++[m],ps++[PW.nu m],r),hI.more hlt hr2 hx hm⟩ (wkd ?_) ?_|refine fin_s ?_|refine fin_r ?_ ?_|refine fin_e ?_ ?_)
     all_goals first | (show 18 - (i+1) < 18 - i; omega)|skip
     all_goals (repeat' (first | exact trivial | rfl | ((conv=>whnf); refine And.intro ?_ ?_)))
   ·have hyes:=hI.end_ (by omega)
    have e18:i=18:=by omega
    obtain ⟨a0,a1,a2,a3,a4,a5,a6,a7,a8,a9,a10,a11,a12,a13,a14,a15,a16,a17,hl⟩:=at18 (hI.n.trans e18)
    rw [hl] at hyes
    have hps:=hI.p
    have hrs:=hI.r
    rw [hl] at hps
    rw [e18] at hrs
    subst hps hrs
    repeat' ((conv=>whnf); first | refine sgo ⟨tab_ok⟩ ?_|refine br_not ?_|refine br_t rfl ?_|refine br_f rfl ?_|refine br_t (by assumption) ?_|refine br_f (by assumption) ?_|refine br_t (decide_eq_true (by assumption)) ?_|refine br_f (decide_eq_false (by assumption)) ?_|refine br_t (beq_iff_eq.2 (by assumption)) ?_|refine br_f (beq_eq_false_iff_ne.2 (by assumption)) ?_|refine drA ⟨tab_ok⟩ [] ?_|refine kpt ?_|refine br_t (decide_eq_true (by omega)) ?_|refine br_f (decide_eq_false (by omega)) ?_|refine opixp (j:=1) (q:=0) (r:=⟨b1,32,false,0,[],[.i .i64 0,.i .i64 0,.i .i64 0,.i .i64 0,.i .i64 0,.i .i64 0,.i .i64 0,.i .i64 0,.i .i64 0,.i .i64 0,.i .i64 0,.i .i64 0,.i .i64 0,.i .i64 0,.i .i64 0,.i .i64 0,.i .i64 0,.i .i64 0],[],true⟩) [.i .i64 a0,.i .i64 a1,.i .i64 a2,.i .i64 a3,.i .i64 a4,.i .i64 a5,.i .i64 a6,.i .i64 a7,.i .i64 a8,.i .i64 a9,.i .i64 a10,.i .i64 a11,.i .i64 a12,.i .i64 a13,.i .i64 a14,.i .i64 a15,.i .i64 a16,.i .i64 a17] (by rfl) (fun w1 hH=>pl_all (Hold.ob hH (A:=plO w.heap.size b1 32 _ _) 1 rfl)) ⟨tab_ok⟩ (by rfl) (by rfl) ?_ (by rfl) (by rfl)|refine fin fun w' hH=>se_yes hyes rfl hH.upd.since | refine fin_s ?_|refine fin_r ?_ ?_|refine fin_e ?_ ?_)
  ·have hno:setV s=none:=by unfold setV; rw [if_pos hgl,hdl,hW,if_neg hW18]
   have hWi:(((spl (s.take (s.length - 1))).length:Int) == 18)=false:=beq_eq_false_iff_ne.2 (by rw [hW]; omega)
   refine ent tab_ok [tx s] Tryd.func16 Tryd.ntmps16 rfl rfl ?_
   repeat' ((conv=>whnf); first | refine sgo ⟨tab_ok⟩ ?_|refine br_not ?_|refine br_t rfl ?_|refine br_f rfl ?_|refine br_t (by assumption) ?_|refine br_f (by assumption) ?_|refine br_t (decide_eq_true (by assumption)) ?_|refine br_f (decide_eq_false (by assumption)) ?_|refine br_t (beq_iff_eq.2 (by assumption)) ?_|refine br_f (beq_eq_false_iff_ne.2 (by assumption)) ?_|refine drA ⟨tab_ok⟩ [] ?_|refine kpt ?_|refine br_t (decide_eq_true (by omega)) ?_|refine br_f (decide_eq_false (by omega)) ?_|refine fin_s ?_|refine fin_r ?_ ?_|refine fin_e ?_ ?_)
   conv=>whnf
   intro b0
   repeat' ((conv=>whnf); first | refine sgo ⟨tab_ok⟩ ?_|refine br_not ?_|refine br_t rfl ?_|refine br_f rfl ?_|refine br_t (by assumption) ?_|refine br_f (by assumption) ?_|refine br_t (decide_eq_true (by assumption)) ?_|refine br_f (decide_eq_false (by assumption)) ?_|refine br_t (beq_iff_eq.2 (by assumption)) ?_|refine br_f (beq_eq_false_iff_ne.2 (by assumption)) ?_|refine drA ⟨tab_ok⟩ [] ?_|refine kpt ?_|refine br_t (decide_eq_true (by omega)) ?_|refine br_f (decide_eq_false (by omega)) ?_|refine br_t (beq_iff_eq.2 (by omega)) ?_|refine br_f (beq_eq_false_iff_ne.2 (by omega)) ?_|refine wr (show IntKind.i64.wrap ((s.length:Int) - 1)=((s.length - 1:Nat):Int) by rw [show (s.length:Int) - 1=((s.length - 1:Nat):Int) by omega]; exact wr64 _ (by omega) (by omega)) ?_|refine wr_i ?_|refine opP (pvLen (xs:=s) (by rfl) (by rfl) Tryd.underlying9) ?_|refine opP (pvIdx (xs:=s) (j:=s.length - 1) (by rfl) (by rfl) (by rfl) (by omega) hlast Tryd.underlying9) ?_|refine opP (pvSlH (xs:=s) (s.length - 1) (by rfl) (by rfl) (by rfl) ⟨by omega,by omega⟩ Tryd.underlying9) ?_|refine callN (f:=28) (ι:=Option Addr×Nat) (fun y=>.v (.slice y.1 (spl (s.take (s.length - 1))).length y.2)) (fun y=>rwO strE w.heap.size y.1 (spl (s.take (s.length - 1))).length y.2 (spl (s.take (s.length - 1))) true) (fun w1 hH=>(cutR (s.take (s.length - 1)) (by rw [List.length_take]; omega) w1).mono (by rintro e w' ⟨y,rfl,h1,h2⟩; exact ⟨y,rfl,Ek.base h1 hH.upd.size,h2,Ek.lows h1⟩)) (fun y=>?_)|refine fin_s ?_|refine fin_r ?_ ?_|refine fin_e ?_ ?_)
   conv=>whnf
   intro b1
   repeat' ((conv=>whnf); first | refine sgo ⟨tab_ok⟩ ?_|refine br_not ?_|refine br_t rfl ?_|refine br_f rfl ?_|refine br_t (by assumption) ?_|refine br_f (by assumption) ?_|refine br_t (decide_eq_true (by assumption)) ?_|refine br_f (decide_eq_false (by assumption)) ?_|refine br_t (beq_iff_eq.2 (by assumption)) ?_|refine br_f (beq_eq_false_iff_ne.2 (by assumption)) ?_|refine drA ⟨tab_ok⟩ [] ?_|refine kpt ?_|refine br_t (decide_eq_true (by omega)) ?_|refine br_f (decide_eq_false (by omega)) ?_|refine br_f hWi ?_|refine rowX (f:=29) 1 (plO w.heap.size b1 32 [] (List.replicate 18 (.int .i64 0))) (by rfl) (by rfl) (by rfl) (fun w h=>⟨h,by intro x hx; cases hx⟩) (by rfl) ?_|refine callN (f:=29) (ι:=Nat) (fun g=>.v (.slice (some ⟨g,0,none⟩) 18 18)) (fun g=>rwO (ptE b1) w.heap.size (some ⟨g,0,none⟩) 18 18 (List.range 18) true) (fun w1 hH=>(fieldsR b1 w1).mono (by rintro e w' ⟨g,rfl,h1,h2⟩; exact ⟨g,rfl,Ek.base h1 hH.upd.size,h2,Ek.lows h1⟩)) (fun g=>?_)|refine fin fun w' hH=>se_no hno rfl hH.upd.since | refine fin_s ?_|refine fin_r ?_ ?_|refine fin_e ?_ ?_)
 ·have hno:setV s=none:=by unfold setV; rw [if_neg (by rw [hgl]; intro h; injection h with h; exact h10 h)]
  have hc10:((c.toNat:Int) == 10)=false:=beq_eq_false_iff_ne.2 (fun h=>h10 (UInt8.toNat_inj.1 (by show c.toNat=10; omega)))
  refine ent tab_ok [tx s] Tryd.func16 Tryd.ntmps16 rfl rfl ?_
  repeat' ((conv=>whnf); first | refine sgo ⟨tab_ok⟩ ?_|refine br_not ?_|refine br_t rfl ?_|refine br_f rfl ?_|refine br_t (by assumption) ?_|refine br_f (by assumption) ?_|refine br_t (decide_eq_true (by assumption)) ?_|refine br_f (decide_eq_false (by assumption)) ?_|refine br_t (beq_iff_eq.2 (by assumption)) ?_|refine br_f (beq_eq_false_iff_ne.2 (by assumption)) ?_|intro b0 | refine drA ⟨tab_ok⟩ [] ?_|refine kpt ?_|refine br_t (decide_eq_true (by omega)) ?_|refine br_f (decide_eq_false (by omega)) ?_|refine br_f hc10 ?_|refine br_t (beq_iff_eq.2 (by omega)) ?_|refine br_f (beq_eq_false_iff_ne.2 (by omega)) ?_|refine wr (show IntKind.i64.wrap ((s.length:Int) - 1)=((s.length - 1:Nat):Int) by rw [show (s.length:Int) - 1=((s.length - 1:Nat):Int) by omega]; exact wr64 _ (by omega) (by omega)) ?_|refine wr_i ?_|refine opP (pvLen (xs:=s) (by rfl) (by rfl) Tryd.underlying9) ?_|refine opP (pvIdx (xs:=s) (j:=s.length - 1) (by rfl) (by rfl) (by rfl) (by omega) hlast Tryd.underlying9) ?_|refine fin fun w' hH=>se_no hno rfl hH.upd.since | refine fin_s ?_|refine fin_r ?_ ?_|refine fin_e ?_ ?_)
end Sw
namespace Sp
open Go.RowKit Ba Mem En Go.Proofs.YtjghelofdfolbaaDoor.Ty Gw
open Byt (BV isB)
open Co (Hold.ob)
open Sx Sw
open Go.Lib (itoa)
set_option maxRecDepth 100000
inductive WW where
 | nu (z:Int)
 | da (A:Option Addr) (n c:Nat) (zs:List Int)
def WW.v:WW→Value
 | .nu z=>.iface 3 (.int .i64 z)
 | .da A n c _=>.iface 38 (.slice A n c)
def WW.F:WW→List Nat
 | .nu _=>[]
 | .da A n _ _=>rdF A n
def WW.st:WW→World→Prop
 | .nu _,_=>True
 | .da A n _ zs,w=>BV w A n zs
def WW.t:WW→List UInt8
 | .nu z=>itoa z
 | .da _ _ _ zs=>120::hexI zs
def WW.ok:WW→Prop
 | .nu z=>n64 z
 | .da _ n _ _=>n≤400000
instance:Inhabited WW:=⟨.nu 0⟩
def anE:Ek WW:=⟨20,1,fun x=>[x.v],fun _=>rfl,fun a u hu=>by
 rw [List.mem_singleton] at hu; subst hu; cases a <;> rfl⟩
structure WdR (a:Option Addr) (n:Nat) (ws:Nat→WW) (w:World):Prop where
 r:anE.Rd a n ws w
 d:∀ i,i < n→(ws i).st w
def wdF (a:Option Addr) (n:Nat) (ws:Nat→WW):List Nat:=rdF a n++(List.range n).flatMap fun i=>(ws i).F
theorem wdF_at {a:Option Addr} {n i:Nat} {ws:Nat→WW} (hi:i < n):∀ g∈(ws i).F,g∈wdF a n ws:=fun g hg=>List.mem_append.2 (.inr (List.mem_flatMap.2 ⟨i,List.mem_range.2 hi,hg⟩))
theorem WW.up {x:WW} {T:List Nat} {w w':World} (u:Upd T w w') (hd:∀ g∈x.F,g∉T) (h:x.st w):x.st w':=by
 cases x with
 | nu z=>trivial
 | da A n c zs=>exact bv_up u h hd
theorem WW.lt {x:WW} {w:World} (h:x.st w):∀ g∈x.F,g < w.heap.size:=by
 cases x with
 | nu z=>intro g hg; cases hg
 | da A n c zs=>exact bv_lt h
def wdO (a:Option Addr) (n:Nat) (ws:Nat→WW):Asr:=⟨wdF a n ws,false,WdR a n ws,fun u hd h=>⟨(rdO anE a n ws).up u (fun g hg=>hd g (List.mem_append.2 (.inl hg))) h.r,fun i hi=>WW.up u (fun g hg=>hd g (wdF_at hi g hg)) (h.d i hi)⟩,fun h g hg=>by
 rcases List.mem_append.1 hg with hg | hg
 ·exact (rdO anE a n ws).lt h.r g hg
 ·obtain ⟨i,hi,hg⟩:=List.mem_flatMap.1 hg
  exact WW.lt (h.d i (List.mem_range.1 hi)) g hg⟩
theorem joinC {lo n c:Nat} {B:Option Addr} {xs:List (List UInt8)} {w:World} (h:strE.At lo B n c xs w) (hn:n≤1000000) (hJ:(Lib.join xs [32]).length≤1000000):Calls Tryd.prog 36 #[.slice B n c,.string ⟨#[32]⟩] w fun e w'=>e=.returned (.string ⟨(Lib.join xs [32]).toArray⟩)∧Since w w':=by
 have hlen:=h.1
 have hrow:rowsOf strE.c xs=xs.map fun x=>Value.string ⟨x.toArray⟩:=by
  clear hJ hlen h
  induction xs with
  | nil=>rfl
  | cons x r ih=>show strE.c x++rowsOf strE.c r=_; rw [ih]; rfl
 rw [hrow,List.length_map,show strE.k=1 from rfl,Nat.mul_one] at hlen
 rcases h.2 with ⟨hv,h0⟩ | ⟨g,cap,cur,hv,_,hb,hnc,_,hsz,htk⟩
 ·injection hv with e1 e2 e3
  subst e1 e2 e3
  have:xs=[]:=List.eq_nil_of_length_eq_zero (by omega)
  subst this
  refine (Go.Proofs.Any.strings_Join_none Tryd.lays156 Tryd.Builder_Extra_156 none 0 ⟨#[32]⟩ w).mono ?_
  rintro e w' ⟨rfl,rfl⟩
  exact ⟨rfl,Since.refl _⟩
 ·injection hv with e1 e2 e3
  subst e1 e3
  have hxl:(xs.map fun x=>(⟨x.toArray⟩:ByteArray)).length=n:=by rw [List.length_map]; omega
  have hmm:((xs.map fun x=>(⟨x.toArray⟩:ByteArray)).map (·.data.toList))=xs:=by
   rw [List.map_map]
   conv=>rhs; rw [← List.map_id xs]
   exact List.map_congr_left fun b _=>by simp
  have:=Go.Proofs.Any.strings_Join Tryd.lays156 Tryd.Builder_Extra_156 g 0 c (xs.map fun x=>⟨x.toArray⟩) ⟨#[32]⟩ w (fun j x hj=>?_) (Array.getElem?_eq_some_iff.1 hb).1 (by rw [hxl]; omega) (by rw [hxl]; exact hnc) (by rw [hmm]; show (Lib.join xs [32]).length≤_; omega)
  ·rw [hxl,hmm] at this
   exact this
  ·rw [hrow] at htk
   have hc:=Blk.cell (w:=w) (g:=g) hb (i:=0+j)
   rw [hc,Nat.zero_add]
   have hjl:j < n:=by have:=(List.getElem?_eq_some_iff.1 hj).1; omega
   have h2:(cur.toList.take (n*strE.k))[j]?=some (.string x):=by
    rw [htk,List.getElem?_map]
    rw [List.getElem?_map] at hj
    cases hx:xs[j]? with
    | none=>rw [hx] at hj; cases hj
    | some y=>rw [hx] at hj; injection hj with hj; subst hj; rfl
   rw [List.getElem?_take_of_lt (by show j < n*1; omega)] at h2
   simpa using h2
end Sp
namespace Sp
open Go.RowKit Ba Mem En Go.Proofs.YtjghelofdfolbaaDoor.Ty Gw
open Byt (BV isB)
open Co (Hold.ob)
open Sx Sw
open Go.Lib (itoa)
set_option maxRecDepth 100000
def wwL (n:Nat) (ws:Nat→WW):List (List UInt8):=(List.range n).map fun i=>(ws i).t
theorem wwL_len (n:Nat) (ws:Nat→WW):(wwL n ws).length=n:=by simp [wwL]
theorem wwL_next {n i:Nat} {ws:Nat→WW} (h:i < n):(wwL n ws).take (i+1)=(wwL n ws).take i++[(ws i).t]:=by
 have:(wwL n ws)[i]?=some (ws i).t:=by simp [wwL,h]
 rw [List.take_add_one,this]; rfl
theorem hold_wd {a:Option Addr} {n nt:Nat} {ws:Nat→WW} {w:World} (hg:GkS w) (h:WdR a n ws w):Hold ⟨Tryd.prog,tab,[],w,nt,[]⟩ [] [gkO,wdO a n ws] w :=
 Hold.addObj (hold_gk hg) (wdO a n ws) h (by intro h; cases h) (by intro r hr; cases hr) (by intro A hA hw; rw [List.mem_singleton] at hA; subst hA; rcases hw with h | h <;> cases h)
attribute [local irreducible] Go.Calls itoa hexI wwL n64
set_option maxHeartbeats 8000000 in
theorem lineP_ {a:Option Addr} {n c:Nat} {ws:Nat→WW} {w:World} (hg:GkS w) (h:WdR a n ws w) (hn:n≤100) (hok:∀ i,i < n→(ws i).ok) (hJ:(Lib.join (wwL n ws) [32]).length≤1000000):Calls Tryd.prog 22 #[.slice a n c] w fun e w'=>e=.returned (.string ⟨(Lib.join (wwL n ws) [32]++[10]).toArray⟩)∧Since w w':=by
 obtain ⟨g,off,hA⟩:=Ek.rd_addr h.r
 have hwl:=wwL_len n ws
 refine entH tab_ok (Hold.addObj (hold_wd hg h) (rwO strE w.heap.size none 0 0 [] true) (Ek.nil _ _ _) (by intro _ g hg; cases hg) (by intro r hr; cases hr) (by intro A hA _ g hg hg2; cases hg2)) [.v (.slice a n c)] Tryd.func22 Tryd.ntmps22 rfl rfl ?_
 repeat' ((conv=>whnf); first | refine sgo ⟨tab_ok⟩ ?_|refine br_not ?_|refine br_t rfl ?_|refine br_f rfl ?_|refine br_t (by assumption) ?_|refine br_f (by assumption) ?_|refine br_t (decide_eq_true (by assumption)) ?_|refine br_f (decide_eq_false (by assumption)) ?_|refine br_t (beq_iff_eq.2 (by assumption)) ?_|refine br_f (beq_eq_false_iff_ne.2 (by assumption)) ?_|refine drA ⟨tab_ok⟩ [] ?_|refine kpt ?_|refine br_t (decide_eq_true (by omega)) ?_|refine br_f (decide_eq_false (by omega)) ?_|refine fin_s ?_|refine fin_r ?_ ?_|refine fin_e ?_ ?_)
 conv=>whnf
 refine lp ⟨tab_ok⟩ (ι:={y:Nat×Option Addr×Nat×List (List UInt8) // y.1≤n∧y.2.2.2=(wwL n ws).take y.1}) (fun y=>match y with | ⟨(i,B,cb,out),_⟩=>⟨[(3,.v (.slice B out.length cb)),(8,.v (.slice a n c)),(9,.i .i64 (n:Int)),(10,.i .i64 (i:Int))],[],[gkO,wdO a n ws,rwO strE w.heap.size B out.length cb out true]⟩) (fun y=>n - y.1.1) ⟨(0,none,0,[]),Nat.zero_le _,rfl⟩ (wk ?_) ?_
 ·repeat' (first | exact trivial | rfl | ((conv=>whnf); refine And.intro ?_ ?_))
 rintro ⟨⟨i,B,cb,out⟩,hi0,ho0⟩
 have hi:i≤n:=hi0
 have ho:out=(wwL n ws).take i:=ho0
 have hol:out.length≤100:=by rw [ho,List.length_take]; omega
 by_cases hlt:i < n
 ·have hA:=hA (by omega)
  subst hA
  have hnx:=wwL_next (ws:=ws) hlt
  rw [← ho] at hnx
  have hoki:=hok i hlt
  rcases hwi:ws i with z | ⟨A1,n1,c1,zs1⟩
  ·rw [hwi] at hnx hoki
   have hz:n64 z:=hoki
   have hz2 : -9223372036854775808≤z∧z≤9223372036854775807:=by unfold n64 at hz; exact hz
   have hil:=ito_len hz
   repeat' ((conv=>whnf); first | refine sgo ⟨tab_ok⟩ ?_|refine br_not ?_|refine br_t rfl ?_|refine br_f rfl ?_|refine br_t (by assumption) ?_|refine br_f (by assumption) ?_|refine br_t (decide_eq_true (by assumption)) ?_|refine br_f (decide_eq_false (by assumption)) ?_|refine br_t (beq_iff_eq.2 (by assumption)) ?_|refine br_f (beq_eq_false_iff_ne.2 (by assumption)) ?_|refine drA ⟨tab_ok⟩ [] ?_|refine kpt ?_|refine br_t (decide_eq_true (by omega)) ?_|refine br_f (decide_eq_false (by omega)) ?_|refine wr_i ?_|refine opiv ⟨tab_ok⟩ (by rfl) (by rfl) (by rfl) (by rfl) (by rfl) (by rfl) ⟨by omega,by omega⟩ ?_|refine opxc (g:=g) (off:=off+i*1) (.v (.iface 3 (.int .i64 z))) (fun w1 hH=>by have h:=Ek.rd_rng (Hold.ob hH (A:=wdO (some ⟨g,off,none⟩) n ws) 1 rfl).r hlt; rw [hwi] at h; exact h) ⟨tab_ok⟩ (by rfl) (by rfl) (by first | (simp only [Go.WideShapes.add_plain]; done)|(simp only [Go.WideShapes.add_plain]; rfl)) ?_|refine opP (pvTa (aT:=3) (.t [.i .i64 z,.b true]) (by rfl) (by rfl) (fun w=>by kernel_rfl)) ?_|refine callH (f:=35) (tx (itoa z)) (fun w1 hH=>itoaC z hz2.1 hz2.2 w1 (Hold.ob hH (A:=gkO) 0 rfl).p) ?_|refine opbi (e:=9) ⟨tab_ok⟩ (tx (itoa z)) (by rfl) (by rfl) ?_|intro gb | refine opap 2 0 (e:=9) (lo:=w.heap.size) (size:=1) (bytes:=16) (z:=.string ByteArray.empty) (A:=rwO strE w.heap.size B out.length cb out true) (vals:=rowsOf strE.c out) (cells:=[.string ⟨(itoa z).toArray⟩]) (zs:=rowsOf strE.c (out++[itoa z])) (n2:=(out++[itoa z]).length) (fun A2 c2=>rwO strE w.heap.size A2 (out++[itoa z]).length c2 (out++[itoa z]) true) (by rfl) (by rfl) (by rfl) (by rfl) rfl rfl (fun w h=>h) (fun A' c' w h=>h) (fun _ _=>rfl) (by rfl) (by rfl) (by rfl) (by rfl) Tryd.underlying63 (by kernel_rfl) rfl (by decide) (by decide) (by intro u hu; simp at hu; rcases hu with rfl; rfl) (by omega) (fun w hH=>hH.upd.size) (by rw [List.length_append]; rfl) (by rw [rowsOf_append]; rfl) (fun A2 c2=>?_)|refine En.back ⟨(i+1,A2,c2,out++[itoa z]),by show i+1≤n; omega,hnx.symm⟩ (wkd ?_) ?_|refine fin_s ?_|refine fin_r ?_ ?_|refine fin_e ?_ ?_)
   all_goals first | (show n - (i+1) < n - i; omega)|skip
   all_goals (repeat' (first | exact trivial | rfl | ((conv=>whnf); refine And.intro ?_ ?_)))
  ·rw [hwi] at hnx hoki
   have hn1:n1≤400000:=hoki
   have hxl:(hexI zs1).length≤8388608:=by
    have h:=(h.d i hlt)
    rw [hwi] at h
    have:=h.1
    rw [hexI_len]; omega
   repeat' ((conv=>whnf); first | refine sgo ⟨tab_ok⟩ ?_|refine br_not ?_|refine br_t rfl ?_|refine br_f rfl ?_|refine br_t (by assumption) ?_|refine br_f (by assumption) ?_|refine br_t (decide_eq_true (by assumption)) ?_|refine br_f (decide_eq_false (by assumption)) ?_|refine br_t (beq_iff_eq.2 (by assumption)) ?_|refine br_f (beq_eq_false_iff_ne.2 (by assumption)) ?_|refine drA ⟨tab_ok⟩ [] ?_|refine kpt ?_|refine br_t (decide_eq_true (by omega)) ?_|refine br_f (decide_eq_false (by omega)) ?_|refine wr_i ?_|refine opiv ⟨tab_ok⟩ (by rfl) (by rfl) (by rfl) (by rfl) (by rfl) (by rfl) ⟨by omega,by omega⟩ ?_|refine opxc (g:=g) (off:=off+i*1) (.v (.iface 38 (.slice A1 n1 c1))) (fun w1 hH=>by have h:=Ek.rd_rng (Hold.ob hH (A:=wdO (some ⟨g,off,none⟩) n ws) 1 rfl).r hlt; rw [hwi] at h; exact h) ⟨tab_ok⟩ (by rfl) (by rfl) (by first | (simp only [Go.WideShapes.add_plain]; done)|(simp only [Go.WideShapes.add_plain]; rfl)) ?_|refine opP (pvTa (aT:=3) (.t [.i .i64 0,.b false]) (by rfl) (by rfl) (fun w=>by kernel_rfl)) ?_|refine opP (pvTa (aT:=38) (.t [.v (.slice A1 n1 c1),.b true]) (by rfl) (by rfl) (fun w=>by kernel_rfl)) ?_|refine callH (f:=18) (tx (hexI zs1)) (fun w1 hH=>by have h:=(Hold.ob hH (A:=wdO (some ⟨g,off,none⟩) n ws) 1 rfl).d i hlt; rw [hwi] at h; exact hexP h hn1) ?_|refine opP (pvCat (xs:=[120]) (ys:=hexI zs1) (by rfl) (by rfl) (by rfl) ⟨by show 0+1≤8388608; omega,hxl⟩) ?_|refine opbi (e:=9) ⟨tab_ok⟩ (tx ([(120:UInt8)]++hexI zs1)) (by rfl) (by rfl) ?_|intro gb | refine opap 2 0 (e:=9) (lo:=w.heap.size) (size:=1) (bytes:=16) (z:=.string ByteArray.empty) (A:=rwO strE w.heap.size B out.length cb out true) (vals:=rowsOf strE.c out) (cells:=[.string ⟨([(120:UInt8)]++hexI zs1).toArray⟩]) (zs:=rowsOf strE.c (out++[[(120:UInt8)]++hexI zs1])) (n2:=(out++[[(120:UInt8)]++hexI zs1]).length) (fun A2 c2=>rwO strE w.heap.size A2 (out++[[(120:UInt8)]++hexI zs1]).length c2 (out++[[(120:UInt8)]++hexI zs1]) true) (by rfl) (by rfl) (by rfl) (by rfl) rfl rfl (fun w h=>h) (fun A' c' w h=>h) (fun _ _=>rfl) (by rfl) (by rfl) (by rfl) (by rfl) Tryd.underlying63 (by kernel_rfl) rfl (by decide) (by decide) (by intro u hu; simp at hu; rcases hu with rfl; rfl) (by omega) (fun w hH=>hH.upd.size) (by rw [List.length_append]; rfl) (by rw [rowsOf_append]; rfl) (fun A2 c2=>?_)|refine En.back ⟨(i+1,A2,c2,out++[[(120:UInt8)]++hexI zs1]),by show i+1≤n; omega,hnx.symm⟩ (wkd ?_) ?_|refine fin_s ?_|refine fin_r ?_ ?_|refine fin_e ?_ ?_)
   all_goals first | (show n - (i+1) < n - i; omega)|skip
   all_goals (repeat' (first | exact trivial | rfl | ((conv=>whnf); refine And.intro ?_ ?_)))
 ·have e0:i=n:=by omega
  have e1:out=wwL n ws:=by
   rw [ho,e0]
   have:=List.take_length (l:=wwL n ws)
   rw [hwl] at this
   exact this
  have hJ2:(Lib.join out [32]).length≤1000000:=by rw [e1]; exact hJ
  repeat' ((conv=>whnf); first | refine sgo ⟨tab_ok⟩ ?_|refine br_not ?_|refine br_t rfl ?_|refine br_f rfl ?_|refine br_t (by assumption) ?_|refine br_f (by assumption) ?_|refine br_t (decide_eq_true (by assumption)) ?_|refine br_f (decide_eq_false (by assumption)) ?_|refine br_t (beq_iff_eq.2 (by assumption)) ?_|refine br_f (beq_eq_false_iff_ne.2 (by assumption)) ?_|refine drA ⟨tab_ok⟩ [] ?_|refine kpt ?_|refine br_t (decide_eq_true (by omega)) ?_|refine br_f (decide_eq_false (by omega)) ?_|refine callH (f:=36) (tx (Lib.join out [32])) (fun w1 hH=>joinC (Hold.ob hH (A:=rwO strE w.heap.size B out.length cb out true) 2 rfl) (by omega) hJ2) ?_|refine opP (pvCat (xs:=Lib.join out [32]) (ys:=[10]) (by rfl) (by rfl) (by rfl) ⟨by omega,by show 0+1≤8388608; omega⟩) ?_|refine fin_s ?_|refine fin_r ?_ ?_|refine fin_e ?_ ?_)
  all_goals (rw [e1]; rfl)
end Sp
namespace Sp
open Go.RowKit Ba Mem En Go.Proofs.YtjghelofdfolbaaDoor.Ty Gw
open Byt (BV isB)
open Co (Hold.ob)
open Sx Sw
open Go.Lib (itoa)
set_option maxRecDepth 100000
theorem rd_at {α:Type} [Inhabited α] {E:Ek α} {lo g n c:Nat} {ls:List α} {w:World} (h:E.At lo (some ⟨g,0,none⟩) n c ls w) (hl:ls.length=n) (hlt:n≠0→g < w.heap.size):E.Rd (some ⟨g,0,none⟩) n (fun i=>ls.getD i default) w:=by
 rcases Nat.eq_zero_or_pos n with h0 | h0
 ·exact .inl h0
 ·refine .inr ⟨g,0,rfl,hlt (by omega),fun i hi j v hj=>?_⟩
  obtain ⟨x,hx⟩:∃ x,ls[i]?=some x:=⟨_,List.getElem?_eq_getElem (by omega)⟩
  have hd:ls.getD i default=x:=by rw [List.getD_eq_getElem?_getD,hx]; rfl
  have hj:(E.c (ls.getD i default))[j]?=some v:=hj
  rw [hd] at hj
  exact Ek.rng h hx j v hj
def stW (k a b:Int) (A:Option Addr) (n c:Nat) (zs:List Int):List WW:=[.nu k,.nu a,.nu b,.da A n c zs]
theorem stW_text (k a b:Int) (A:Option Addr) (n c:Nat) (zs:List Int):Lib.join (wwL 4 (fun i=>(stW k a b A n c zs).getD i default)) [32]++[10]=lineL k a b zs:=by
 have e:wwL 4 (fun i=>(stW k a b A n c zs).getD i default)=[itoa k,itoa a,itoa b,120::hexI zs]:=rfl
 rw [e,lineL_is]
 congr 1
 exact join_line ⟨k,a,b,zs.map Int.toNat⟩
theorem lineS {k a b:Int} {A:Option Addr} {n c g:Nat} {lo:Nat} {zs:List Int} {w:World} (hg:GkS w) (h:anE.At lo (some ⟨g,0,none⟩) 4 4 (stW k a b A n c zs) w) (hb:BV w A n zs) (hk:n64 k) (ha:n64 a) (hb2:n64 b) (hn:n≤400000):Calls Tryd.prog 22 #[.slice (some ⟨g,0,none⟩) 4 4] w fun e w'=>e=.returned (.string ⟨(lineL k a b zs).toArray⟩)∧Since w w':=by
 have hlt:g < w.heap.size:=own_lt h g (List.mem_singleton.2 rfl)
 have hR:=rd_at h rfl (fun _=>hlt)
 have:=lineP_ (ws:=fun i=>(stW k a b A n c zs).getD i default) (c:=4) hg ⟨hR,fun i hi=>?_⟩ (by decide) (fun i hi=>?_) ?_
 ·rw [stW_text] at this
  exact this
 ·rcases (by omega:i=0∨i=1∨i=2∨i=3) with rfl | rfl | rfl | rfl
  ·trivial
  ·trivial
  ·trivial
  ·exact hb
 ·rcases (by omega:i=0∨i=1∨i=2∨i=3) with rfl | rfl | rfl | rfl
  ·exact hk
  ·exact ha
  ·exact hb2
  ·exact hn
 ·have h1:=stW_text k a b A n c zs
  have h2:=lineL_len (zs:=zs) hk ha hb2
  rw [← h1,List.length_append] at h2
  have:=hb.1
  simp only [List.length_cons,List.length_nil] at h2
  omega
attribute [local irreducible] Go.Calls lineL printL n64
theorem hold_bs {A:Option Addr} {n nt:Nat} {ss:Nat→StepD} {w:World} (hg:GkS w) (h:StR A n ss w):Hold ⟨Tryd.prog,tab,[],w,nt,[]⟩ [] [bdO gkO w.heap.size,bdO (stO A n ss) w.heap.size] w :=
 Hold.addObj (Hold.addObj (Hold.nil _ tab [] _ w) (bdO gkO w.heap.size) ⟨hg,hg.lt⟩ (by intro k; cases k) (by intro r hr; cases hr) (by intro A hA; cases hA)) (bdO (stO A n ss) w.heap.size) ⟨h,(stO A n ss).lt h⟩ (by intro h; cases h) (by intro r hr; cases hr) (by intro A hA hw; have hA:A∈[bdO gkO w.heap.size]:=hA; rw [List.mem_singleton] at hA; subst hA; rcases hw with h | h <;> cases h)
set_option maxHeartbeats 8000000 in
theorem printP_ {A:Option Addr} {n c:Nat} {ss:Nat→StepD} {w:World} (hg:GkS w) (h:StR A n ss w) (hs:∀ i,i < n→StB (ss i)) (hs2:∀ i,i < n→(ss i).n≤400000) (hn:n≤1000000) (hL:(printL (stL n ss)).length≤900000):Calls Tryd.prog 9 #[.slice A n c] w fun e w'=>e=.returned (.string ⟨(printL (stL n ss)).toArray⟩)∧Since w w':=by
 obtain ⟨g,off,hA⟩:=Ek.rd_addr h.r
 have hl:=stL_len n ss
 refine entH tab_ok (hold_bs hg h) [.v (.slice A n c)] Tryd.func9 Tryd.ntmps9 rfl rfl ?_
 repeat' ((conv=>whnf); first | refine sgo ⟨tab_ok⟩ ?_|refine br_not ?_|refine br_t rfl ?_|refine br_f rfl ?_|refine br_t (by assumption) ?_|refine br_f (by assumption) ?_|refine br_t (decide_eq_true (by assumption)) ?_|refine br_f (decide_eq_false (by assumption)) ?_|refine br_t (beq_iff_eq.2 (by assumption)) ?_|refine br_f (beq_eq_false_iff_ne.2 (by assumption)) ?_|refine drA ⟨tab_ok⟩ [] ?_|refine kpt ?_|refine br_t (decide_eq_true (by omega)) ?_|refine br_f (decide_eq_false (by omega)) ?_|refine fin_s ?_|refine fin_r ?_ ?_|refine fin_e ?_ ?_)
 conv=>whnf
 intro b0
 repeat' ((conv=>whnf); first | refine sgo ⟨tab_ok⟩ ?_|refine br_not ?_|refine br_t rfl ?_|refine br_f rfl ?_|refine br_t (by assumption) ?_|refine br_f (by assumption) ?_|refine br_t (decide_eq_true (by assumption)) ?_|refine br_f (decide_eq_false (by assumption)) ?_|refine br_t (beq_iff_eq.2 (by assumption)) ?_|refine br_f (beq_eq_false_iff_ne.2 (by assumption)) ?_|refine drA ⟨tab_ok⟩ [] ?_|refine kpt ?_|refine br_t (decide_eq_true (by omega)) ?_|refine br_f (decide_eq_false (by omega)) ?_|refine fin_s ?_|refine fin_r ?_ ?_|refine fin_e ?_ ?_)
 conv=>whnf
 refine lp ⟨tab_ok⟩ (ι:={y:Nat×List UInt8×Option Addr // y.1≤n∧y.2.1=printL ((stL n ss).take y.1)}) (fun y=>match y with | ⟨(i,x,B),_⟩=>⟨[(3,.p 0 0),(6,.v (.slice A n c)),(7,.i .i64 (n:Int)),(8,.i .i64 (i:Int))],[⟨b0,46,false,0,[],[.v (.pointer none),.v (.slice none 0 0)],[],true⟩],[bdO gkO w.heap.size,bdO (stO A n ss) w.heap.size,bldO w.heap.size b0 B x true]⟩) (fun y=>n - y.1.1) ⟨(0,[],none),Nat.zero_le _,by simp [printL]⟩ (wkX 0 (bldO w.heap.size b0 none [] true) (by rfl) (by rfl) (by rfl) (fun w1 hg hb1=>bld_0 (own_hg hg) hb1) (wk ?_)) ?_
 ·repeat' (first | exact trivial | rfl | ((conv=>whnf); refine And.intro ?_ ?_))
 rintro ⟨⟨i,x,B⟩,hi0,hx0⟩
 have hi:i≤n:=hi0
 have hx:x=printL ((stL n ss).take i):=hx0
 by_cases hlt:i < n
 ·have hA:=hA (by omega)
  subst hA
  have hb:=hs i hlt
  have hb2:=hs2 i hlt
  have hnx:=print_next (stL_at (ss:=ss) hlt)
  rw [← hx] at hnx
  have h1:=print_len (stL n ss) i
  have h2:=print_len (stL n ss) (i+1)
  rw [← hx] at h1
  rw [hnx,List.length_append] at h2
  repeat' ((conv=>whnf); first | refine sgo ⟨tab_ok⟩ ?_|refine br_not ?_|refine br_t rfl ?_|refine br_f rfl ?_|refine br_t (by assumption) ?_|refine br_f (by assumption) ?_|refine br_t (decide_eq_true (by assumption)) ?_|refine br_f (decide_eq_false (by assumption)) ?_|refine br_t (beq_iff_eq.2 (by assumption)) ?_|refine br_f (beq_eq_false_iff_ne.2 (by assumption)) ?_|refine drA ⟨tab_ok⟩ [] ?_|refine kpt ?_|refine br_t (decide_eq_true (by omega)) ?_|refine br_f (decide_eq_false (by omega)) ?_|refine wr_i ?_|refine opiv ⟨tab_ok⟩ (by rfl) (by rfl) (by rfl) (by rfl) (by rfl) (by rfl) ⟨by omega,by omega⟩ ?_|refine opix (g:=g) (off:=off+i*4) [.i .i64 (ss i).k,.i .i64 (ss i).a,.i .i64 (ss i).b,.v (.slice (ss i).A (ss i).n (ss i).c)] (fun w1 hH=>Ek.rd_rng (Hold.ob hH (A:=bdO (stO (some ⟨g,off,none⟩) n ss) w.heap.size) 1 rfl).1.r hlt) ⟨tab_ok⟩ (by rfl) (by rfl) (by first | (simp only [Go.WideShapes.add_plain]; done)|(simp only [Go.WideShapes.add_plain]; rfl)) ?_|refine fin_s ?_|refine fin_r ?_ ?_|refine fin_e ?_ ?_)
  conv=>whnf
  intro b1
  repeat' ((conv=>whnf); first | refine sgo ⟨tab_ok⟩ ?_|refine br_not ?_|refine br_t rfl ?_|refine br_f rfl ?_|refine br_t (by assumption) ?_|refine br_f (by assumption) ?_|refine br_t (decide_eq_true (by assumption)) ?_|refine br_f (decide_eq_false (by assumption)) ?_|refine br_t (beq_iff_eq.2 (by assumption)) ?_|refine br_f (beq_eq_false_iff_ne.2 (by assumption)) ?_|refine drA ⟨tab_ok⟩ [] ?_|refine kpt ?_|refine br_t (decide_eq_true (by omega)) ?_|refine br_f (decide_eq_false (by omega)) ?_|refine wr_i ?_|refine opP (pvMk (by rfl) (by rfl) (by kernel_rfl)) ?_|refine opbo ⟨tab_ok⟩ anE (stW (ss i).k (ss i).a (ss i).b (ss i).A (ss i).n (ss i).c (ss i).d) [.tmp 14,.tmp 17,.tmp 20,.tmp 23] [.v (.iface 3 (.int .i64 (ss i).k)),.v (.iface 3 (.int .i64 (ss i).a)),.v (.iface 3 (.int .i64 (ss i).b)),.v (.iface 38 (.slice (ss i).A (ss i).n (ss i).c))] (by rfl) (by rfl) (by rfl) (by rfl) rfl (fun g0=>?_)|refine callH (f:=22) (tx (lineL (ss i).k (ss i).a (ss i).b (ss i).d)) (fun w1 hH=>lineS (Hold.ob hH (A:=bdO gkO w.heap.size) 0 rfl).1 (Hold.ob hH (A:=rwO anE w.heap.size (some ⟨g0,0,none⟩) 4 4 (stW (ss i).k (ss i).a (ss i).b (ss i).A (ss i).n (ss i).c (ss i).d) true) 3 rfl) ((Hold.ob hH (A:=bdO (stO (some ⟨g,off,none⟩) n ss) w.heap.size) 1 rfl).1.d i hlt) hb.k hb.a hb.b hb2) ?_|refine wrtX 2 b0 (A:=B) (bs:=x) (l:=lineL (ss i).k (ss i).a (ss i).b (ss i).d) (by rfl) rfl (by rfl) (by rfl) (by omega) (by rfl) ⟨off_bd _,off_bd _,by intro C hC; rw [List.mem_singleton] at hC; subst hC; exact rw_k (by decide)⟩ (fun B1=>?_)|refine En.back ⟨(i+1,x++lineL (ss i).k (ss i).a (ss i).b (ss i).d,B1),by show i+1≤n; omega,hnx.symm⟩ (wkd ?_) ?_|refine fin_s ?_|refine fin_r ?_ ?_|refine fin_e ?_ ?_)
  all_goals first | (show n - (i+1) < n - i; omega)|skip
  all_goals (repeat' (first | exact trivial | rfl | ((conv=>whnf); refine And.intro ?_ ?_)))
 ·have e0:i=n:=by omega
  have e1:x=printL (stL n ss):=by
   rw [hx,e0]
   have:=List.take_length (l:=stL n ss)
   rw [hl] at this
   rw [this]
  repeat' ((conv=>whnf); first | refine sgo ⟨tab_ok⟩ ?_|refine br_not ?_|refine br_t rfl ?_|refine br_f rfl ?_|refine br_t (by assumption) ?_|refine br_f (by assumption) ?_|refine br_t (decide_eq_true (by assumption)) ?_|refine br_f (decide_eq_false (by assumption)) ?_|refine br_t (beq_iff_eq.2 (by assumption)) ?_|refine br_f (beq_eq_false_iff_ne.2 (by assumption)) ?_|refine drA ⟨tab_ok⟩ [] ?_|refine kpt ?_|refine br_t (decide_eq_true (by omega)) ?_|refine br_f (decide_eq_false (by omega)) ?_|refine stgX 2 b0 (A:=B) (bs:=x) (by rfl) rfl (by rfl) (by rfl) (by rfl) ⟨off_bd _,off_bd _,by intro C hC; cases hC⟩ (fun B1=>?_)|refine fin_s ?_|refine fin_r ?_ ?_|refine fin_e ?_ ?_)
  all_goals (rw [e1]; rfl)
end Sp
namespace Sp
open Go.RowKit Ba Mem En Go.Proofs.YtjghelofdfolbaaDoor.Ty Gw
open Co (Hold.ob)
open Sx Sw
open Go.Lib (itoa)
set_option maxRecDepth 100000
theorem wwL_nums:∀ (n:Nat) (l:List Int),l.length=n→wwL n (fun i=>(l.map WW.nu).getD i default)=l.map itoa:=fun n l h=>by
 subst h
 unfold wwL
 refine List.ext_getElem (by simp) fun i h1 h2=>?_
 have hi:i < l.length:=by simpa using h1
 simp only [List.getElem_map,List.getElem_range]
 rw [List.getD_eq_getElem?_getD,List.getElem?_map,List.getElem?_eq_getElem hi]
 rfl
theorem lineN {l:List Int} {g lo:Nat} {w:World} (hg:GkS w) (hl:l.length=18) (h:anE.At lo (some ⟨g,0,none⟩) 18 18 (l.map WW.nu) w) (hn:∀ n∈l,n64 n):Calls Tryd.prog 22 #[.slice (some ⟨g,0,none⟩) 18 18] w fun e w'=>e=.returned (.string ⟨(setL l).toArray⟩)∧Since w w':=by
 have hlt:g < w.heap.size:=own_lt h g (List.mem_singleton.2 rfl)
 have hR:=rd_at h (by rw [List.length_map,hl]) (fun _=>hlt)
 have hw:∀ i,i < 18→∃ n,l[i]?=some n∧(l.map WW.nu).getD i default=WW.nu n:=fun i hi=>by
  obtain ⟨n,hn⟩:∃ n,l[i]?=some n:=⟨_,List.getElem?_eq_getElem (by omega)⟩
  refine ⟨n,hn, ?_⟩
  rw [List.getD_eq_getElem?_getD,List.getElem?_map,hn]; rfl
 have hj:Lib.join (wwL 18 (fun i=>(l.map WW.nu).getD i default)) [32]=numsL l:=by rw [wwL_nums 18 l hl,join_nums]
 have:=lineP_ (ws:=fun i=>(l.map WW.nu).getD i default) (c:=18) hg ⟨hR,fun i hi=>?_⟩ (by decide) (fun i hi=>?_) ?_
 ·rw [hj] at this
  exact this
 ·obtain ⟨n,_,e⟩:=hw i hi
  show WW.st ((l.map WW.nu).getD i default) w
  rw [e]; trivial
 ·obtain ⟨n,h1,e⟩:=hw i hi
  show WW.ok ((l.map WW.nu).getD i default)
  rw [e]
  exact hn n (List.mem_of_getElem? h1)
 ·rw [hj]
  have:=nums_len hn
  rw [hl] at this
  omega
theorem pvMkE {X:Cx} {s:St} {o:Oper} {t:TypeId} {x:Operand} {v:SV} {v':Value} (ho:o.op=.makeInterface t x) (hx:evO x s.fr=some v) (hc:X.P.concrete t=true) (hv:den s.m v=v'):PV X o s (.v (.iface t v')):=by
 have:=pvMk (X:=X) (s:=s) ho hx hc
 rw [hv] at this
 exact this
attribute [local irreducible] Go.Calls setL n64
set_option maxHeartbeats 8000000 in
theorem settingP (c:CfgV) (hc:∀ n∈cfgI c,n64 n) {w:World} (hg:GkS w):Calls Tryd.prog 14 #[.agg #[.int .i64 c.ca,.int .i64 c.fl,.int .i64 c.ft,.int .i64 c.se,.int .i64 c.dr,.int .i64 c.dw,.int .i64 c.ho,.int .i64 c.re,.int .i64 c.yi,.int .i64 c.qu,.int .i64 c.qo,.int .i64 c.lo,.int .i64 c.sl,.int .i64 c.rt,.int .i64 c.cp,.int .i64 c.tr,.int .i64 c.de,.int .i64 c.wi]] w fun e w'=>e=.returned (.string ⟨(setL (cfgI c)).toArray⟩)∧Since w w':=by
 refine entH tab_ok (hold_gk hg) [.a [.i .i64 c.ca,.i .i64 c.fl,.i .i64 c.ft,.i .i64 c.se,.i .i64 c.dr,.i .i64 c.dw,.i .i64 c.ho,.i .i64 c.re,.i .i64 c.yi,.i .i64 c.qu,.i .i64 c.qo,.i .i64 c.lo,.i .i64 c.sl,.i .i64 c.rt,.i .i64 c.cp,.i .i64 c.tr,.i .i64 c.de,.i .i64 c.wi]] Tryd.func14 Tryd.ntmps14 rfl rfl ?_
 repeat' ((conv=>whnf); first | refine sgo ⟨tab_ok⟩ ?_|refine br_not ?_|refine br_t rfl ?_|refine br_f rfl ?_|refine br_t (by assumption) ?_|refine br_f (by assumption) ?_|refine br_t (decide_eq_true (by assumption)) ?_|refine br_f (decide_eq_false (by assumption)) ?_|refine br_t (beq_iff_eq.2 (by assumption)) ?_|refine br_f (beq_eq_false_iff_ne.2 (by assumption)) ?_|refine drA ⟨tab_ok⟩ [] ?_|refine kpt ?_|refine br_t (decide_eq_true (by omega)) ?_|refine br_f (decide_eq_false (by omega)) ?_|refine fin_s ?_|refine fin_r ?_ ?_|refine fin_e ?_ ?_)
 conv=>whnf
 intro b0
 repeat' ((conv=>whnf); first | refine sgo ⟨tab_ok⟩ ?_|refine br_not ?_|refine br_t rfl ?_|refine br_f rfl ?_|refine br_t (by assumption) ?_|refine br_f (by assumption) ?_|refine br_t (decide_eq_true (by assumption)) ?_|refine br_f (decide_eq_false (by assumption)) ?_|refine br_t (beq_iff_eq.2 (by assumption)) ?_|refine br_f (beq_eq_false_iff_ne.2 (by assumption)) ?_|refine drA ⟨tab_ok⟩ [] ?_|refine kpt ?_|refine br_t (decide_eq_true (by omega)) ?_|refine br_f (decide_eq_false (by omega)) ?_|refine opP (pvMkE (v':=.int .i64 _) (by rfl) (by rfl) (by kernel_rfl) (by rfl)) ?_|refine opbo ⟨tab_ok⟩ anE ((cfgI c).map WW.nu) [.tmp 5,.tmp 8,.tmp 11,.tmp 14,.tmp 17,.tmp 20,.tmp 23,.tmp 26,.tmp 29,.tmp 32,.tmp 35,.tmp 38,.tmp 41,.tmp 44,.tmp 47,.tmp 50,.tmp 53,.tmp 56] [.v (.iface 3 (.int .i64 c.ca)),.v (.iface 3 (.int .i64 c.fl)),.v (.iface 3 (.int .i64 c.ft)),.v (.iface 3 (.int .i64 c.se)),.v (.iface 3 (.int .i64 c.dr)),.v (.iface 3 (.int .i64 c.dw)),.v (.iface 3 (.int .i64 c.ho)),.v (.iface 3 (.int .i64 c.re)),.v (.iface 3 (.int .i64 c.yi)),.v (.iface 3 (.int .i64 c.qu)),.v (.iface 3 (.int .i64 c.qo)),.v (.iface 3 (.int .i64 c.lo)),.v (.iface 3 (.int .i64 c.sl)),.v (.iface 3 (.int .i64 c.rt)),.v (.iface 3 (.int .i64 c.cp)),.v (.iface 3 (.int .i64 c.tr)),.v (.iface 3 (.int .i64 c.de)),.v (.iface 3 (.int .i64 c.wi))] (by rfl) (by rfl) (by rfl) (by rfl) rfl (fun g0=>?_)|refine callH (f:=22) (tx (setL (cfgI c))) (fun w1 hH=>lineN (Hold.ob hH (A:=gkO) 0 rfl) rfl (Hold.ob hH (A:=rwO anE w.heap.size (some ⟨g0,0,none⟩) 18 18 ((cfgI c).map WW.nu) true) 1 rfl) hc) ?_|refine fin_s ?_|refine fin_r ?_ ?_|refine fin_e ?_ ?_)
 all_goals rfl
end Sp
namespace Sp
open Go.RowKit Ba Mem En Go.Proofs.YtjghelofdfolbaaDoor.Ty Gw
open Co (Hold.ob)
open Sx Sw
set_option maxRecDepth 100000
def plV (b:Nat) (x:Bool×Nat):Value:=match x.1 with
 | true=>.iface 57 (.pointer (some ⟨b,x.2,none⟩))
 | false=>.iface 58 (.pointer (some ⟨b,x.2,none⟩))
def plE (b:Nat):Ek (Bool×Nat):=⟨20,1,fun x=>[plV b x],fun _=>rfl,fun a u hu=>by
 rw [List.mem_singleton] at hu; subst hu; obtain ⟨k,i⟩:=a; cases k <;> rfl⟩
def pl18:List (Bool×Nat):=[(true,0),(true,1),(true,2),(true,3),(true,4),(true,5),(true,6),(true,7),(true,8),(true,9),(true,10),(true,11),(true,12),(true,13),(true,14),(true,15),(true,16),(true,17)]
attribute [local irreducible] Go.Calls
set_option maxHeartbeats 4000000 in
theorem placesP (b:Nat) (w:World):Calls Tryd.prog 27 #[.pointer (some ⟨b,0,none⟩)] w fun e w'=>∃ g:Nat,e=.returned (.slice (some ⟨g,0,none⟩) 18 18)∧(plE b).At w.heap.size (some ⟨g,0,none⟩) 18 18 pl18 w'∧Since w w':=by
 refine ent tab_ok [.v (.pointer (some ⟨b,0,none⟩))] Tryd.func27 Tryd.ntmps27 rfl rfl ?_
 repeat' ((conv=>whnf); first | refine sgo ⟨tab_ok⟩ ?_|refine br_not ?_|refine br_t rfl ?_|refine br_f rfl ?_|refine br_t (by assumption) ?_|refine br_f (by assumption) ?_|refine br_t (decide_eq_true (by assumption)) ?_|refine br_f (decide_eq_false (by assumption)) ?_|refine br_t (beq_iff_eq.2 (by assumption)) ?_|refine br_f (beq_eq_false_iff_ne.2 (by assumption)) ?_|refine drA (id:=1) ⟨tab_ok⟩ [72] ?_|refine drA ⟨tab_ok⟩ [] ?_|refine kpt ?_|refine br_t (decide_eq_true (by omega)) ?_|refine br_f (decide_eq_false (by omega)) ?_|refine punv (by rfl) (by rfl) ?_|refine pufv ⟨tab_ok⟩ (by rfl) (by rfl) (by rfl) (by rfl) ?_|refine puP (pvMkE (v':=.pointer (some ⟨b,_,none⟩)) (by rfl) (by rfl) (by kernel_rfl) (by simp only [Go.WideShapes.add_plain,den]; rfl)) ?_|refine opbo ⟨tab_ok⟩ (plE b) pl18 [.tmp 6,.tmp 10,.tmp 14,.tmp 18,.tmp 22,.tmp 26,.tmp 30,.tmp 34,.tmp 38,.tmp 42,.tmp 46,.tmp 50,.tmp 54,.tmp 58,.tmp 62,.tmp 66,.tmp 70,.tmp 74] [.v (.iface 57 (.pointer (some ⟨b,0,none⟩))),.v (.iface 57 (.pointer (some ⟨b,1,none⟩))),.v (.iface 57 (.pointer (some ⟨b,2,none⟩))),.v (.iface 57 (.pointer (some ⟨b,3,none⟩))),.v (.iface 57 (.pointer (some ⟨b,4,none⟩))),.v (.iface 57 (.pointer (some ⟨b,5,none⟩))),.v (.iface 57 (.pointer (some ⟨b,6,none⟩))),.v (.iface 57 (.pointer (some ⟨b,7,none⟩))),.v (.iface 57 (.pointer (some ⟨b,8,none⟩))),.v (.iface 57 (.pointer (some ⟨b,9,none⟩))),.v (.iface 57 (.pointer (some ⟨b,10,none⟩))),.v (.iface 57 (.pointer (some ⟨b,11,none⟩))),.v (.iface 57 (.pointer (some ⟨b,12,none⟩))),.v (.iface 57 (.pointer (some ⟨b,13,none⟩))),.v (.iface 57 (.pointer (some ⟨b,14,none⟩))),.v (.iface 57 (.pointer (some ⟨b,15,none⟩))),.v (.iface 57 (.pointer (some ⟨b,16,none⟩))),.v (.iface 57 (.pointer (some ⟨b,17,none⟩)))] (by rfl) (by rfl) (by rfl) (by rfl) rfl (fun g=>?_)|refine fin fun w' hH=>⟨g,rfl,Hold.ob hH (A:=rwO (plE b) w.heap.size (some ⟨g,0,none⟩) 18 18 pl18 true) 0 rfl,hH.upd.since⟩|refine fin_s ?_|refine fin_r ?_ ?_|refine fin_e ?_ ?_)
end Sp
end Go.Proofs.YtjghelofdfolbaaDoor
