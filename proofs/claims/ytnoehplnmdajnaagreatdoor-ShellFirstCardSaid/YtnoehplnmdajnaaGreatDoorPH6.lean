/-
  Wanted: part 6.
  No condition.
-/
import Derived.Test.YtnoehplnmdajnaaGreatDoorPH5
import Derived.Stop.IfaceNil
import Derived.Laws.OwnMore
import Derived.Test.YtnoehplnmdajnaaGreatDoorPH4
import Derived.Test.YtnoehplnmdajnaaGreatDoorRows
import Derived.Test.YtnoehplnmdajnaaGreatDoorPH1
import Derived.Deep.Slices
import Derived.ChangeSlices
import Derived.SizedLaws
import Derived.DataShut
set_option linter.all false
namespace Go.Proofs.YtnoehplnmdajnaaGreatDoor
namespace Sp
open Go.RowKit Ba Mem En Go.Proofs.YtnoehplnmdajnaaGreatDoor.Ty Gw
open Co (Hold.ob)
open Sx Sw
open Go.Lib (itoa)
set_option maxRecDepth 100000
def nuP (w:World) (y:Option Int) (e:Ending) (w':World):Prop:=∃ v:Int,e=.returned (.tuple #[.int .i64 v,.bool y.isSome])∧(∀ n,y=some n→v=n)∧Since w w'
theorem nu_no {w w':World} {e:Ending} {y:Option Int} {v:Int} (hy:y=none) (he:e=.returned (.tuple #[.int .i64 v,.bool false])) (hs:Since w w'):nuP w y e w':=by
 subst hy
 exact ⟨v,he,(fun n h=>by cases h),hs⟩
theorem nu_yes {w w':World} {e:Ending} {y:Option Int} {v:Int} (hy:y=some v) (he:e=.returned (.tuple #[.int .i64 v,.bool true])) (hs:Since w w'):nuP w y e w':=by
 subst hy
 exact ⟨v,he,(fun n h=>by injection h),hs⟩
theorem pvN0 {X:Cx} {s:St} {o:Oper} {t u:TypeId} {x:Operand} (ho:o.op=.binOp .eql t x (.const .nilIface) u) (hx:evO x s.fr=some (.v .nilIface)) (ht:X.P.isIface t=true):PV X o s (.b true):=⟨rfl,fun a hf w=>by
 have e1:=(evO_of hf hx).2
 unfold execOp
 simp only [ho,e1,den]
 simp [eqGuard,Act.eval,run_eql_nil_nil_at (P:=X.P) (w:=w) t ht,Result.andThen]⟩
theorem pvN1 {X:Cx} {s:St} {o:Oper} {t u v:TypeId} {x:Operand} {y:Value} (ho:o.op=.binOp .eql t x (.const .nilIface) u) (hx:evO x s.fr=some (.v (.iface v y))) (ht:X.P.isIface t=true):PV X o s (.b false):=⟨rfl,fun a hf w=>by
 have e1:=(evO_of hf hx).2
 unfold execOp
 simp only [ho,e1,den]
 simp [eqGuard,Act.eval,run_eql_iface_nil (P:=X.P) (w:=w) t ht,Result.andThen]⟩
attribute [local irreducible] Go.Calls itoa
set_option maxHeartbeats 4000000 in
theorem numberP (s:List UInt8) (hl:s.length≤1000000) {w:World} (hg:GkS w):Calls Tryz.prog 44 #[.string ⟨s.toArray⟩] w (nuP w (numV s)):=by
 by_cases hok:∃ n,Lib.atoiAll s=.ok n
 ·obtain ⟨n,hn⟩:=hok
  have hb:=atoi_bd hn
  have hil:=Lib.itoa_length_le n hb.1 hb.2
  have hv:numV s=if itoa n=s then some n else none:=by unfold numV; rw [hn]
  have heq:=tl_eq (itoa n) s
  by_cases he:itoa n=s
  ·have hyes:numV s=some n:=by rw [hv,if_pos he]
   have hq:=heq.trans (decide_eq_true he)
   refine entH tab_ok (hold_gk hg) [tx s] Tryz.func44 Tryz.ntmps44 rfl rfl ?_
   repeat' ((conv=>whnf); first | refine sgo ⟨tab_ok⟩ ?_|refine br_not ?_|refine br_t rfl ?_|refine br_f rfl ?_|refine br_t (by assumption) ?_|refine br_f (by assumption) ?_|refine br_t (decide_eq_true (by assumption)) ?_|refine br_f (decide_eq_false (by assumption)) ?_|refine br_t (beq_iff_eq.2 (by assumption)) ?_|refine br_f (beq_eq_false_iff_ne.2 (by assumption)) ?_|refine drA ⟨tab_ok⟩ [] ?_|refine kpt ?_|refine br_t (decide_eq_true (by omega)) ?_|refine br_f (decide_eq_false (by omega)) ?_|refine opP (pvN0 (by rfl) (by rfl) (by kernel_rfl)) ?_|refine callS (f:=66) (.t [.i .i64 n,.v .nilIface]) (fun w=>atoiY hl hn) ?_|refine callH (f:=48) (tx (itoa n)) (fun w1 hH=>itoaC n hb.1 hb.2 w1 (Hold.ob hH (A:=gkO) 0 rfl).p) ?_|refine fin fun w' hH=>nu_yes hyes (by show Ending.returned (.tuple #[_,.bool (ByteArray.toList _ == ByteArray.toList _)])=_; rw [hq]; rfl) hH.upd.since | refine fin_s ?_|refine fin_r ?_ ?_|refine fin_e ?_ ?_)
  ·have hno:numV s=none:=by rw [hv,if_neg he]
   have hq:=heq.trans (decide_eq_false he)
   refine entH tab_ok (hold_gk hg) [tx s] Tryz.func44 Tryz.ntmps44 rfl rfl ?_
   repeat' ((conv=>whnf); first | refine sgo ⟨tab_ok⟩ ?_|refine br_not ?_|refine br_t rfl ?_|refine br_f rfl ?_|refine br_t (by assumption) ?_|refine br_f (by assumption) ?_|refine br_t (decide_eq_true (by assumption)) ?_|refine br_f (decide_eq_false (by assumption)) ?_|refine br_t (beq_iff_eq.2 (by assumption)) ?_|refine br_f (beq_eq_false_iff_ne.2 (by assumption)) ?_|refine drA ⟨tab_ok⟩ [] ?_|refine kpt ?_|refine br_t (decide_eq_true (by omega)) ?_|refine br_f (decide_eq_false (by omega)) ?_|refine opP (pvN0 (by rfl) (by rfl) (by kernel_rfl)) ?_|refine callS (f:=66) (.t [.i .i64 n,.v .nilIface]) (fun w=>atoiY hl hn) ?_|refine callH (f:=48) (tx (itoa n)) (fun w1 hH=>itoaC n hb.1 hb.2 w1 (Hold.ob hH (A:=gkO) 0 rfl).p) ?_|refine fin fun w' hH=>nu_no hno (v:=n) (by show Ending.returned (.tuple #[_,.bool (ByteArray.toList _ == ByteArray.toList _)])=_; rw [hq]; rfl) hH.upd.since | refine fin_s ?_|refine fin_r ?_ ?_|refine fin_e ?_ ?_)
 ·have hno:numV s=none:=by
   unfold numV
   split
   ·rename_i n hn; exact absurd ⟨n,hn⟩ hok
   ·rfl
  refine entH tab_ok (hold_gk hg) [tx s] Tryz.func44 Tryz.ntmps44 rfl rfl ?_
  repeat' ((conv=>whnf); first | refine sgo ⟨tab_ok⟩ ?_|refine br_not ?_|refine br_t rfl ?_|refine br_f rfl ?_|refine br_t (by assumption) ?_|refine br_f (by assumption) ?_|refine br_t (decide_eq_true (by assumption)) ?_|refine br_f (decide_eq_false (by assumption)) ?_|refine br_t (beq_iff_eq.2 (by assumption)) ?_|refine br_f (beq_eq_false_iff_ne.2 (by assumption)) ?_|refine drA ⟨tab_ok⟩ [] ?_|refine kpt ?_|refine br_t (decide_eq_true (by omega)) ?_|refine br_f (decide_eq_false (by omega)) ?_|refine opP (pvN1 (by rfl) (by rfl) (by kernel_rfl)) ?_|refine callN (f:=66) (ι:=Int×Nat) (fun y=>.t [.i .i64 y.1,.v (erV y.2)]) (fun _=>nilO) (fun w1 hH=>(atoiN hl (Hold.ob hH (A:=gkO) 0 rfl) (fun n h=>hok ⟨n,h⟩)).mono (by rintro e w' ⟨y,rfl,h⟩; exact ⟨y,rfl,trivial,h,by intro g hg; cases hg⟩)) (fun y=>?_)|refine fin fun w' hH=>nu_no hno rfl hH.upd.since | refine fin_s ?_|refine fin_r ?_ ?_|refine fin_e ?_ ?_)
end Sp
namespace En
open Go.RowKit Ba Mem
theorem opnxE {X:Cx} {s:St} {o:Oper} (i:Nat) {it:Operand} {g pos r k:Nat} {xs:List UInt8} {K:St→Prop} (hd:Utf8.decode ⟨xs.toArray⟩ pos=(r,k)) (ho:o.op=.next it true) (hx:evO it s.fr=some (.v (.pointer (some ⟨g,0,none⟩)))) (hA:s.ob[i]?=some (itO g xs pos)) (hp:pos < xs.length) (h:setO i (itO g xs (pos+k)) s.ob fun ob=>put X.n o.dst (.t [.b true,.i .i64 (pos:Int),.i .i32 (r:Int)]) ⟨s.fr,s.m,ob⟩ K):OpVC X o s K:=by
 refine opnx i ho hx hA hp ?_
 rw [hd]
 exact h
end En
namespace Sp
open Go.RowKit Ba Mem En Go.Proofs.YtnoehplnmdajnaaGreatDoor.Ty Gw
open Co (Hold.ob)
open Sx Sw
set_option maxRecDepth 100000
def DgOf (R:Int) (y:Option Nat):Prop:=match y with
 | some k=>∃ c:UInt8,dig16[k]?=some c∧R=(c.toNat:Int)
 | none=>∀ (k:Nat) (c:UInt8),dig16[k]?=some c→R≠(c.toNat:Int)
def dgN (y:Option Nat):Nat:=match y with
 | some k=>k
 | none=>0
theorem dgOf_c (c:UInt8):DgOf (c.toNat:Int) (hx c):=by
 cases h:hx c with
 | some k=>exact ⟨c,hx_some h,rfl⟩
 | none =>
  intro k d hd e
  ·have:d=c:=UInt8.toNat_inj.1 (by omega)
   subst this
   rw [hx_at' hd] at h; cases h
theorem dig_lo:∀ k:Fin 16,∀ c:UInt8,dig16[k.val]?=some c→c.toNat < 128:=by
  intro k c h
  have:=(by decide:∀ k:Fin 16,((dig16[k.val]?).map (·.toNat)).all (· < 128)=true) k
  rw [h] at this
  simpa using this
theorem dig_lo' {k:Nat} {c:UInt8} (h:dig16[k]?=some c):c.toNat < 128:=dig_lo ⟨k,(List.getElem?_eq_some_iff.1 h).1⟩ c h
theorem dgOf_hi {R:Int} (h:128≤R):DgOf R none:=fun k c hc e=>by
 have:=dig_lo' hc
 omega
theorem no_more {k:Nat} {c:UInt8} {R:Int} (hc:dig16[k]?=some c) (he:¬ R=(c.toNat:Int)) (hno:∀ j c,j < k→dig16[j]?=some c→R≠(c.toNat:Int)) (j:Nat) (d:UInt8) (hj:j < k+1) (hd:dig16[j]?=some d):R≠(d.toNat:Int):=by
 rcases Nat.lt_or_ge j k with h | h
 ·exact hno j d h hd
 ·have:j=k:=by omega
  subst this
  rw [hc] at hd
  injection hd with hd
  subst hd
  exact he
attribute [local irreducible] Go.Calls
set_option maxHeartbeats 4000000 in
theorem digitP {R:Int} {y:Option Nat} (hy:DgOf R y) (w:World):Calls Tryz.prog 68 #[.int .i32 R] w fun e w'=>e=.returned (.tuple #[.int .u8 (dgN y:Int),.bool y.isSome])∧Since w w':=by
 refine ent tab_ok [.i .i32 R] Tryz.func68 Tryz.ntmps68 rfl rfl ?_
 repeat' ((conv=>whnf); first | refine sgo ⟨tab_ok⟩ ?_|refine br_not ?_|refine br_t rfl ?_|refine br_f rfl ?_|refine br_t (by assumption) ?_|refine br_f (by assumption) ?_|refine br_t (decide_eq_true (by assumption)) ?_|refine br_f (decide_eq_false (by assumption)) ?_|refine br_t (beq_iff_eq.2 (by assumption)) ?_|refine br_f (beq_eq_false_iff_ne.2 (by assumption)) ?_|refine drA ⟨tab_ok⟩ [] ?_|refine kpt ?_|refine br_t (decide_eq_true (by omega)) ?_|refine br_f (decide_eq_false (by omega)) ?_|refine opra (xs:=dig16) (by rfl) (by rfl) Tryz.underlying9 (fun g=>?_)|refine fin_s ?_|refine fin_r ?_ ?_|refine fin_e ?_ ?_)
 conv=>whnf
 refine lp ⟨tab_ok⟩ (ι:={k:Nat // k≤16∧∀ j c,j < k→dig16[j]?=some c→R≠(c.toNat:Int)}) (fun v=>match v with | ⟨k,_⟩=>⟨[(0,.i .i32 R),(6,.v (.pointer (some ⟨g,0,none⟩)))],[],[itO g dig16 k]⟩) (fun v=>16 - v.1) ⟨0,by omega,fun j c hj=>by omega⟩ (wk ?_) ?_
 ·repeat' (first | exact trivial | rfl | ((conv=>whnf); refine And.intro ?_ ?_))
 rintro ⟨k,hk0,hno0⟩
 have hk:k≤16:=hk0
 have hno:∀ j c,j < k→dig16[j]?=some c→R≠(c.toNat:Int):=hno0
 by_cases hlt:k < 16
 ·obtain ⟨c,hc⟩:∃ c,dig16[k]?=some c:=⟨_,List.getElem?_eq_getElem (show k < 16 from hlt)⟩
  have hd:=dec_lo hc (dig_lo' hc)
  by_cases he:R=(c.toNat:Int)
  ·have hy2:y=some k:=by
    cases y with
    | none=>exact absurd he (hy k c hc)
    | some j =>
     obtain ⟨c2,h1,h2⟩:=hy
     have:c2=c:=UInt8.toNat_inj.1 (by omega)
     subst this
     rw [← hx_at' h1,hx_at' hc]
   subst hy2 he
   have w8:IntKind.u8.wrap (k:Int)=(k:Int):=by rw [u8_wrap]; omega
   repeat' ((conv=>whnf); first | refine sgo ⟨tab_ok⟩ ?_|refine br_not ?_|refine br_t rfl ?_|refine br_f rfl ?_|refine br_t (by assumption) ?_|refine br_f (by assumption) ?_|refine br_t (decide_eq_true (by assumption)) ?_|refine br_f (decide_eq_false (by assumption)) ?_|refine br_t (beq_iff_eq.2 (by assumption)) ?_|refine br_f (beq_eq_false_iff_ne.2 (by assumption)) ?_|refine drA ⟨tab_ok⟩ [] ?_|refine kpt ?_|refine br_t (decide_eq_true (by omega)) ?_|refine br_f (decide_eq_false (by omega)) ?_|refine wr w8 ?_|refine opnxE 0 hd (by rfl) (by rfl) (by rfl) hlt ?_|refine fin_s ?_|refine fin_r ?_ ?_|refine fin_e ?_ ?_)
   all_goals rfl
  ·have hne:(R == (c.toNat:Int))=false:=beq_eq_false_iff_ne.2 he
   repeat' ((conv=>whnf); first | refine sgo ⟨tab_ok⟩ ?_|refine br_not ?_|refine br_t rfl ?_|refine br_f rfl ?_|refine br_t (by assumption) ?_|refine br_f (by assumption) ?_|refine br_t (decide_eq_true (by assumption)) ?_|refine br_f (decide_eq_false (by assumption)) ?_|refine br_t (beq_iff_eq.2 (by assumption)) ?_|refine br_f (beq_eq_false_iff_ne.2 (by assumption)) ?_|refine drA ⟨tab_ok⟩ [] ?_|refine kpt ?_|refine br_t (decide_eq_true (by omega)) ?_|refine br_f (decide_eq_false (by omega)) ?_|refine br_f hne ?_|refine opnxE 0 hd (by rfl) (by rfl) (by rfl) hlt ?_|refine En.back ⟨k+1,by show k+1≤16; omega,no_more hc he hno⟩ (wk ?_) ?_|refine fin_s ?_|refine fin_r ?_ ?_|refine fin_e ?_ ?_)
   all_goals first | (show 16 - (k+1) < 16 - k; omega)|skip
   all_goals (repeat' (first | exact trivial | rfl | ((conv=>whnf); refine And.intro ?_ ?_)))
 ·have hy2:y=none:=by
   cases y with
   | none=>rfl
   | some j =>
    obtain ⟨c2,h1,h2⟩:=hy
    exact absurd h2 (hno j c2 (by have:=(List.getElem?_eq_some_iff.1 h1).1; have:dig16.length=16:=rfl; omega) h1)
  subst hy2
  have hge:¬ k < dig16.length:=by show ¬ k < 16; omega
  repeat' ((conv=>whnf); first | refine sgo ⟨tab_ok⟩ ?_|refine br_not ?_|refine br_t rfl ?_|refine br_f rfl ?_|refine br_t (by assumption) ?_|refine br_f (by assumption) ?_|refine br_t (decide_eq_true (by assumption)) ?_|refine br_f (decide_eq_false (by assumption)) ?_|refine br_t (beq_iff_eq.2 (by assumption)) ?_|refine br_f (beq_eq_false_iff_ne.2 (by assumption)) ?_|refine drA ⟨tab_ok⟩ [] ?_|refine kpt ?_|refine br_t (decide_eq_true (by omega)) ?_|refine br_f (decide_eq_false (by omega)) ?_|refine opne 0 (by rfl) (by rfl) (by rfl) hge ?_|refine fin_s ?_|refine fin_r ?_ ?_|refine fin_e ?_ ?_)
  all_goals rfl
end Sp
namespace En
open Go.RowKit Ba Mem
theorem made_one (v:Value) (n:Nat):madeCells #[v] n=(List.replicate n v).toArray:=by
 unfold madeCells
 apply Array.ext
 ·simp
 ·intro i h1 h2
  simp [Nat.mod_one]
theorem rows_rep (n:Nat):rowsOf byteE.c (List.replicate n 0)=List.replicate n (.int .u8 0):=by
 induction n with
 | zero=>rfl
 | succ n ih =>
  rw [List.replicate_succ,List.replicate_succ]
  show byteE.c 0++rowsOf byteE.c (List.replicate n 0)=_
  rw [ih]; rfl
theorem opmkB {X:Cx} {s:St} {o:Oper} {K:St→Prop} {t:TypeId} {x y:Operand} {n:Nat} {k1 k2:IntKind} (ho:o.op=.makeSlice t x y) (hx:evO x s.fr=some (.i k1 (n:Int))) (hy:evO y s.fr=some (.i k2 (n:Int))) (hn:n≤1000000) (ht:X.P.underlying t=some (.slice 5)) (hi:(X.P.info? 5).map (fun i=>(i.zero,i.size,i.bytes))=some (some (.int .u8 0),1,1))
  (h:∀ g:Nat,appO s.ob (rwO byteE X.w0.heap.size (some ⟨g,0,none⟩) n n (List.replicate n 0) true) fun ob=>put X.n o.dst (.v (.slice (some ⟨g,0,none⟩) n n)) ⟨s.fr,s.m,ob⟩ K):OpVC X o s K:=⟨fun a w Q hR=>by
 obtain ⟨i,hi1,hi2⟩:=Option.map_eq_some_iff.1 hi
 simp only [Prod.mk.injEq] at hi2
 obtain ⟨z1,z2,z3⟩:=hi2
 have e1:=(evO_of hR.fr hx).2
 have e2:=(evO_of hR.fr hy).2
 have er:=run_makeSlice (P:=X.P) w t 5 i (.int .u8 0) ht hi1 z1 k1 k2 (n:Int) (n:Int) (by omega) (by omega) (by rw [z2,Int.toNat_natCast]; omega) (by rw [z3]; omega) (by omega)
 have ec:madeCells (Value.int .u8 0).cells ((n:Int).toNat*i.size)=(List.replicate n (.int .u8 0)).toArray:=by rw [z2,Int.toNat_natCast,Nat.mul_one]; exact made_one _ n
 rw [ec,Int.toNat_natCast] at er
 have hst:(rwO byteE X.w0.heap.size (some ⟨w.heap.size,0,none⟩) n n (List.replicate n 0) true).st (w.alloc (.cells (List.replicate n (.int .u8 0)).toArray 5)):=by
  show World.ownsRow _ _ _ _ _ _ (rowsOf byteE.c (List.replicate n 0))
  rw [rows_rep]
  exact own_new (Blk.new _ _ _) hR.h.upd.size (by simp) hn
 have hH:=hR.h.obj_new (B:=rwO byteE X.w0.heap.size (some ⟨w.heap.size,0,none⟩) n n (List.replicate n 0) true) hst ((Since.refl w).alloc _) (by intro g hg; simp only [rwO,blkOf,List.mem_singleton] at hg; omega)
 obtain ⟨s',r1,r2,r3,r4⟩:=put_of (a:=a) (s:=⟨s.fr,s.m,s.ob++[rwO byteE X.w0.heap.size (some ⟨w.heap.size,0,none⟩) n n (List.replicate n 0) true]⟩) (v:=.v (.slice (some ⟨w.heap.size,0,none⟩) n n)) hR.ds hR.sz hR.fr hH rfl (appO_of (h w.heap.size))
 refine wp_v2 _ ?_ ⟨s',r1,by rw [r2]; exact Ext.refl _,r4⟩
 unfold execOp
 simp only [ho,e1,e2,den]
 simp [er,Result.andThen]⟩
end En
namespace En
open Go.RowKit Ba Mem
section
variable {X:Cx} {s:St} {o:Oper} {α:Type}
theorem opsc (hX:X.Ok) (i kk j:Nat) (E:Ek α) {A:Asr} (B:Asr) (x y:α) {K:St→Prop} {ty:TypeId} {a b:Operand} {lo g n c:Nat} {ls:List α} {ad:Addr} {v:SV} (ho:o.op=.store ty a b) (ha:evO a s.fr=some (.v (.pointer (some ad)))) (had:ad=⟨g,0+kk*E.k+j,none⟩) (hb:evO b s.fr=some v) (hA:s.ob[i]?=some A) (hrw:A.rw=true)
  (hat:∀ w,A.st w→E.At lo (some ⟨g,0,none⟩) n c ls w) (hx:ls[kk]?=some x) (hj:j < E.k) (hy:(E.c x).toArray.setIfInBounds j (den s.m v)=(E.c y).toArray)
  (hst:∀ w w',A.st w→E.At lo (some ⟨g,0,none⟩) n c (ls.set kk y) w'→Upd [g] w w'→B.st w') (hg:g∈A.F) (hF:∀ g∈B.F,g∈A.F) (h:setO i B s.ob fun ob=>put X.n o.dst (.v undef) ⟨s.fr,s.m,ob⟩ K) (hn:(match tyO ty X.tab with | some z=>Nat.beq z.size 1 | none=>false)=true:=by rfl) (h1:oneS v=true:=by rfl) (hv:okV s.m.length v=true:=by rfl):OpVC X o s K:=⟨fun a' w Q hR=>by
 subst had
 cases hz:tyO ty X.tab with
 | none=>simp [hz] at hn
 | some z =>
  simp only [hz] at hn
  obtain ⟨d,inf,T⟩:=(hX.tab _ _ hz).out
  have hs:=hR.h.obj A (List.mem_of_getElem? hA)
  obtain ⟨hi,rfl⟩:=List.getElem?_eq_some_iff.1 hx
  obtain ⟨P,S,hP,hB,hback⟩:=own_el E.len (hat w hs) hi
  have hlen:=E.len ls[kk]
  refine wp_st_cell ty a b ho (el P (E.c y).toArray S) (den s.m v) (by rw [(evO_of hR.fr ha).2]; rfl) (by rw [(evO_of hR.fr hb).2]) hB (by simp [el]; omega) (el_set (by omega) (by simpa [hlen] using hj) hy) (oneS_den hv h1) (by rw [T.inf]; simp [T.size,Nat.eq_of_beq_eq_true hn]) (fun w' hw=>?_)
  subst hw
  have hu:Upd [g] w (w.setRow g (el P (E.c y).toArray S)):=(Upd.refl _ w).setRow (.inl (by simp)) _
  have hH:=hR.h.obj_set (B:=B) hA hrw (hst w _ hs (hback y _ (Blk.row hB _)) hu) (hu.mono (fun k hk _=>by rw [List.mem_singleton] at hk; subst hk; exact hg)) (fun k hk=>.inl (hF k hk))
  obtain ⟨s',r1,r2,r3,r4⟩:=put_of (a:=a') (s:=⟨s.fr,s.m,s.ob.set i B⟩) (v:=.v undef) hR.ds hR.sz hR.fr hH rfl (setO_of h)
  exact ⟨s',r1,by rw [r2]; exact Ext.refl _,r4⟩⟩
end
end En
namespace Sp
open Go.RowKit Ba Mem En Go.Proofs.YtnoehplnmdajnaaGreatDoor.Ty Gw
open Co (Hold.ob)
open Sx Sw
set_option maxRecDepth 100000
theorem preY {s:List UInt8} (h:s.head?=some 120) (w:World):Calls Tryz.prog 67 #[.string ⟨s.toArray⟩,.string ⟨#[120]⟩] w fun e w'=>e=.returned (.tuple #[.string ⟨(s.drop 1).toArray⟩,.bool true])∧Since w w':=by
 refine (Go.Proofs.Any.strings_CutPrefix Tryz.lays103 ⟨s.toArray⟩ ⟨#[120]⟩ w).mono ?_
 rintro e w' ⟨rfl,rfl⟩
 refine ⟨?_,Since.refl _⟩
 show Ending.returned (.tuple #[.string ⟨(Lib.trimPrefix s [120]).toArray⟩,.bool (Lib.hasPrefix s [120])])=_
 rw [pre_yes h,pre_is,decide_eq_true h]
theorem preN {s:List UInt8} (h:s.head?≠some 120) (w:World):Calls Tryz.prog 67 #[.string ⟨s.toArray⟩,.string ⟨#[120]⟩] w fun e w'=>e=.returned (.tuple #[.string ⟨(Lib.trimPrefix s [120]).toArray⟩,.bool false])∧Since w w':=by
 refine (Go.Proofs.Any.strings_CutPrefix Tryz.lays103 ⟨s.toArray⟩ ⟨#[120]⟩ w).mono ?_
 rintro e w' ⟨rfl,rfl⟩
 refine ⟨?_,Since.refl _⟩
 show Ending.returned (.tuple #[.string ⟨(Lib.trimPrefix s [120]).toArray⟩,.bool (Lib.hasPrefix s [120])])=_
 rw [pre_is,decide_eq_false h]
theorem or16:∀ x d:Fin 16,bits .or .u8 ((x.val*16:Nat):Int) (d.val:Int)=((x.val*16+d.val:Nat):Int):=by decide +kernel
theorem or16' {x d:Nat} (hx:x < 16) (hd:d < 16):bits .or .u8 ((x*16:Nat):Int) (d:Int)=((x*16+d:Nat):Int):=or16 ⟨x,hx⟩ ⟨d,hd⟩
theorem shl4 {x:Nat} (h:x < 16):IntKind.u8.wrap ((x:Int)*2 ^ min ((4:Int).toNat) IntKind.u8.bits)=((x*16:Nat):Int):=by
 rw [u8_wrap,show (2:Int) ^ min ((4:Int).toNat) IntKind.u8.bits=16 from by decide]; omega
theorem fill_at:∀ (k:Nat) (ds:List Nat),ds.length < 2*k→(∀ d∈ds,d < 16)→∃ x:Nat,x < 16∧(fillH k ds)[ds.length / 2]?=some (x:Int)
 | 0,ds,h,_=>by omega
 | k+1,[],_,_=>⟨0,by decide,rfl⟩
 | k+1,[a],_,h=>⟨a,h a (List.mem_cons_self ..),by show (fillH (k+1) [a])[1 / 2]?=_; unfold fillH prs; simp⟩
 | k+1,a::b::r,h,hd=>by
  obtain ⟨x,h1,h2⟩:=fill_at k r (by simp only [List.length_cons] at h; omega) (fun d hd'=>hd d (List.mem_cons_of_mem _ (List.mem_cons_of_mem _ hd')))
  refine ⟨x,h1, ?_⟩
  rw [fill_two,show (a::b::r).length / 2=r.length / 2+1 by simp only [List.length_cons]; omega,List.getElem?_cons_succ]
  exact h2
structure DaI (t:List UInt8) (i:Nat) (ds:List Nat) (zs:List Int):Prop where
 le:i≤t.length
 d:digs (t.take i)=some ds
 n:ds.length=i
 z:zs=fillH (t.length / 2) ds
theorem DaI.z0 (t:List UInt8):DaI t 0 [] (List.replicate (t.length / 2) 0):=⟨Nat.zero_le _,rfl,rfl,(fill_nil _).symm⟩
theorem DaI.bad {t:List UInt8} {i:Nat} {ds:List Nat} {zs:List Int} {c:UInt8} (_:DaI t i ds zs) (hc:t[i]?=some c) (hn:hx c=none):digs t=none:=by
 have h1:t.take i++t.drop i=t:=List.take_append_drop i t
 rw [← h1,drop_at hc]
 exact digs_bad hn
theorem DaI.at_ {t:List UInt8} {i:Nat} {ds:List Nat} {zs:List Int} (h:DaI t i ds zs) (he:t.length % 2=0) (hi:i < t.length):∃ x:Nat,x < 16∧zs[i / 2]?=some (x:Int):=by
 have:=fill_at (t.length / 2) ds (by rw [h.n]; omega) (digs_lt h.d)
 rw [h.n,← h.z] at this
 exact this
theorem DaI.more {t:List UInt8} {i x d:Nat} {ds:List Nat} {zs:List Int} {c:UInt8} (h:DaI t i ds zs) (he:t.length % 2=0) (hc:t[i]?=some c) (hd:hx c=some d) (hx1:zs[i / 2]?=some (x:Int)):DaI t (i+1) (ds++[d]) (zs.set (i / 2) ((x*16+d:Nat):Int)):=by
 have hi:i < t.length:=(List.getElem?_eq_some_iff.1 hc).1
 refine ⟨by omega, ?_,by rw [List.length_append,h.n]; rfl, ?_⟩
 ·rw [List.take_add_one,hc]
  show digs (t.take i++[c])=_
  rw [digs_add h.d,hd]; rfl
 ·have:=fill_add (t.length / 2) ds d (by rw [h.n]; omega)
  rw [h.n,← h.z,List.getD_eq_getElem?_getD,hx1] at this
  rw [← this]
  congr 1
theorem DaI.end_ {t:List UInt8} {i:Nat} {ds:List Nat} {zs:List Int} (h:DaI t i ds zs) (he:t.length % 2=0) (hi:t.length≤i):hexV t=some (prs ds)∧zs=zsN (prs ds):=by
 have h1:=h.d
 rw [List.take_of_length_le hi] at h1
 refine ⟨by rw [hexV_digs,if_pos he,h1]; rfl, ?_⟩
 rw [h.z]
 unfold fillH zsN
 have:t.length / 2 - (prs ds).length=0:=by have:=h.le; rw [prs_len,h.n]; omega
 rw [this]; simp
theorem da_yes {w w':World} {e:Ending} {y:Option (List Nat)} {out:List Nat} {zs:List Int} {B:Option Addr} {n cb:Nat} (hy:y=some out) (hz:zs=zsN out) (hn:n=zs.length) (h:(rwO byteE w.heap.size B n cb zs true).st w') (he:e=.returned (.tuple #[.slice B n cb,.bool true])) (hs:Since w w'):byP w y e w':=by
 subst hn
 exact by_yes hy hz h he hs
theorem rune_at {t:List UInt8} {i:Nat} {c:UInt8} (hc:t[i]?=some c) (hn:hx c=none):∃ r k,Utf8.decode ⟨t.toArray⟩ i=(r,k)∧DgOf (r:Int) none:=by
 rcases Nat.lt_or_ge c.toNat 128 with h | h
 ·exact ⟨_,_,dec_lo hc h,by have:=dgOf_c c; rw [hn] at this; exact this⟩
 ·exact ⟨(Utf8.decode ⟨t.toArray⟩ i).1,(Utf8.decode ⟨t.toArray⟩ i).2,rfl,dgOf_hi (by have:=dec_hi hc h; omega)⟩
attribute [local irreducible] Go.Calls hexV zsN digs
set_option maxHeartbeats 8000000 in
theorem dataP (s:List UInt8) (hl:s.length≤1000000) (w:World):Calls Tryz.prog 45 #[.string ⟨s.toArray⟩] w (byP w (datV s)):=by
 by_cases hh:s.head?=some 120
 ·have hv:datV s=hexV (s.drop 1):=by rw [datV_is,if_pos hh]
  rw [hv]
  obtain ⟨t,ht⟩:∃ t,s.drop 1=t:=⟨_,rfl⟩
  have htl:t.length≤1000000:=by rw [← ht,List.length_drop]; omega
  have hcut:=fun w=>preY hh w
  rw [ht] at hcut ⊢
  by_cases he:t.length % 2=0
  ·have hm:(t.length:Int).tmod 2=0:=by
    have e:(t.length:Int).tmod 2=((t.length % 2:Nat):Int):=rfl
    rw [e,he]; rfl
   have hq:IntKind.i64.wrap ((t.length:Int).tdiv 2)=((t.length / 2:Nat):Int):=by
    have e:(t.length:Int).tdiv 2=((t.length / 2:Nat):Int):=rfl
    rw [e]; exact wr64 _ (by omega) (by omega)
   refine ent tab_ok [tx s] Tryz.func45 Tryz.ntmps45 rfl rfl ?_
   repeat' ((conv=>whnf); first | refine sgo ⟨tab_ok⟩ ?_|refine br_not ?_|refine br_t rfl ?_|refine br_f rfl ?_|refine br_t (by assumption) ?_|refine br_f (by assumption) ?_|refine br_t (decide_eq_true (by assumption)) ?_|refine br_f (decide_eq_false (by assumption)) ?_|refine br_t (beq_iff_eq.2 (by assumption)) ?_|refine br_f (beq_eq_false_iff_ne.2 (by assumption)) ?_|refine drA ⟨tab_ok⟩ [] ?_|refine kpt ?_|refine br_t (decide_eq_true (by omega)) ?_|refine br_f (decide_eq_false (by omega)) ?_|refine cd (by first | decide | omega) ?_|refine wr hq ?_|refine callS (f:=67) (.t [tx t,.b true]) (fun w=>hcut w) ?_|refine opP (pvLen (xs:=t) (by rfl) (by rfl) Tryz.underlying9) ?_|refine opmkB (n:=t.length / 2) (by rfl) (by rfl) (by rfl) (by omega) Tryz.underlying38 (by kernel_rfl) (fun g=>?_)|refine opra (xs:=t) (by rfl) (by rfl) Tryz.underlying9 (fun g2=>?_)|refine fin_s ?_|refine fin_r ?_ ?_|refine fin_e ?_ ?_)
   conv=>whnf
   refine lp ⟨tab_ok⟩ (ι:={y:Nat×List Nat×List Int // DaI t y.1 y.2.1 y.2.2}) (fun y=>match y with | ⟨(i,ds,zs),_⟩=>⟨[(4,tx t),(6,.v (.slice (some ⟨g,0,none⟩) (t.length / 2) (t.length / 2))),(29,.v (.pointer (some ⟨g2,0,none⟩)))],[],[rwO byteE w.heap.size (some ⟨g,0,none⟩) (t.length / 2) (t.length / 2) zs true,itO g2 t i]⟩) (fun y=>t.length - y.1.1) ⟨(0,[],List.replicate (t.length / 2) 0),DaI.z0 t⟩ (wk ?_) ?_
   ·repeat' (first | exact trivial | rfl | ((conv=>whnf); refine And.intro ?_ ?_))
   rintro ⟨⟨i,ds,zs⟩,hI0⟩
   have hI:DaI t i ds zs:=hI0
   have hi:=hI.le
   by_cases hlt:i < t.length
   ·obtain ⟨c,hc⟩:∃ c,t[i]?=some c:=⟨_,List.getElem?_eq_getElem hlt⟩
    rcases hx1:hx c with _|d
    ·have hno:hexV t=none:=by rw [hexV_digs,if_pos he,hI.bad hc hx1]; rfl
     obtain ⟨r,kk,hd,hdg⟩:=rune_at hc hx1
     repeat' ((conv=>whnf); first | refine sgo ⟨tab_ok⟩ ?_|refine br_not ?_|refine br_t rfl ?_|refine br_f rfl ?_|refine br_t (by assumption) ?_|refine br_f (by assumption) ?_|refine br_t (decide_eq_true (by assumption)) ?_|refine br_f (decide_eq_false (by assumption)) ?_|refine br_t (beq_iff_eq.2 (by assumption)) ?_|refine br_f (beq_eq_false_iff_ne.2 (by assumption)) ?_|refine drA ⟨tab_ok⟩ [] ?_|refine kpt ?_|refine br_t (decide_eq_true (by omega)) ?_|refine br_f (decide_eq_false (by omega)) ?_|refine opnxE 1 hd (by rfl) (by rfl) (by rfl) hlt ?_|refine callS (f:=68) (.t [.i .u8 0,.b false]) (fun w=>digitP hdg w) ?_|refine fin fun w' hH=>byP_no hno rfl hH.upd.since | refine fin_s ?_|refine fin_r ?_ ?_|refine fin_e ?_ ?_)
    ·obtain ⟨x,hx16,hxz⟩:=hI.at_ he hlt
     have hd16:=hx_lt hx1
     have hlo:=dig_lo' (hx_some hx1)
     have hd:=dec_lo hc hlo
     have hdg:DgOf (c.toNat:Int) (some d):=by have:=dgOf_c c; rw [hx1] at this; exact this
     have hq2:IntKind.i64.wrap ((i:Int).tdiv 2)=((i / 2:Nat):Int):=by
      have e:(i:Int).tdiv 2=((i / 2:Nat):Int):=rfl
      rw [e]; exact wr64 _ (by omega) (by omega)
     have hor:=or16' hx16 hd16
     have hmore:=hI.more he hc hx1 hxz
     have hbi:bitI .or .u8 ((x*16:Nat):Int) (d:Int)=((x*16+d:Nat):Int):=hor
     have hset:(byteE.c (x:Int)).toArray.setIfInBounds 0 (.int .u8 (bitI .or .u8 ((x*16:Nat):Int) (d:Int)))=(byteE.c ((x*16+d:Nat):Int)).toArray:=by rw [hbi]; rfl
     repeat' ((conv=>whnf); first | refine sgo ⟨tab_ok⟩ ?_|refine br_not ?_|refine br_t rfl ?_|refine br_f rfl ?_|refine br_t (by assumption) ?_|refine br_f (by assumption) ?_|refine br_t (decide_eq_true (by assumption)) ?_|refine br_f (decide_eq_false (by assumption)) ?_|refine br_t (beq_iff_eq.2 (by assumption)) ?_|refine br_f (beq_eq_false_iff_ne.2 (by assumption)) ?_|refine drA ⟨tab_ok⟩ [] ?_|refine kpt ?_|refine br_t (decide_eq_true (by omega)) ?_|refine br_f (decide_eq_false (by omega)) ?_|refine cd (by first | decide | omega) ?_|refine wr hq2 ?_|refine wr (shl4 hx16) ?_|refine opnxE 1 hd (by rfl) (by rfl) (by rfl) hlt ?_|refine callS (f:=68) (.t [.i .u8 (d:Int),.b true]) (fun w=>digitP hdg w) ?_|refine opiv ⟨tab_ok⟩ (by rfl) (by rfl) (by rfl) (by rfl) (by rfl) (by rfl) ⟨by omega,by omega⟩ ?_|refine opxc (g:=g) (off:=0+(i / 2)*1) (.i .u8 (x:Int)) (fun w1 hH=>Ek.rng (Hold.ob hH (A:=rwO byteE w.heap.size (some ⟨g,0,none⟩) (t.length / 2) (t.length / 2) zs true) 0 rfl) hxz) ⟨tab_ok⟩ (by rfl) (by rfl) (by first | (simp only [Go.WideShapes.add_plain]; done)|(simp only [Go.WideShapes.add_plain]; rfl)) ?_|refine opsc ⟨tab_ok⟩ 0 (i / 2) 0 byteE (rwO byteE w.heap.size (some ⟨g,0,none⟩) (t.length / 2) (t.length / 2) (zs.set (i / 2) ((x*16+d:Nat):Int)) true) (x:Int) ((x*16+d:Nat):Int) (A:=rwO byteE w.heap.size (some ⟨g,0,none⟩) (t.length / 2) (t.length / 2) zs true) (lo:=w.heap.size) (g:=g) (n:=t.length / 2) (c:=t.length / 2) (ls:=zs) (v:=.i .u8 (bitI .or .u8 ((x*16:Nat):Int) (d:Int))) (by rfl) (by rfl) (by simp only [Go.WideShapes.add_plain]; rfl) (by rfl) (by rfl) rfl (fun w h=>h) hxz (by decide) hset (fun w w' h k u=>k) (by simp [rwO,blkOf]) (fun g h=>h) ?_|refine En.back ⟨(i+1,ds++[d],zs.set (i / 2) ((x*16+d:Nat):Int)),hmore⟩ (wkd ?_) ?_|refine fin_s ?_|refine fin_r ?_ ?_|refine fin_e ?_ ?_)
     all_goals first | (show t.length - (i+1) < t.length - i; omega)|skip
     all_goals (repeat' (first | exact trivial | rfl | ((conv=>whnf); refine And.intro ?_ ?_)))
   ·obtain ⟨hyes,hzz⟩:=hI.end_ he (by omega)
    have hzl:t.length / 2=zs.length:=by rw [hI.z,fill_len (by rw [hI.n]; omega)]
    repeat' ((conv=>whnf); first | refine sgo ⟨tab_ok⟩ ?_|refine br_not ?_|refine br_t rfl ?_|refine br_f rfl ?_|refine br_t (by assumption) ?_|refine br_f (by assumption) ?_|refine br_t (decide_eq_true (by assumption)) ?_|refine br_f (decide_eq_false (by assumption)) ?_|refine br_t (beq_iff_eq.2 (by assumption)) ?_|refine br_f (beq_eq_false_iff_ne.2 (by assumption)) ?_|refine drA ⟨tab_ok⟩ [] ?_|refine kpt ?_|refine br_t (decide_eq_true (by omega)) ?_|refine br_f (decide_eq_false (by omega)) ?_|refine opne 1 (by rfl) (by rfl) (by rfl) hlt ?_|refine fin fun w' hH=>da_yes hyes hzz hzl (Hold.ob hH (A:=rwO byteE w.heap.size (some ⟨g,0,none⟩) (t.length / 2) (t.length / 2) zs true) 0 rfl) rfl hH.upd.since | refine fin_s ?_|refine fin_r ?_ ?_|refine fin_e ?_ ?_)
  ·have hno:hexV t=none:=by rw [hexV_digs,if_neg he]
   have hm:(t.length:Int).tmod 2≠0:=by
    have e:(t.length:Int).tmod 2=((t.length % 2:Nat):Int):=rfl
    rw [e]; omega
   refine ent tab_ok [tx s] Tryz.func45 Tryz.ntmps45 rfl rfl ?_
   repeat' ((conv=>whnf); first | refine sgo ⟨tab_ok⟩ ?_|refine br_not ?_|refine br_t rfl ?_|refine br_f rfl ?_|refine br_t (by assumption) ?_|refine br_f (by assumption) ?_|refine br_t (decide_eq_true (by assumption)) ?_|refine br_f (decide_eq_false (by assumption)) ?_|refine br_t (beq_iff_eq.2 (by assumption)) ?_|refine br_f (beq_eq_false_iff_ne.2 (by assumption)) ?_|refine drA ⟨tab_ok⟩ [] ?_|refine kpt ?_|refine br_t (decide_eq_true (by omega)) ?_|refine br_f (decide_eq_false (by omega)) ?_|refine cd (by first | decide | omega) ?_|refine callS (f:=67) (.t [tx t,.b true]) (fun w=>hcut w) ?_|refine opP (pvLen (xs:=t) (by rfl) (by rfl) Tryz.underlying9) ?_|refine fin fun w' hH=>byP_no hno rfl hH.upd.since | refine fin_s ?_|refine fin_r ?_ ?_|refine fin_e ?_ ?_)
 ·have hno:datV s=none:=by rw [datV_is,if_neg hh]
  refine ent tab_ok [tx s] Tryz.func45 Tryz.ntmps45 rfl rfl ?_
  repeat' ((conv=>whnf); first | refine sgo ⟨tab_ok⟩ ?_|refine br_not ?_|refine br_t rfl ?_|refine br_f rfl ?_|refine br_t (by assumption) ?_|refine br_f (by assumption) ?_|refine br_t (decide_eq_true (by assumption)) ?_|refine br_f (decide_eq_false (by assumption)) ?_|refine br_t (beq_iff_eq.2 (by assumption)) ?_|refine br_f (beq_eq_false_iff_ne.2 (by assumption)) ?_|refine drA ⟨tab_ok⟩ [] ?_|refine kpt ?_|refine br_t (decide_eq_true (by omega)) ?_|refine br_f (decide_eq_false (by omega)) ?_|refine callS (f:=67) (.t [tx (Lib.trimPrefix s [120]),.b false]) (fun w=>preN hh w) ?_|refine fin fun w' hH=>byP_no hno rfl hH.upd.since | refine fin_s ?_|refine fin_r ?_ ?_|refine fin_e ?_ ?_)
end Sp
namespace Pa
open Go.RowKit Ba Mem
open Byt (BV isB cells)
theorem bv_cells {w:World} {x:Addr} {len:Nat} {zs:List Int} (hl:len≤zs.length) (hm:len≤maxLen) (hc:∀ i,i < zs.length→w.cell? (x.add i)=some (.int .u8 (zs.getD i 0))) (hw:∀ n∈zs,(Lit.int .u8 n).wf=true):BV w (some x) len (zs.take len):=by
 refine ⟨by rw [List.length_take]; omega,by unfold maxLen at hm; omega,fun z hz'=>?_, ?_⟩
 ·have:=bounds_u8 (hw z (List.mem_of_mem_take hz'))
  unfold isB; omega
 ·rcases Nat.eq_zero_or_pos len with h0 | h0
  ·exact .inl h0
  ·obtain ⟨b,off,rfl,hc'⟩:=ints_at hc (by omega)
   refine .inr ⟨b,off,rfl, ?_,fun j hj=>?_⟩
   ·have:=hc' 0 (by omega)
    exact World.block_lt_of_cell? _ _ this
   ·rw [hc' j (by omega)]
    congr 2
    simp [List.getD,List.getElem?_take,hj]
section
variable {H:Type} {enc:TypeId×Value→H} {w:World} {base:Nat} {spare:Nat→Bool} {held:Bool}
end
end Pa
namespace Gw
open Go.RowKit Ba Mem En Go.Proofs.YtnoehplnmdajnaaGreatDoor.Ty
open Byt (BV isB)
set_option maxRecDepth 100000
structure StepD where
 k:Int
 a:Int
 b:Int
 A:Option Addr
 n:Nat
 c:Nat
 d:List Int
instance:Inhabited StepD:=⟨⟨0,0,0,none,0,0,[]⟩⟩
def stepC (s:StepD):List Value:=[.int .i64 s.k,.int .i64 s.a,.int .i64 s.b,.slice s.A s.n s.c]
def stepE:Ek StepD:=⟨40,4,stepC,fun _=>rfl,by
 intro a u hu
 simp only [stepC,List.mem_cons,List.not_mem_nil,or_false] at hu
 rcases hu with rfl | rfl | rfl | rfl <;> rfl⟩
structure StepW (s:StepD):Prop where
 k:(Lit.int .i64 s.k).wf=true
 a:(Lit.int .i64 s.a).wf=true
 b:(Lit.int .i64 s.b).wf=true
 l:s.d.length=s.n
 c:s.n≤s.c
 m:s.n≤140737488351232
theorem weights_mem_all {H:Type} {P:Program} {e:TypeId}:∀ {ds:List (DataW H)} {d:DataW H},d∈ds→∀ n∈d.weights P e,n∈DataW.weightsAll P e ds
 | [],_,h,_,_=>by cases h
 | d0::r,d,h,n,hn=>by
  simp only [DataW.weightsAll,List.mem_append]
  rcases List.mem_cons.1 h with rfl | h
  ·exact .inl hn
  ·exact .inr (weights_mem_all h n hn)
section
variable {H:Type} {enc:TypeId×Value→H} {w:World} {base:Nat} {spare:Nat→Bool} {held:Bool}
theorem step_of {fuel:Nat} {cs:List Value} {x:DataW H×List MemPlace} (h:DataW.trod enc Tryz.prog w base spare held fuel 40 cs=some x) (hU:∀ u∈x.1.weights Tryz.prog 40,u≤140737488351232):∃ s:StepD,cs=stepC s∧BV w s.A s.n s.d∧StepW s:=by
 have e1:Tryz.prog.cellsOf 3=1:=by kernel_rfl
 have es:Tryz.prog.cellsOf 38=1:=by kernel_rfl
 have eb:Tryz.prog.bytesOf 5=1:=by kernel_rfl
 obtain ⟨xs,n,rfl,hxe,hl,hx,hf⟩:=DataW.trod_struct Tryz.underlying40 h
 have hl':cs.length=4:=hl.trans (by kernel_rfl)
 match cs,hl' with
 | [a0,a1,a2,a3],_ =>
  have hx':xs.length=4:=hx
  match xs,hx' with
  | [y0,y1,y2,y3],_ =>
   have g0:=hf 0 _ rfl
   have g1:=hf 1 _ rfl
   have g2:=hf 2 _ rfl
   have g3:=hf 3 _ rfl
   simp [e1,es] at g0 g1 g2 g3
   obtain ⟨v0,q0,_,k0⟩:=DataW.trod_int Tryz.underlying3 g0
   obtain ⟨v1,q1,_,k1⟩:=DataW.trod_int Tryz.underlying3 g1
   obtain ⟨v2,q2,_,k2⟩:=DataW.trod_int Tryz.underlying3 g2
   simp at q0 q1 q2
   subst q0 q1 q2
   have hw:∀ u∈DataW.weights Tryz.prog 38 y3.1,u≤140737488351232:=fun u hu=>by
    refine hU u ?_
    rw [hxe]
    simp only [DataW.weights,Tryz.underlying40]
    exact DataW.weights_mem_each (j:=3) (t:=38) (d:=y3.1) rfl rfl u hu
   rcases Go.ChangeShapes.open_ints Tryz.underlying38 Tryz.underlying5 (by kernel_rfl) g3 with ⟨hcs,_⟩ | ⟨x,l2,c,zs,hcs,_,hlc,hm2,hz,hy,hcl,hww⟩
   ·simp at hcs
    subst hcs
    exact ⟨⟨v0,v1,v2,none,0,0,[]⟩,rfl,BV.nil _ _,⟨k0,k1,k2,rfl,by simp,by simp⟩⟩
   ·simp at hcs
    subst hcs
    have hlz:l2≤zs.length:=by rw [hz]; split <;> omega
    have hm3:l2≤140737488351232:=by
     have:=hw _ (by
      rw [show y3=_ from hy]
      simp only [DataW.weights,Tryz.underlying38]
      exact List.mem_cons_self ..)
     simp only [Go.ChangeShapes.lits,List.length_map,List.length_take,List.length_drop,eb] at this
     omega
    exact ⟨⟨v0,v1,v2,some x,l2,c,zs.take l2⟩,rfl,Pa.bv_cells hlz (Nat.le_trans hlc hm2) hcl hww,⟨k0,k1,k2,by show (zs.take l2).length=l2; rw [List.length_take]; omega,hlc,hm3⟩⟩
end
structure StR (a:Option Addr) (len:Nat) (ss:Nat→StepD) (w:World):Prop where
 r:stepE.Rd a len ss w
 d:∀ i,i < len→BV w (ss i).A (ss i).n (ss i).d
def stF (a:Option Addr) (len:Nat) (ss:Nat→StepD):List Nat:=rdF a len++(List.range len).flatMap fun i=>rdF (ss i).A (ss i).n
theorem stF_at {a:Option Addr} {len i:Nat} {ss:Nat→StepD} (hi:i < len):∀ g∈rdF (ss i).A (ss i).n,g∈stF a len ss:=fun g hg=>List.mem_append.2 (.inr (List.mem_flatMap.2 ⟨i,List.mem_range.2 hi,hg⟩))
def stO (a:Option Addr) (len:Nat) (ss:Nat→StepD):Asr:=⟨stF a len ss,false,StR a len ss,fun u hd h=>⟨(rdO stepE a len ss).up u (fun g hg=>hd g (List.mem_append.2 (.inl hg))) h.r,fun i hi=>bv_up u (h.d i hi) (fun g hg=>hd g (stF_at hi g hg))⟩,fun h g hg=>by
 rcases List.mem_append.1 hg with hg | hg
 ·exact (rdO stepE a len ss).lt h.r g hg
 ·obtain ⟨i,hi,hg⟩:=List.mem_flatMap.1 hg
  exact bv_lt (h.d i (List.mem_range.1 hi)) g hg⟩
section
variable {H:Type} {enc:TypeId×Value→H} {w:World} {base:Nat} {spare:Nat→Bool} {held:Bool}
theorem steps_open {fuel:Nat} {a:Option Addr} {len cap:Nat} {x:DataW H×List MemPlace} (h:DataW.trod enc Tryz.prog w base spare held fuel 25 [.slice a len cap]=some x) (hU:∀ u∈x.1.weights Tryz.prog 25,u≤140737488351232):∃ ss,StR a len ss w∧(∀ i,i < len→StepW (ss i))∧len≤9223372036854775807:=by
 have ce:Tryz.prog.cellsOf 40=4:=by kernel_rfl
 rcases Go.Deep.open_slice Tryz.underlying25 h with ⟨hcs,_⟩ | ⟨a',len',cap',m,n,D,Pl,hcs,hb,hlc,hcm,hm,hxe,hx⟩
 ·simp at hcs
  obtain ⟨rfl,rfl,rfl⟩:=hcs
  exact ⟨default,⟨.inl rfl,fun i hi=>by omega⟩,fun i hi=>by omega,by omega⟩
 ·simp at hcs
  obtain ⟨rfl,rfl,rfl⟩:=hcs
  have hlm:len≤m:=by rw [hm]; split <;> omega
  have hw:∀ i,i < len→∀ u∈(D i).weights Tryz.prog 40,u≤140737488351232:=fun i hi u hu=>by
   refine hU u ?_
   rw [hxe]
   simp only [DataW.weights,Tryz.underlying25]
   exact List.mem_cons_of_mem _ (List.mem_append.2 (.inl (weights_mem_all (List.mem_map.2 ⟨i,List.mem_range.2 hi,rfl⟩) u hu)))
  have each:∀ i,i < len→∃ l:StepD,(∀ j v,(stepC l)[j]?=some v→w.cell? ((a'.add (i*4)).add j)=some v)∧BV w l.A l.n l.d∧StepW l:=by
   intro i hi
   obtain ⟨cs',h1,h2⟩:=hx i (by omega)
   rw [ce] at h1
   obtain ⟨_,hlen,hcell⟩:=World.cells?_some h1
   obtain ⟨l,rfl,h3,h4⟩:=step_of h2 (hw i hi)
   refine ⟨l,fun j v hj=>?_,h3,h4⟩
   have hj9:j < 4:=by
    obtain ⟨hlt,_⟩:=List.getElem?_eq_some_iff.1 hj
    simpa [stepC] using hlt
   rw [hcell j hj9,hj]
  obtain ⟨ls,hls⟩:=Go.Deep.choose_lt each
  refine ⟨ls,⟨?_,fun i hi=>(hls i hi).2.1⟩,fun i hi=>(hls i hi).2.2,by unfold maxLen at hcm; omega⟩
  rcases Nat.eq_zero_or_pos len with h0 | h0
  ·exact .inl h0
  ·obtain ⟨b,off,idx⟩:=a'
   have c0:=(hls 0 h0).1 0 _ rfl
   cases idx with
   | none =>
    rw [Go.WideShapes.add_plain,Go.WideShapes.add_plain] at c0
    refine .inr ⟨b,off,rfl,World.block_lt_of_cell? _ _ c0,fun i hi j v hj=>?_⟩
    have:=(hls i hi).1 j v hj
    rw [Go.WideShapes.add_plain,Go.WideShapes.add_plain] at this
    exact this
   | some q =>
    exfalso
    simp [World.cell?,Addr.add] at c0
    split at c0 <;> simp at c0
end
end Gw
namespace Sw
open Go.RowKit Ba Mem En Go.Proofs.YtnoehplnmdajnaaGreatDoor.Ty Gw
open Byt (BV isB)
open Co (Hold.ob)
open Sx
open Go.Lib (itoa)
set_option maxRecDepth 100000
def lineL (k a b:Int) (zs:List Int):List UInt8:=itoa k++[32]++itoa a++[32]++itoa b++[32,120]++hexI zs++[10]
def spD (s:StepD):SP:=⟨s.k,s.a,s.b,s.d.map Int.toNat⟩
theorem ito_len {n:Int} (h:n64 n):(itoa n).length≤21:=by unfold n64 at h; have:=Lib.itoa_length_le n h.1 h.2; omega
theorem lineL_len {k a b:Int} {zs:List Int} (hk:n64 k) (ha:n64 a) (hb:n64 b):(lineL k a b zs).length≤70+2*zs.length:=by
 have h1:=ito_len hk
 have h2:=ito_len ha
 have h3:=ito_len hb
 unfold lineL
 simp only [List.length_append,List.length_cons,List.length_nil,hexI_len]
 omega
def printL (l:List StepD):List UInt8:=l.flatMap fun s=>lineL s.k s.a s.b s.d
attribute [local irreducible] Go.Calls hexI itoa n64
set_option maxHeartbeats 4000000 in
theorem lineR {k a b:Int} {A:Option Addr} {n c:Nat} {zs:List Int} {w:World} (h:BV w A n zs) (hk:n64 k) (ha:n64 a) (hb:n64 b) (hn:n≤1000000):Calls Tryz.prog 26 #[.agg #[.int .i64 k,.int .i64 a,.int .i64 b,.slice A n c]] w fun e w'=>e=.returned (.string ⟨(lineL k a b zs).toArray⟩)∧Since w w':=by
 have h1:=ito_len hk
 have h2:=ito_len ha
 have h3:=ito_len hb
 have hl:=h.1
 have h4:(hexI zs).length≤2000000:=by rw [hexI_len]; omega
 refine entH tab_ok (hold_bv h) [.a [.i .i64 k,.i .i64 a,.i .i64 b,.v (.slice A n c)]] Tryz.func26 Tryz.ntmps26 rfl rfl ?_
 repeat' ((conv=>whnf); first | refine sgo ⟨tab_ok⟩ ?_|refine br_not ?_|refine br_t rfl ?_|refine br_f rfl ?_|refine br_t (by assumption) ?_|refine br_f (by assumption) ?_|refine br_t (decide_eq_true (by assumption)) ?_|refine br_f (decide_eq_false (by assumption)) ?_|refine br_t (beq_iff_eq.2 (by assumption)) ?_|refine br_f (beq_eq_false_iff_ne.2 (by assumption)) ?_|intro b0 | refine drA (id:=1) ⟨tab_ok⟩ [2,6,11,16] ?_|refine drA ⟨tab_ok⟩ [] ?_|refine kpt ?_|refine br_t (decide_eq_true (by omega)) ?_|refine br_f (decide_eq_false (by omega)) ?_|refine callS (f:=9) (tx (itoa k)) (fun w=>decT k hk w) ?_|refine callS (f:=9) (tx (itoa a)) (fun w=>decT a ha w) ?_|refine callS (f:=9) (tx (itoa b)) (fun w=>decT b hb w) ?_|refine callH (f:=39) (tx (hexI zs)) (fun w1 hH=>hexR (Hold.ob hH (A:=bvO A n zs) 0 rfl) hn) ?_|refine puP (pvCat (by rfl) (by rfl) (by rfl) ⟨(by first | omega | (simp only [List.length_append,List.length_cons,List.length_nil]; omega)),(by first | omega | (simp only [List.length_append,List.length_cons,List.length_nil]; omega))⟩) ?_|refine fin_s ?_|refine fin_r ?_ ?_|refine fin_e ?_ ?_)
 all_goals rfl
def stL (n:Nat) (ss:Nat→StepD):List StepD:=(List.range n).map ss
theorem stL_len (n:Nat) (ss:Nat→StepD):(stL n ss).length=n:=by simp [stL]
theorem stL_at {n i:Nat} {ss:Nat→StepD} (h:i < n):(stL n ss)[i]?=some (ss i):=by simp [stL,h]
theorem print_next {l:List StepD} {i:Nat} {s:StepD} (h:l[i]?=some s):printL (l.take (i+1))=printL (l.take i)++lineL s.k s.a s.b s.d:=by
 unfold printL
 rw [List.take_add_one,h]; simp
theorem print_len (l:List StepD) (i:Nat):(printL (l.take i)).length≤(printL l).length:=by
 unfold printL
 conv=>rhs; rw [← List.take_append_drop i l]
 rw [List.flatMap_append,List.length_append]; omega
structure StB (s:StepD):Prop where
 k:n64 s.k
 a:n64 s.a
 b:n64 s.b
 n:s.n≤1000000
theorem w_64 {z:Int} (h:(Lit.int .i64 z).wf=true):n64 z:=by unfold n64; exact (Lit.wf_int_iff .i64 z).1 h
attribute [local irreducible] lineL printL
set_option maxHeartbeats 4000000 in
theorem printR {A:Option Addr} {n c:Nat} {ss:Nat→StepD} {w:World} (h:StR A n ss w) (hs:∀ i,i < n→StB (ss i)) (hn:n≤1000000) (hL:(printL (stL n ss)).length≤1000000):Calls Tryz.prog 12 #[.slice A n c] w fun e w'=>e=.returned (.string ⟨(printL (stL n ss)).toArray⟩)∧Since w w':=by
 obtain ⟨g,off,hA⟩:=Ek.rd_addr h.r
 have hl:=stL_len n ss
 refine entH tab_ok (Hold.addObj (Hold.nil _ tab [] _ w) (stO A n ss) h (by intro k; cases k) (by intro r hr; cases hr) (by intro A hA; cases hA)) [.v (.slice A n c)] Tryz.func12 Tryz.ntmps12 rfl rfl ?_
 repeat' ((conv=>whnf); first | refine sgo ⟨tab_ok⟩ ?_|refine br_not ?_|refine br_t rfl ?_|refine br_f rfl ?_|refine br_t (by assumption) ?_|refine br_f (by assumption) ?_|refine br_t (decide_eq_true (by assumption)) ?_|refine br_f (decide_eq_false (by assumption)) ?_|refine br_t (beq_iff_eq.2 (by assumption)) ?_|refine br_f (beq_eq_false_iff_ne.2 (by assumption)) ?_|refine br_t (decide_eq_true (by omega)) ?_|refine br_f (decide_eq_false (by omega)) ?_|refine fin_s ?_|refine fin_r ?_ ?_|refine fin_e ?_ ?_)
 conv=>whnf
 refine lp ⟨tab_ok⟩ (ι:={y:Nat×List UInt8 // y.1≤n∧y.2=printL ((stL n ss).take y.1)}) (fun y=>match y with | ⟨(i,x),_⟩=>⟨[(0,.v (.slice A n c)),(3,tx x),(4,.i .i64 (i:Int))],[],[stO A n ss]⟩) (fun y=>n - y.1.1) ⟨(0,[]),Nat.zero_le _,by simp [printL]⟩ (wk ?_) ?_
 ·repeat' (first | exact trivial | rfl | ((conv=>whnf); refine And.intro ?_ ?_))
 rintro ⟨⟨i,x⟩,hi,hx⟩
 have hi:i≤n:=hi
 have hx:x=printL ((stL n ss).take i):=hx
 by_cases hlt:i < n
 ·have hA:=hA (by omega)
  subst hA
  have hb:=hs i hlt
  have hnx:=print_next (stL_at (ss:=ss) hlt)
  rw [← hx] at hnx
  have h1:=print_len (stL n ss) i
  have h2:=print_len (stL n ss) (i+1)
  rw [← hx] at h1
  rw [hnx,List.length_append] at h2
  repeat' ((conv=>whnf); first | refine sgo ⟨tab_ok⟩ ?_|refine br_not ?_|refine br_t rfl ?_|refine br_f rfl ?_|refine br_t (by assumption) ?_|refine br_f (by assumption) ?_|refine br_t (decide_eq_true (by assumption)) ?_|refine br_f (decide_eq_false (by assumption)) ?_|refine br_t (beq_iff_eq.2 (by assumption)) ?_|refine br_f (beq_eq_false_iff_ne.2 (by assumption)) ?_|refine drA ⟨tab_ok⟩ [] ?_|refine kpt ?_|refine br_t (decide_eq_true (by omega)) ?_|refine br_f (decide_eq_false (by omega)) ?_|refine wr_i ?_|refine opiv ⟨tab_ok⟩ (by rfl) (by rfl) (by rfl) (by rfl) (by rfl) (by rfl) ⟨by omega,by omega⟩ ?_|refine opix (g:=g) (off:=off+i*4) [.i .i64 (ss i).k,.i .i64 (ss i).a,.i .i64 (ss i).b,.v (.slice (ss i).A (ss i).n (ss i).c)] (fun w1 hH=>Ek.rd_rng (Hold.ob hH (A:=stO (some ⟨g,off,none⟩) n ss) 0 rfl).r hlt) ⟨tab_ok⟩ (by rfl) (by rfl) (by first | (simp only [Go.WideShapes.add_plain]; done)|(simp only [Go.WideShapes.add_plain]; rfl)|(simp [Go.WideShapes.add_plain]; done)) ?_|refine callH (f:=26) (tx (lineL (ss i).k (ss i).a (ss i).b (ss i).d)) (fun w1 hH=>lineR ((Hold.ob hH (A:=stO (some ⟨g,off,none⟩) n ss) 0 rfl).d i hlt) hb.k hb.a hb.b hb.n) ?_|refine opP (pvCat (by rfl) (by rfl) (by rfl) ⟨by omega,by omega⟩) ?_|refine En.back ⟨(i+1,x++lineL (ss i).k (ss i).a (ss i).b (ss i).d),by show i+1≤n; omega,hnx.symm⟩ (wk ?_) ?_|refine fin_s ?_|refine fin_r ?_ ?_|refine fin_e ?_ ?_)
  all_goals first | (show n - (i+1) < n - i; omega)|skip
  all_goals (repeat' (first | exact trivial | rfl | ((conv=>whnf); refine And.intro ?_ ?_)))
 ·have e0:i=n:=by omega
  subst e0
  have e1:x=printL (stL i ss):=by
   rw [hx]
   have:=List.take_length (l:=stL i ss)
   rw [hl] at this
   rw [this]
  repeat' ((conv=>whnf); first | refine sgo ⟨tab_ok⟩ ?_|refine br_not ?_|refine br_t rfl ?_|refine br_f rfl ?_|refine br_t (by assumption) ?_|refine br_f (by assumption) ?_|refine br_t (decide_eq_true (by assumption)) ?_|refine br_f (decide_eq_false (by assumption)) ?_|refine br_t (beq_iff_eq.2 (by assumption)) ?_|refine br_f (beq_eq_false_iff_ne.2 (by assumption)) ?_|refine drA ⟨tab_ok⟩ [] ?_|refine kpt ?_|refine br_t (decide_eq_true (by omega)) ?_|refine br_f (decide_eq_false (by omega)) ?_|refine fin_s ?_|refine fin_r ?_ ?_|refine fin_e ?_ ?_)
  all_goals (rw [e1]; rfl)
end Sw
namespace En
open Go.RowKit Ba Mem
section
variable {X:Cx} {s:St}
theorem rowX {f:FuncId} {vs:List SV} {K:SV→St→Prop} (j:Nat) {r:Row} (C:Asr) (hr:s.m[j]?=some r) (hl:(r.live && r.rw)=true) (hF:C.F=[r.g]) (hC:∀ w,Blk w r.g r.t (rowA s.m r)→C.st w) (hv:denL (s.m.set j { r with live:=false }) vs=denL s.m vs)
  (h:setR j (fun r K=>K { r with live:=false }) s.m fun m=>appO s.ob C fun ob=>CallVC X f vs ⟨s.fr,m,ob⟩ K):CallVC X f vs s K:=by
 simp only [Bool.and_eq_true] at hl
 obtain ⟨r',hr',hs⟩:=setR_of h
 rw [hr] at hr'; cases hr'
 have hs:=appO_of hs
 refine ⟨hs.out.1,fun w hH=>?_⟩
 have hH2:=Hold.toObj hH (C:=C) hr hl.1 hl.2 hF (hC w (hH.row j r hr hl.1))
 have:=hs.out.2 w hH2
 rw [show denL (s.m.set j { r with live:=false }) vs=denL s.m vs from hv] at this
 refine this.mono ?_
 rintro e w' ⟨v,m',ob',h1,h2,h3,h4,h5⟩
 exact ⟨v,m',ob',h1,h2,(Ext.dead hr).trans h3,h4,h5⟩
theorem opixp {o:Oper} {K:St→Prop} {t:TypeId} {x:Operand} {j q:Nat} {r:Row} (cs:List SV) (hj:s.m[j]?=some r) (hr:∀ w,Hold X s.m s.ob w→w.rangeAt r.g (r.off+q) (denL s.m cs)) (hX:X.Ok) (ho:o.op=.load t x) (hx:evO x s.fr=some (.p j q)) (h:put X.n o.dst (.a cs) s K)
  (hn:(match tyO t X.tab with | some y=>y.row && Nat.beq y.size cs.length | none=>false)=true) (hv:okV s.m.length (.a cs)=true):OpVC X o s K:=by
 refine opq (.a cs) (fun a w hf hH=>?_) h hv
 cases hy:tyO t X.tab with
 | none=>simp [hy] at hn
 | some y =>
  simp only [hy,Bool.and_eq_true] at hn
  obtain ⟨d,i,T⟩:=(hX.tab _ _ hy).out
  have he:=(evO_of hf hx).2
  have hl:=run_loadVar_mid (P:=X.P) w r.g (r.off+q) t (denL s.m cs) d (hr w hH) T.un (by rw [T.row,hn.1]) (by rw [T.inf]; simp [T.size,denL_len,Nat.eq_of_beq_eq_true hn.2])
  unfold execOp
  simp only [ho,he,den,hj,Instr.loadAt,Instr.sureAddr,Sem.run_bind,Sem.run_pure,Result.andThen_ok,hl]
end
end En
namespace Sw
open Go.RowKit Ba Mem En Go.Proofs.YtnoehplnmdajnaaGreatDoor.Ty Gw
open Co (Hold.ob)
open Sx
open Go.Lib (itoa)
set_option maxRecDepth 100000
def ptE (b:Nat):Ek Nat:=⟨61,1,fun i=>[.pointer (some ⟨b,i,none⟩)],fun _=>rfl,fun a u hu=>by rw [List.mem_singleton] at hu; subst hu; rfl⟩
attribute [local irreducible] Go.Calls
set_option maxHeartbeats 4000000 in
theorem fieldsR (b:Nat) (w:World):Calls Tryz.prog 23 #[.pointer (some ⟨b,0,none⟩)] w fun e w'=>∃ g:Nat,e=.returned (.slice (some ⟨g,0,none⟩) 18 18)∧(ptE b).At w.heap.size (some ⟨g,0,none⟩) 18 18 (List.range 18) w'∧Since w w':=by
 refine ent tab_ok [.v (.pointer (some ⟨b,0,none⟩))] Tryz.func23 Tryz.ntmps23 rfl rfl ?_
 repeat' ((conv=>whnf); first | refine sgo ⟨tab_ok⟩ ?_|refine br_not ?_|refine br_t rfl ?_|refine br_f rfl ?_|refine br_t (by assumption) ?_|refine br_f (by assumption) ?_|refine br_t (decide_eq_true (by assumption)) ?_|refine br_f (decide_eq_false (by assumption)) ?_|refine br_t (beq_iff_eq.2 (by assumption)) ?_|refine br_f (beq_eq_false_iff_ne.2 (by assumption)) ?_|refine drA (id:=1) ⟨tab_ok⟩ [54] ?_|refine drA ⟨tab_ok⟩ [] ?_|refine kpt ?_|refine br_t (decide_eq_true (by omega)) ?_|refine br_f (decide_eq_false (by omega)) ?_|refine punv (by rfl) (by rfl) ?_|refine pufv ⟨tab_ok⟩ (by rfl) (by rfl) (by rfl) (by rfl) ?_|refine opbo ⟨tab_ok⟩ (ptE b) (List.range 18) [.tmp 5,.tmp 8,.tmp 11,.tmp 14,.tmp 17,.tmp 20,.tmp 23,.tmp 26,.tmp 29,.tmp 32,.tmp 35,.tmp 38,.tmp 41,.tmp 44,.tmp 47,.tmp 50,.tmp 53,.tmp 56] [.v (.pointer (some ⟨b,0,none⟩)),.v (.pointer (some ⟨b,1,none⟩)),.v (.pointer (some ⟨b,2,none⟩)),.v (.pointer (some ⟨b,3,none⟩)),.v (.pointer (some ⟨b,4,none⟩)),.v (.pointer (some ⟨b,5,none⟩)),.v (.pointer (some ⟨b,6,none⟩)),.v (.pointer (some ⟨b,7,none⟩)),.v (.pointer (some ⟨b,8,none⟩)),.v (.pointer (some ⟨b,9,none⟩)),.v (.pointer (some ⟨b,10,none⟩)),.v (.pointer (some ⟨b,11,none⟩)),.v (.pointer (some ⟨b,12,none⟩)),.v (.pointer (some ⟨b,13,none⟩)),.v (.pointer (some ⟨b,14,none⟩)),.v (.pointer (some ⟨b,15,none⟩)),.v (.pointer (some ⟨b,16,none⟩)),.v (.pointer (some ⟨b,17,none⟩))] (by rfl) (by rfl) (by rfl) (by rfl) rfl (fun g=>?_)|refine fin fun w' hH=>⟨g,rfl,Hold.ob hH (A:=rwO (ptE b) w.heap.size (some ⟨g,0,none⟩) 18 18 (List.range 18) true) 0 rfl,hH.upd.since⟩|refine fin_s ?_|refine fin_r ?_ ?_|refine fin_e ?_ ?_)
def cfgI (c:CfgV):List Int:=[c.ca,c.fl,c.ft,c.se,c.dr,c.dw,c.ho,c.re,c.yi,c.qu,c.qo,c.lo,c.sl,c.rt,c.cp,c.tr,c.de,c.wi]
def intsV (l:List Int):List Value:=l.map fun z=>.int .i64 z
theorem pl_rng {lo b i:Nat} {T:TypeId} {vs:List PW} {rest:List Value} {v:Value} {w:World} (h:PlAt lo b T vs rest w) (hv:(vs.map PW.v++rest)[i]?=some v):w.rangeAt b i [v]:=fun j u hj=>by
 cases j with
 | zero =>
  simp at hj
  subst hj
  have:=Blk.cell h.1 (i:=i)
  rw [Nat.add_zero,this]
  unfold plA
  simpa using hv
 | succ j=>simp at hj
theorem nums_len {l:List Int} (h:∀ n∈l,n64 n):(numsL l).length≤23*l.length:=by
 induction l with
 | nil=>exact Nat.zero_le _
 | cons a r ih =>
  have h1:=ito_len (h a (List.mem_cons_self ..))
  have h2:=ih (fun n hn=>h n (List.mem_cons_of_mem _ hn))
  cases r with
  | nil=>show (itoa a).length≤_; simp; omega
  | cons b r =>
   show (itoa a++32::numsL (b::r)).length≤_
   rw [List.length_append,List.length_cons,List.length_cons]
   omega
theorem nums_next {l:List Int} {i:Nat} {n:Int} (h:l[i]?=some n):numsL (l.take (i+1))=(if i=0 then [] else numsL (l.take i)++[32])++itoa n:=by
 have hl:i < l.length:=(List.getElem?_eq_some_iff.1 h).1
 rw [List.take_add_one,h]
 show numsL (l.take i++[n])=_
 rw [numsL_add]
 congr 1
 by_cases h0:i=0
 ·subst h0; simp
 ·have hne:l.take i≠[]:=fun e=>by
   have h2:(l.take i).length=0:=by rw [e]; rfl
   rw [List.length_take] at h2
   omega
  rw [if_neg h0,if_neg hne]
attribute [local irreducible] itoa numsL n64
set_option maxHeartbeats 8000000 in
theorem settingR (c:CfgV) (hc:∀ n∈cfgI c,n64 n) (w:World):Calls Tryz.prog 8 #[.agg #[.int .i64 c.ca,.int .i64 c.fl,.int .i64 c.ft,.int .i64 c.se,.int .i64 c.dr,.int .i64 c.dw,.int .i64 c.ho,.int .i64 c.re,.int .i64 c.yi,.int .i64 c.qu,.int .i64 c.qo,.int .i64 c.lo,.int .i64 c.sl,.int .i64 c.rt,.int .i64 c.cp,.int .i64 c.tr,.int .i64 c.de,.int .i64 c.wi]] w fun e w'=>e=.returned (.string ⟨(setL (cfgI c)).toArray⟩)∧Since w w':=by
 have hl18:(cfgI c).length=18:=rfl
 refine ent tab_ok [.a [.i .i64 c.ca,.i .i64 c.fl,.i .i64 c.ft,.i .i64 c.se,.i .i64 c.dr,.i .i64 c.dw,.i .i64 c.ho,.i .i64 c.re,.i .i64 c.yi,.i .i64 c.qu,.i .i64 c.qo,.i .i64 c.lo,.i .i64 c.sl,.i .i64 c.rt,.i .i64 c.cp,.i .i64 c.tr,.i .i64 c.de,.i .i64 c.wi]] Tryz.func8 Tryz.ntmps8 rfl rfl ?_
 repeat' ((conv=>whnf); first | refine sgo ⟨tab_ok⟩ ?_|refine br_not ?_|refine br_t rfl ?_|refine br_f rfl ?_|refine br_t (by assumption) ?_|refine br_f (by assumption) ?_|refine br_t (decide_eq_true (by assumption)) ?_|refine br_f (decide_eq_false (by assumption)) ?_|refine br_t (beq_iff_eq.2 (by assumption)) ?_|refine br_f (beq_eq_false_iff_ne.2 (by assumption)) ?_|refine drA ⟨tab_ok⟩ [] ?_|refine kpt ?_|refine br_t (decide_eq_true (by omega)) ?_|refine br_f (decide_eq_false (by omega)) ?_|refine fin_s ?_|refine fin_r ?_ ?_|refine fin_e ?_ ?_)
 conv=>whnf
 intro b0
 repeat' ((conv=>whnf); first | refine sgo ⟨tab_ok⟩ ?_|refine br_not ?_|refine br_t rfl ?_|refine br_f rfl ?_|refine br_t (by assumption) ?_|refine br_f (by assumption) ?_|refine br_t (decide_eq_true (by assumption)) ?_|refine br_f (decide_eq_false (by assumption)) ?_|refine br_t (beq_iff_eq.2 (by assumption)) ?_|refine br_f (beq_eq_false_iff_ne.2 (by assumption)) ?_|refine drA ⟨tab_ok⟩ [] ?_|refine kpt ?_|refine br_t (decide_eq_true (by omega)) ?_|refine br_f (decide_eq_false (by omega)) ?_|refine rowX (f:=23) 0 (plO w.heap.size b0 23 [] (intsV (cfgI c))) (by rfl) (by rfl) (by rfl) (fun w h=>⟨h,by intro x hx; cases hx⟩) (by rfl) ?_|refine callN (f:=23) (ι:=Nat) (fun g=>.v (.slice (some ⟨g,0,none⟩) 18 18)) (fun g=>rwO (ptE b0) w.heap.size (some ⟨g,0,none⟩) 18 18 (List.range 18) true) (fun w1 hH=>(fieldsR b0 w1).mono (by rintro e w' ⟨g,rfl,h1,h2⟩; exact ⟨g,rfl,Ek.base h1 hH.upd.size,h2,Ek.lows h1⟩)) (fun g=>?_)|refine fin_s ?_|refine fin_r ?_ ?_|refine fin_e ?_ ?_)
 conv=>whnf
 refine lp ⟨tab_ok⟩ (ι:={y:Nat×List UInt8 // y.1≤18∧y.2=numsL ((cfgI c).take y.1)}) (fun y=>match y with | ⟨(i,x),_⟩=>⟨[(3,tx x),(4,.v (.slice (some ⟨g,0,none⟩) 18 18)),(5,.i .i64 (i:Int))],[],[plO w.heap.size b0 23 [] (intsV (cfgI c)),rwO (ptE b0) w.heap.size (some ⟨g,0,none⟩) 18 18 (List.range 18) true]⟩) (fun y=>18 - y.1.1) ⟨(0,[]),Nat.zero_le _,by unfold numsL; rfl⟩ (wkd ?_) ?_
 ·repeat' (first | exact trivial | rfl | ((conv=>whnf); refine And.intro ?_ ?_))
 rintro ⟨⟨i,x⟩,hi0,hx0⟩
 have hi:i≤18:=hi0
 have hx:x=numsL ((cfgI c).take i):=hx0
 have hxl:x.length≤414:=by
  have:=nums_len (l:=(cfgI c).take i) (fun n hn=>hc n (List.mem_of_mem_take hn))
  rw [← hx,List.length_take] at this
  omega
 by_cases hlt:i < 18
 ·obtain ⟨n,hn⟩:∃ n,(cfgI c)[i]?=some n:=⟨_,List.getElem?_eq_getElem (by omega)⟩
  have hn64:=hc n (List.mem_of_getElem? hn)
  have hnl:=ito_len hn64
  have hnx:=nums_next hn
  have hri:(List.range 18)[i]?=some i:=List.getElem?_range hlt
  have hvi:(([]:List PW).map PW.v++intsV (cfgI c))[i]?=some (.int .i64 n):=by
   show (intsV (cfgI c))[i]?=_
   unfold intsV
   rw [List.getElem?_map,hn]; rfl
  by_cases h0:i=0
  ·rw [if_pos h0] at hnx
   have hx0:x=[]:=by rw [hx,h0]; unfold numsL; rfl
   subst hx0
   repeat' ((conv=>whnf); first | refine sgo ⟨tab_ok⟩ ?_|refine br_not ?_|refine br_t rfl ?_|refine br_f rfl ?_|refine br_t (by assumption) ?_|refine br_f (by assumption) ?_|refine br_t (decide_eq_true (by assumption)) ?_|refine br_f (decide_eq_false (by assumption)) ?_|refine br_t (beq_iff_eq.2 (by assumption)) ?_|refine br_f (beq_eq_false_iff_ne.2 (by assumption)) ?_|refine drA ⟨tab_ok⟩ [] ?_|refine kpt ?_|refine br_t (decide_eq_true (by omega)) ?_|refine br_f (decide_eq_false (by omega)) ?_|refine wr_i ?_|refine opiv ⟨tab_ok⟩ (by rfl) (by rfl) (by rfl) (by rfl) (by rfl) (by rfl) ⟨by omega,by omega⟩ ?_|refine opxc (g:=g) (off:=0+i*1) (.v (.pointer (some ⟨b0,i,none⟩))) (fun w1 hH=>Ek.rng (Hold.ob hH (A:=rwO (ptE b0) w.heap.size (some ⟨g,0,none⟩) 18 18 (List.range 18) true) 1 rfl) hri) ⟨tab_ok⟩ (by rfl) (by rfl) (by first | (simp only [Go.WideShapes.add_plain]; done)|(simp only [Go.WideShapes.add_plain]; rfl)) ?_|refine opnv (by rfl) (by rfl) ?_|refine opxc (g:=b0) (off:=i) (.i .i64 n) (fun w1 hH=>pl_rng (Hold.ob hH (A:=plO w.heap.size b0 23 [] (intsV (cfgI c))) 0 rfl) hvi) ⟨tab_ok⟩ (by rfl) (by rfl) (by rfl) ?_|refine callS (f:=9) (tx (itoa n)) (fun w=>decT n hn64 w) ?_|refine opP (pvCat (by rfl) (by rfl) (by rfl) ⟨by omega,by omega⟩) ?_|refine En.back ⟨(i+1,[]++itoa n),by show i+1≤18; omega,hnx.symm⟩ (wkd ?_) ?_|refine fin_s ?_|refine fin_r ?_ ?_|refine fin_e ?_ ?_)
   all_goals first | (show 18 - (i+1) < 18 - i; omega)|skip
   all_goals (repeat' (first | exact trivial | rfl | ((conv=>whnf); refine And.intro ?_ ?_)))
  ·rw [if_neg h0,← hx] at hnx
   repeat' ((conv=>whnf); first | refine sgo ⟨tab_ok⟩ ?_|refine br_not ?_|refine br_t rfl ?_|refine br_f rfl ?_|refine br_t (by assumption) ?_|refine br_f (by assumption) ?_|refine br_t (decide_eq_true (by assumption)) ?_|refine br_f (decide_eq_false (by assumption)) ?_|refine br_t (beq_iff_eq.2 (by assumption)) ?_|refine br_f (beq_eq_false_iff_ne.2 (by assumption)) ?_|refine drA ⟨tab_ok⟩ [] ?_|refine kpt ?_|refine br_t (decide_eq_true (by omega)) ?_|refine br_f (decide_eq_false (by omega)) ?_|refine wr_i ?_|refine opiv ⟨tab_ok⟩ (by rfl) (by rfl) (by rfl) (by rfl) (by rfl) (by rfl) ⟨by omega,by omega⟩ ?_|refine opxc (g:=g) (off:=0+i*1) (.v (.pointer (some ⟨b0,i,none⟩))) (fun w1 hH=>Ek.rng (Hold.ob hH (A:=rwO (ptE b0) w.heap.size (some ⟨g,0,none⟩) 18 18 (List.range 18) true) 1 rfl) hri) ⟨tab_ok⟩ (by rfl) (by rfl) (by first | (simp only [Go.WideShapes.add_plain]; done)|(simp only [Go.WideShapes.add_plain]; rfl)) ?_|refine opnv (by rfl) (by rfl) ?_|refine opxc (g:=b0) (off:=i) (.i .i64 n) (fun w1 hH=>pl_rng (Hold.ob hH (A:=plO w.heap.size b0 23 [] (intsV (cfgI c))) 0 rfl) hvi) ⟨tab_ok⟩ (by rfl) (by rfl) (by rfl) ?_|refine callS (f:=9) (tx (itoa n)) (fun w=>decT n hn64 w) ?_|refine opP (pvCat (xs:=x) (ys:=[32]) (by rfl) (by rfl) (by rfl) ⟨by omega,by show 0+1≤8388608; omega⟩) ?_|refine opP (pvCat (xs:=x++[32]) (ys:=itoa n) (by rfl) (by rfl) (by rfl) ⟨by rw [List.length_append]; show _+(0+1)≤8388608; omega,by omega⟩) ?_|refine En.back ⟨(i+1,x++[32]++itoa n),by show i+1≤18; omega,hnx.symm⟩ (wkd ?_) ?_|refine fin_s ?_|refine fin_r ?_ ?_|refine fin_e ?_ ?_)
   all_goals first | (show 18 - (i+1) < 18 - i; omega)|skip
   all_goals (repeat' (first | exact trivial | rfl | ((conv=>whnf); refine And.intro ?_ ?_)))
 ·have e0:i=18:=by omega
  have e1:x=numsL (cfgI c):=by rw [hx,e0]; rfl
  repeat' ((conv=>whnf); first | refine sgo ⟨tab_ok⟩ ?_|refine br_not ?_|refine br_t rfl ?_|refine br_f rfl ?_|refine br_t (by assumption) ?_|refine br_f (by assumption) ?_|refine br_t (decide_eq_true (by assumption)) ?_|refine br_f (decide_eq_false (by assumption)) ?_|refine br_t (beq_iff_eq.2 (by assumption)) ?_|refine br_f (beq_eq_false_iff_ne.2 (by assumption)) ?_|refine drA ⟨tab_ok⟩ [] ?_|refine kpt ?_|refine br_t (decide_eq_true (by omega)) ?_|refine br_f (decide_eq_false (by omega)) ?_|refine wr_i ?_|refine opP (pvCat (xs:=x) (ys:=[10]) (by rfl) (by rfl) (by rfl) ⟨by omega,by show 0+1≤8388608; omega⟩) ?_|refine fin_s ?_|refine fin_r ?_ ?_|refine fin_e ?_ ?_)
  all_goals (rw [e1]; rfl)
end Sw
namespace En
open Go.RowKit Ba Mem
theorem opia {X:Cx} {s:St} {o:Oper} {K:St→Prop} {t e:TypeId} {x ix:Operand} {j q n:Nat} {k:IntKind} {I:Int} (i:Nat) {r:Row} (ho:o.op=.indexAddr t x ix) (hx:evO x s.fr=some (.p j q)) (hi:evO ix s.fr=some (.i k I)) (hI:I=(i:Int)∧i < n) (hr:s.m[j]?=some r) (ht:X.P.underlying t=some (.array n e)) (hs:(X.P.info? e).map (·.size)=some 1)
  (h:put X.n o.dst (.p j (q+i)) s K):OpVC X o s K :=
 opq (.p j (q+i)) (fun a w hf _=>by
  obtain ⟨rfl,hlt⟩:=hI
  obtain ⟨inf,hinf,hsz⟩:=Option.map_eq_some_iff.1 hs
  have h2:=(evO_of hf hx).2
  have k2:=(evO_of hf hi).2
  have hz:(sizeOf e).run X.P=fun w=>.ok 1 w:=by funext w; simp [sizeOf,typeInfo,hinf,hsz]
  have hb:(0:Int)≤(i:Int)∧(i:Int) < (n:Int):=by omega
  unfold execOp
  simp only [ho,h2,k2,den,hr,Instr.indexAt,asIntOf,Instr.sureAddr,Sem.run_bind,Sem.run_pure,Result.andThen_ok,run_underlying ht,hz,if_pos hb,Option.map_some]
  simp [Go.WideShapes.add_plain,Nat.add_assoc]) h (by simp [okV,Nat.blt_eq,(List.getElem?_eq_some_iff.1 hr).1])
end En
namespace Sw
open Go.RowKit Ba Mem En Go.Proofs.YtnoehplnmdajnaaGreatDoor.Ty Gw
open Co (Hold.ob)
open Sx
set_option maxRecDepth 100000
def sD (y:Option SP):SP:=match y with
 | some x=>x
 | none=>⟨0,0,0,[]⟩
def rlP (w:World) (y:Option SP) (e:Ending) (w':World):Prop:=∃ z:Option Addr×Nat,e=.returned (.tuple #[.agg #[.int .i64 (sD y).k,.int .i64 (sD y).a,.int .i64 (sD y).b,.slice z.1 (zsN (sD y).d).length z.2],.bool y.isSome])∧byteE.At w.heap.size z.1 (zsN (sD y).d).length z.2 (zsN (sD y).d) w'∧Since w w'
attribute [local irreducible] Go.Calls numR datV spl
theorem rl_no {w w':World} {e:Ending} {y:Option SP} (hy:y=none) (he:e=.returned (.tuple #[.agg #[.int .i64 0,.int .i64 0,.int .i64 0,.slice none 0 0],.bool false])) (hs:Since w w'):rlP w y e w':=by
 subst hy
 exact ⟨(none,0),by rw [he]; show _=Ending.returned (.tuple #[.agg #[_,_,_,.slice none (zsN []).length 0],_]); rw [zsN_0]; rfl,by show byteE.At _ none (zsN []).length 0 (zsN []) w'; rw [zsN_0]; exact Ek.nil _ _ _,hs⟩
theorem cutR4 {s p q r t:List UInt8} (hs:s.length≤900000) (h:spl s=[p,q,r,t]) (w:World):Calls Tryz.prog 24 #[.string ⟨s.toArray⟩] w fun e w'=>∃ y:Nat×Nat,e=.returned (.slice (some ⟨y.1,0,none⟩) 4 y.2)∧strE.At w.heap.size (some ⟨y.1,0,none⟩) 4 y.2 [p,q,r,t] w'∧Since w w':=by
 refine (cutR s hs w).mono ?_
 rintro e w' ⟨⟨A,c⟩,rfl,h1,h2⟩
 rw [h] at h1 ⊢
 have h1:strE.At w.heap.size A 4 c [p,q,r,t] w':=h1
 rcases own_at h1 with ⟨_,h0,_⟩ | ⟨g,_,rfl,_⟩
 ·exact absurd h0 (by decide)
 ·exact ⟨(g,c),rfl,h1,h2⟩
theorem numberS {s:List UInt8} {n:Int} (hl:s.length≤1000000) (h:numR s=some n) (w:World):Calls Tryz.prog 25 #[.string ⟨s.toArray⟩] w fun e w'=>e=.returned (.tuple #[.int .i64 n,.bool true])∧Since w w':=by
 have:=numberR s hl w
 rw [h] at this; exact this
theorem numberN {s:List UInt8} (hl:s.length≤1000000) (h:numR s=none) (w:World):Calls Tryz.prog 25 #[.string ⟨s.toArray⟩] w fun e w'=>e=.returned (.tuple #[.int .i64 0,.bool false])∧Since w w':=by
 have:=numberR s hl w
 rw [h] at this; exact this
theorem line_no4 {s:List UInt8} (h:(spl s).length≠4):lineV s=none:=by
 unfold lineV
 match spl s,h with
 | [],_=>rfl
 | [_],_=>rfl
 | [_,_],_=>rfl
 | [_,_,_],_=>rfl
 | [_,_,_,_],h=>exact absurd rfl h
 | _::_::_::_::_::_,_=>rfl
theorem line_4 {s p q r t:List UInt8} (h:spl s=[p,q,r,t]):lineV s=match numR p,numR q,numR r,datV t with
  | some k,some a,some b,some d=>some ⟨k,a,b,d⟩
  | _,_,_,_=>none:=by
 unfold lineV
 rw [h,lineW_4,num_same,num_same,num_same]
 cases numR p <;> cases numR q <;> cases numR r <;> cases datV t <;> rfl
theorem at4 {s:List UInt8} (h:(spl s).length=4):∃ p q r t,spl s=[p,q,r,t]:=by
 match spl s,h with
 | [p,q,r,t],_=>exact ⟨p,q,r,t,rfl⟩
theorem spl_0:spl []=[[]]:=by unfold spl; rfl
theorem word_len:∀ {s w:List UInt8},w∈spl s→w.length≤s.length
 | [],w,h=>by
  rw [spl_0,List.mem_singleton] at h
  rw [h]; exact Nat.le_refl _
 | c::r,w,h=>by
  rw [spl_c] at h
  split at h
  ·rcases List.mem_cons.1 h with rfl | h
   ·exact Nat.zero_le _
   ·have:=word_len h; rw [List.length_cons]; omega
  ·split at h
   ·rw [List.mem_singleton.1 h]; simp
   ·rename_i v vs e
    rcases List.mem_cons.1 h with rfl | h
    ·have:=word_len (s:=r) (w:=v) (by rw [e]; exact List.mem_cons_self ..)
     rw [List.length_cons,List.length_cons]; omega
    ·have:=word_len (s:=r) (w:=w) (by rw [e]; exact List.mem_cons_of_mem _ h)
     rw [List.length_cons]; omega
structure NI (p q r:List UInt8) (i:Nat) (a b c:Int):Prop where
 le:i≤3
 a1:0 < i→numR p=some a
 a0:i≤0→a=0
 b1:1 < i→numR q=some b
 b0:i≤1→b=0
 c1:2 < i→numR r=some c
 c0:i≤2→c=0
theorem NI.z (p q r:List UInt8):NI p q r 0 0 0 0:=⟨by decide,fun h=>by omega,fun _=>rfl,fun h=>by omega,fun _=>rfl,fun h=>by omega,fun _=>rfl⟩
theorem NI.s0 {p q r:List UInt8} {a b c m:Int} (h:NI p q r 0 a b c) (hm:numR p=some m):NI p q r 1 m b c:=⟨by decide,fun _=>hm,fun h=>by omega,fun h=>by omega,fun _=>h.b0 (by decide),fun h=>by omega,fun _=>h.c0 (by decide)⟩
theorem NI.s1 {p q r:List UInt8} {a b c m:Int} (h:NI p q r 1 a b c) (hm:numR q=some m):NI p q r 2 a m c:=⟨by decide,fun _=>h.a1 (by decide),fun h=>by omega,fun _=>hm,fun h=>by omega,fun h=>by omega,fun _=>h.c0 (by decide)⟩
theorem NI.s2 {p q r:List UInt8} {a b c m:Int} (h:NI p q r 2 a b c) (hm:numR r=some m):NI p q r 3 a b m:=⟨by decide,fun _=>h.a1 (by decide),fun h=>by omega,fun _=>h.b1 (by decide),fun h=>by omega,fun _=>hm,fun h=>by omega⟩
theorem rl_yes {w w':World} {e:Ending} {y:Option SP} {x:SP} {A:Option Addr} {c:Nat} (hy:y=some x) (h:(rwO byteE w.heap.size A (zsN x.d).length c (zsN x.d) true).st w') (he:e=.returned (.tuple #[.agg #[.int .i64 x.k,.int .i64 x.a,.int .i64 x.b,.slice A (zsN x.d).length c],.bool true])) (hs:Since w w'):rlP w y e w':=by
 subst hy
 exact ⟨(A,c),he,h,hs⟩
set_option maxHeartbeats 8000000 in
theorem rlR (s:List UInt8) (hs:s.length≤900000) (w:World):Calls Tryz.prog 13 #[.string ⟨s.toArray⟩] w (rlP w (lineV s)):=by
 by_cases h4:(spl s).length=4
 ·obtain ⟨p,q,r,t,hw⟩:=at4 h4
  have hl4:=line_4 hw
  have hp:=word_len (s:=s) (w:=p) (by rw [hw]; simp)
  have hq:=word_len (s:=s) (w:=q) (by rw [hw]; simp)
  have hr:=word_len (s:=s) (w:=r) (by rw [hw]; simp)
  have ht:=word_len (s:=s) (w:=t) (by rw [hw]; simp)
  have hcut:=cutR4 hs hw
  refine ent tab_ok [tx s] Tryz.func13 Tryz.ntmps13 rfl rfl ?_
  repeat' ((conv=>whnf); first | refine sgo ⟨tab_ok⟩ ?_|refine br_not ?_|refine br_t rfl ?_|refine br_f rfl ?_|refine br_t (by assumption) ?_|refine br_f (by assumption) ?_|refine br_t (decide_eq_true (by assumption)) ?_|refine br_f (decide_eq_false (by assumption)) ?_|refine br_t (beq_iff_eq.2 (by assumption)) ?_|refine br_f (beq_eq_false_iff_ne.2 (by assumption)) ?_|refine drA ⟨tab_ok⟩ [] ?_|refine kpt ?_|refine br_t (decide_eq_true (by omega)) ?_|refine br_f (decide_eq_false (by omega)) ?_|refine fin_s ?_|refine fin_r ?_ ?_|refine fin_e ?_ ?_)
  conv=>whnf
  intro b0
  repeat' ((conv=>whnf); first | refine sgo ⟨tab_ok⟩ ?_|refine br_not ?_|refine br_t rfl ?_|refine br_f rfl ?_|refine br_t (by assumption) ?_|refine br_f (by assumption) ?_|refine br_t (decide_eq_true (by assumption)) ?_|refine br_f (decide_eq_false (by assumption)) ?_|refine br_t (beq_iff_eq.2 (by assumption)) ?_|refine br_f (beq_eq_false_iff_ne.2 (by assumption)) ?_|refine drA ⟨tab_ok⟩ [] ?_|refine kpt ?_|refine br_t (decide_eq_true (by omega)) ?_|refine br_f (decide_eq_false (by omega)) ?_|refine callN (f:=24) (ι:=Nat×Nat) (fun y=>.v (.slice (some ⟨y.1,0,none⟩) 4 y.2)) (fun y=>rwO strE w.heap.size (some ⟨y.1,0,none⟩) 4 y.2 [p,q,r,t] true) (fun w1 hH=>(hcut w1).mono (by rintro e w' ⟨y,rfl,h1,h2⟩; exact ⟨y,rfl,Ek.base h1 hH.upd.size,h2,Ek.lows h1⟩)) (fun y=>?_)|refine fin_s ?_|refine fin_r ?_ ?_|refine fin_e ?_ ?_)
  conv=>whnf
  intro b1
  repeat' ((conv=>whnf); first | refine sgo ⟨tab_ok⟩ ?_|refine br_not ?_|refine br_t rfl ?_|refine br_f rfl ?_|refine br_t (by assumption) ?_|refine br_f (by assumption) ?_|refine br_t (decide_eq_true (by assumption)) ?_|refine br_f (decide_eq_false (by assumption)) ?_|refine br_t (beq_iff_eq.2 (by assumption)) ?_|refine br_f (beq_eq_false_iff_ne.2 (by assumption)) ?_|refine drA ⟨tab_ok⟩ [] ?_|refine kpt ?_|refine br_t (decide_eq_true (by omega)) ?_|refine br_f (decide_eq_false (by omega)) ?_|refine fin_s ?_|refine fin_r ?_ ?_|refine fin_e ?_ ?_)
  conv=>whnf
  refine lp ⟨tab_ok⟩ (ι:={v:Nat×Int×Int×Int // NI p q r v.1 v.2.1 v.2.2.1 v.2.2.2}) (fun v=>match v with | ⟨(i,a,b,c),_⟩=>⟨[(0,tx s),(2,.p 0 0),(3,.b false),(4,.v (.slice (some ⟨y.1,0,none⟩) 4 y.2)),(5,.p 1 0),(6,.i .i64 (i:Int))],[⟨b0,40,true,0,[],[.i .i64 0,.i .i64 0,.i .i64 0,.v (.slice none 0 0)],[],true⟩,⟨b1,67,true,0,[],[.i .i64 a,.i .i64 b,.i .i64 c],[],true⟩],[rwO strE w.heap.size (some ⟨y.1,0,none⟩) 4 y.2 [p,q,r,t] true]⟩) (fun v=>3 - v.1.1) ⟨(0,0,0,0),NI.z p q r⟩ (wk ?_) ?_
  ·repeat' (first | exact trivial | rfl | ((conv=>whnf); refine And.intro ?_ ?_))
  rintro ⟨⟨i,a,b,c⟩,hI⟩
  have hI:NI p q r i a b c:=hI
  have hi:=hI.le
  rcases (by omega:i=0∨i=1∨i=2∨i=3) with rfl | rfl | rfl | rfl
  ·rcases hm:numR p with _|m
   ·have hno:lineV s=none:=by rw [hl4]; rw [hm]
    repeat' ((conv=>whnf); first | refine sgo ⟨tab_ok⟩ ?_|refine br_not ?_|refine br_t rfl ?_|refine br_f rfl ?_|refine br_t (by assumption) ?_|refine br_f (by assumption) ?_|refine br_t (decide_eq_true (by assumption)) ?_|refine br_f (decide_eq_false (by assumption)) ?_|refine br_t (beq_iff_eq.2 (by assumption)) ?_|refine br_f (beq_eq_false_iff_ne.2 (by assumption)) ?_|refine drA ⟨tab_ok⟩ [] ?_|refine kpt ?_|refine br_t (decide_eq_true (by omega)) ?_|refine br_f (decide_eq_false (by omega)) ?_|refine wr_i ?_|refine opiv ⟨tab_ok⟩ (by rfl) (by rfl) (by rfl) (by rfl) (by rfl) (by rfl) ⟨by decide,by decide⟩ ?_|refine opxc (g:=y.1) (off:=0+0*1) (tx p) (fun w1 hH=>Ek.rng (Hold.ob hH (A:=rwO strE w.heap.size (some ⟨y.1,0,none⟩) 4 y.2 [p,q,r,t] true) 0 rfl) (k:=0) rfl) ⟨tab_ok⟩ (by rfl) (by rfl) (by rfl) ?_|refine opxc (g:=y.1) (off:=0+1*1) (tx q) (fun w1 hH=>Ek.rng (Hold.ob hH (A:=rwO strE w.heap.size (some ⟨y.1,0,none⟩) 4 y.2 [p,q,r,t] true) 0 rfl) (k:=1) rfl) ⟨tab_ok⟩ (by rfl) (by rfl) (by rfl) ?_|refine opxc (g:=y.1) (off:=0+2*1) (tx r) (fun w1 hH=>Ek.rng (Hold.ob hH (A:=rwO strE w.heap.size (some ⟨y.1,0,none⟩) 4 y.2 [p,q,r,t] true) 0 rfl) (k:=2) rfl) ⟨tab_ok⟩ (by rfl) (by rfl) (by rfl) ?_|refine opxc (g:=y.1) (off:=0+3*1) (tx t) (fun w1 hH=>Ek.rng (Hold.ob hH (A:=rwO strE w.heap.size (some ⟨y.1,0,none⟩) 4 y.2 [p,q,r,t] true) 0 rfl) (k:=3) rfl) ⟨tab_ok⟩ (by rfl) (by rfl) (by rfl) ?_|refine callS (f:=25) (.t [.i .i64 0,.b false]) (fun w=>numberN (by omega) hm w) ?_|refine fin fun w' hH=>rl_no hno rfl hH.upd.since | refine fin_s ?_|refine fin_r ?_ ?_|refine fin_e ?_ ?_)
   ·repeat' ((conv=>whnf); first | refine sgo ⟨tab_ok⟩ ?_|refine br_not ?_|refine br_t rfl ?_|refine br_f rfl ?_|refine br_t (by assumption) ?_|refine br_f (by assumption) ?_|refine br_t (decide_eq_true (by assumption)) ?_|refine br_f (decide_eq_false (by assumption)) ?_|refine br_t (beq_iff_eq.2 (by assumption)) ?_|refine br_f (beq_eq_false_iff_ne.2 (by assumption)) ?_|refine drA ⟨tab_ok⟩ [] ?_|refine kpt ?_|refine br_t (decide_eq_true (by omega)) ?_|refine br_f (decide_eq_false (by omega)) ?_|refine wr_i ?_|refine opiv ⟨tab_ok⟩ (by rfl) (by rfl) (by rfl) (by rfl) (by rfl) (by rfl) ⟨by decide,by decide⟩ ?_|refine opxc (g:=y.1) (off:=0+0*1) (tx p) (fun w1 hH=>Ek.rng (Hold.ob hH (A:=rwO strE w.heap.size (some ⟨y.1,0,none⟩) 4 y.2 [p,q,r,t] true) 0 rfl) (k:=0) rfl) ⟨tab_ok⟩ (by rfl) (by rfl) (by rfl) ?_|refine opxc (g:=y.1) (off:=0+1*1) (tx q) (fun w1 hH=>Ek.rng (Hold.ob hH (A:=rwO strE w.heap.size (some ⟨y.1,0,none⟩) 4 y.2 [p,q,r,t] true) 0 rfl) (k:=1) rfl) ⟨tab_ok⟩ (by rfl) (by rfl) (by rfl) ?_|refine opxc (g:=y.1) (off:=0+2*1) (tx r) (fun w1 hH=>Ek.rng (Hold.ob hH (A:=rwO strE w.heap.size (some ⟨y.1,0,none⟩) 4 y.2 [p,q,r,t] true) 0 rfl) (k:=2) rfl) ⟨tab_ok⟩ (by rfl) (by rfl) (by rfl) ?_|refine opxc (g:=y.1) (off:=0+3*1) (tx t) (fun w1 hH=>Ek.rng (Hold.ob hH (A:=rwO strE w.heap.size (some ⟨y.1,0,none⟩) 4 y.2 [p,q,r,t] true) 0 rfl) (k:=3) rfl) ⟨tab_ok⟩ (by rfl) (by rfl) (by rfl) ?_|refine callS (f:=25) (.t [.i .i64 m,.b true]) (fun w=>numberS (by omega) hm w) ?_|refine opia 0 (by rfl) (by rfl) (by rfl) ⟨rfl,by decide⟩ (by rfl) (Tryz.underlying67) (by kernel_rfl) ?_|refine En.back ⟨(1,m,b,c),hI.s0 hm⟩ (wkd ?_) ?_|refine fin_s ?_|refine fin_r ?_ ?_|refine fin_e ?_ ?_)
    all_goals first | (show 3 - (0+1) < 3 - 0; omega)|skip
    all_goals (repeat' (first | exact trivial | rfl | ((conv=>whnf); refine And.intro ?_ ?_)))
  ·rcases hm:numR q with _|m
   ·have hno:lineV s=none:=by rw [hl4]; rw [hI.a1 (by decide),hm]
    repeat' ((conv=>whnf); first | refine sgo ⟨tab_ok⟩ ?_|refine br_not ?_|refine br_t rfl ?_|refine br_f rfl ?_|refine br_t (by assumption) ?_|refine br_f (by assumption) ?_|refine br_t (decide_eq_true (by assumption)) ?_|refine br_f (decide_eq_false (by assumption)) ?_|refine br_t (beq_iff_eq.2 (by assumption)) ?_|refine br_f (beq_eq_false_iff_ne.2 (by assumption)) ?_|refine drA ⟨tab_ok⟩ [] ?_|refine kpt ?_|refine br_t (decide_eq_true (by omega)) ?_|refine br_f (decide_eq_false (by omega)) ?_|refine wr_i ?_|refine opiv ⟨tab_ok⟩ (by rfl) (by rfl) (by rfl) (by rfl) (by rfl) (by rfl) ⟨by decide,by decide⟩ ?_|refine opxc (g:=y.1) (off:=0+0*1) (tx p) (fun w1 hH=>Ek.rng (Hold.ob hH (A:=rwO strE w.heap.size (some ⟨y.1,0,none⟩) 4 y.2 [p,q,r,t] true) 0 rfl) (k:=0) rfl) ⟨tab_ok⟩ (by rfl) (by rfl) (by rfl) ?_|refine opxc (g:=y.1) (off:=0+1*1) (tx q) (fun w1 hH=>Ek.rng (Hold.ob hH (A:=rwO strE w.heap.size (some ⟨y.1,0,none⟩) 4 y.2 [p,q,r,t] true) 0 rfl) (k:=1) rfl) ⟨tab_ok⟩ (by rfl) (by rfl) (by rfl) ?_|refine opxc (g:=y.1) (off:=0+2*1) (tx r) (fun w1 hH=>Ek.rng (Hold.ob hH (A:=rwO strE w.heap.size (some ⟨y.1,0,none⟩) 4 y.2 [p,q,r,t] true) 0 rfl) (k:=2) rfl) ⟨tab_ok⟩ (by rfl) (by rfl) (by rfl) ?_|refine opxc (g:=y.1) (off:=0+3*1) (tx t) (fun w1 hH=>Ek.rng (Hold.ob hH (A:=rwO strE w.heap.size (some ⟨y.1,0,none⟩) 4 y.2 [p,q,r,t] true) 0 rfl) (k:=3) rfl) ⟨tab_ok⟩ (by rfl) (by rfl) (by rfl) ?_|refine callS (f:=25) (.t [.i .i64 0,.b false]) (fun w=>numberN (by omega) hm w) ?_|refine fin fun w' hH=>rl_no hno rfl hH.upd.since | refine fin_s ?_|refine fin_r ?_ ?_|refine fin_e ?_ ?_)
   ·repeat' ((conv=>whnf); first | refine sgo ⟨tab_ok⟩ ?_|refine br_not ?_|refine br_t rfl ?_|refine br_f rfl ?_|refine br_t (by assumption) ?_|refine br_f (by assumption) ?_|refine br_t (decide_eq_true (by assumption)) ?_|refine br_f (decide_eq_false (by assumption)) ?_|refine br_t (beq_iff_eq.2 (by assumption)) ?_|refine br_f (beq_eq_false_iff_ne.2 (by assumption)) ?_|refine drA ⟨tab_ok⟩ [] ?_|refine kpt ?_|refine br_t (decide_eq_true (by omega)) ?_|refine br_f (decide_eq_false (by omega)) ?_|refine wr_i ?_|refine opiv ⟨tab_ok⟩ (by rfl) (by rfl) (by rfl) (by rfl) (by rfl) (by rfl) ⟨by decide,by decide⟩ ?_|refine opxc (g:=y.1) (off:=0+0*1) (tx p) (fun w1 hH=>Ek.rng (Hold.ob hH (A:=rwO strE w.heap.size (some ⟨y.1,0,none⟩) 4 y.2 [p,q,r,t] true) 0 rfl) (k:=0) rfl) ⟨tab_ok⟩ (by rfl) (by rfl) (by rfl) ?_|refine opxc (g:=y.1) (off:=0+1*1) (tx q) (fun w1 hH=>Ek.rng (Hold.ob hH (A:=rwO strE w.heap.size (some ⟨y.1,0,none⟩) 4 y.2 [p,q,r,t] true) 0 rfl) (k:=1) rfl) ⟨tab_ok⟩ (by rfl) (by rfl) (by rfl) ?_|refine opxc (g:=y.1) (off:=0+2*1) (tx r) (fun w1 hH=>Ek.rng (Hold.ob hH (A:=rwO strE w.heap.size (some ⟨y.1,0,none⟩) 4 y.2 [p,q,r,t] true) 0 rfl) (k:=2) rfl) ⟨tab_ok⟩ (by rfl) (by rfl) (by rfl) ?_|refine opxc (g:=y.1) (off:=0+3*1) (tx t) (fun w1 hH=>Ek.rng (Hold.ob hH (A:=rwO strE w.heap.size (some ⟨y.1,0,none⟩) 4 y.2 [p,q,r,t] true) 0 rfl) (k:=3) rfl) ⟨tab_ok⟩ (by rfl) (by rfl) (by rfl) ?_|refine callS (f:=25) (.t [.i .i64 m,.b true]) (fun w=>numberS (by omega) hm w) ?_|refine opia 1 (by rfl) (by rfl) (by rfl) ⟨rfl,by decide⟩ (by rfl) (Tryz.underlying67) (by kernel_rfl) ?_|refine En.back ⟨(2,a,m,c),hI.s1 hm⟩ (wkd ?_) ?_|refine fin_s ?_|refine fin_r ?_ ?_|refine fin_e ?_ ?_)
    all_goals first | (show 3 - (1+1) < 3 - 1; omega)|skip
    all_goals (repeat' (first | exact trivial | rfl | ((conv=>whnf); refine And.intro ?_ ?_)))
  ·rcases hm:numR r with _|m
   ·have hno:lineV s=none:=by rw [hl4]; rw [hI.a1 (by decide),hI.b1 (by decide),hm]
    repeat' ((conv=>whnf); first | refine sgo ⟨tab_ok⟩ ?_|refine br_not ?_|refine br_t rfl ?_|refine br_f rfl ?_|refine br_t (by assumption) ?_|refine br_f (by assumption) ?_|refine br_t (decide_eq_true (by assumption)) ?_|refine br_f (decide_eq_false (by assumption)) ?_|refine br_t (beq_iff_eq.2 (by assumption)) ?_|refine br_f (beq_eq_false_iff_ne.2 (by assumption)) ?_|refine drA ⟨tab_ok⟩ [] ?_|refine kpt ?_|refine br_t (decide_eq_true (by omega)) ?_|refine br_f (decide_eq_false (by omega)) ?_|refine wr_i ?_|refine opiv ⟨tab_ok⟩ (by rfl) (by rfl) (by rfl) (by rfl) (by rfl) (by rfl) ⟨by decide,by decide⟩ ?_|refine opxc (g:=y.1) (off:=0+0*1) (tx p) (fun w1 hH=>Ek.rng (Hold.ob hH (A:=rwO strE w.heap.size (some ⟨y.1,0,none⟩) 4 y.2 [p,q,r,t] true) 0 rfl) (k:=0) rfl) ⟨tab_ok⟩ (by rfl) (by rfl) (by rfl) ?_|refine opxc (g:=y.1) (off:=0+1*1) (tx q) (fun w1 hH=>Ek.rng (Hold.ob hH (A:=rwO strE w.heap.size (some ⟨y.1,0,none⟩) 4 y.2 [p,q,r,t] true) 0 rfl) (k:=1) rfl) ⟨tab_ok⟩ (by rfl) (by rfl) (by rfl) ?_|refine opxc (g:=y.1) (off:=0+2*1) (tx r) (fun w1 hH=>Ek.rng (Hold.ob hH (A:=rwO strE w.heap.size (some ⟨y.1,0,none⟩) 4 y.2 [p,q,r,t] true) 0 rfl) (k:=2) rfl) ⟨tab_ok⟩ (by rfl) (by rfl) (by rfl) ?_|refine opxc (g:=y.1) (off:=0+3*1) (tx t) (fun w1 hH=>Ek.rng (Hold.ob hH (A:=rwO strE w.heap.size (some ⟨y.1,0,none⟩) 4 y.2 [p,q,r,t] true) 0 rfl) (k:=3) rfl) ⟨tab_ok⟩ (by rfl) (by rfl) (by rfl) ?_|refine callS (f:=25) (.t [.i .i64 0,.b false]) (fun w=>numberN (by omega) hm w) ?_|refine fin fun w' hH=>rl_no hno rfl hH.upd.since | refine fin_s ?_|refine fin_r ?_ ?_|refine fin_e ?_ ?_)
   ·repeat' ((conv=>whnf); first | refine sgo ⟨tab_ok⟩ ?_|refine br_not ?_|refine br_t rfl ?_|refine br_f rfl ?_|refine br_t (by assumption) ?_|refine br_f (by assumption) ?_|refine br_t (decide_eq_true (by assumption)) ?_|refine br_f (decide_eq_false (by assumption)) ?_|refine br_t (beq_iff_eq.2 (by assumption)) ?_|refine br_f (beq_eq_false_iff_ne.2 (by assumption)) ?_|refine drA ⟨tab_ok⟩ [] ?_|refine kpt ?_|refine br_t (decide_eq_true (by omega)) ?_|refine br_f (decide_eq_false (by omega)) ?_|refine wr_i ?_|refine opiv ⟨tab_ok⟩ (by rfl) (by rfl) (by rfl) (by rfl) (by rfl) (by rfl) ⟨by decide,by decide⟩ ?_|refine opxc (g:=y.1) (off:=0+0*1) (tx p) (fun w1 hH=>Ek.rng (Hold.ob hH (A:=rwO strE w.heap.size (some ⟨y.1,0,none⟩) 4 y.2 [p,q,r,t] true) 0 rfl) (k:=0) rfl) ⟨tab_ok⟩ (by rfl) (by rfl) (by rfl) ?_|refine opxc (g:=y.1) (off:=0+1*1) (tx q) (fun w1 hH=>Ek.rng (Hold.ob hH (A:=rwO strE w.heap.size (some ⟨y.1,0,none⟩) 4 y.2 [p,q,r,t] true) 0 rfl) (k:=1) rfl) ⟨tab_ok⟩ (by rfl) (by rfl) (by rfl) ?_|refine opxc (g:=y.1) (off:=0+2*1) (tx r) (fun w1 hH=>Ek.rng (Hold.ob hH (A:=rwO strE w.heap.size (some ⟨y.1,0,none⟩) 4 y.2 [p,q,r,t] true) 0 rfl) (k:=2) rfl) ⟨tab_ok⟩ (by rfl) (by rfl) (by rfl) ?_|refine opxc (g:=y.1) (off:=0+3*1) (tx t) (fun w1 hH=>Ek.rng (Hold.ob hH (A:=rwO strE w.heap.size (some ⟨y.1,0,none⟩) 4 y.2 [p,q,r,t] true) 0 rfl) (k:=3) rfl) ⟨tab_ok⟩ (by rfl) (by rfl) (by rfl) ?_|refine callS (f:=25) (.t [.i .i64 m,.b true]) (fun w=>numberS (by omega) hm w) ?_|refine opia 2 (by rfl) (by rfl) (by rfl) ⟨rfl,by decide⟩ (by rfl) (Tryz.underlying67) (by kernel_rfl) ?_|refine En.back ⟨(3,a,b,m),hI.s2 hm⟩ (wkd ?_) ?_|refine fin_s ?_|refine fin_r ?_ ?_|refine fin_e ?_ ?_)
    all_goals first | (show 3 - (2+1) < 3 - 2; omega)|skip
    all_goals (repeat' (first | exact trivial | rfl | ((conv=>whnf); refine And.intro ?_ ?_)))
  ·rcases hd:datV t with _|d
   ·have hno:lineV s=none:=by rw [hl4,hI.a1 (by decide),hI.b1 (by decide),hI.c1 (by decide),hd]
    repeat' ((conv=>whnf); first | refine sgo ⟨tab_ok⟩ ?_|refine br_not ?_|refine br_t rfl ?_|refine br_f rfl ?_|refine br_t (by assumption) ?_|refine br_f (by assumption) ?_|refine br_t (decide_eq_true (by assumption)) ?_|refine br_f (decide_eq_false (by assumption)) ?_|refine br_t (beq_iff_eq.2 (by assumption)) ?_|refine br_f (beq_eq_false_iff_ne.2 (by assumption)) ?_|refine drA ⟨tab_ok⟩ [] ?_|refine kpt ?_|refine br_t (decide_eq_true (by omega)) ?_|refine br_f (decide_eq_false (by omega)) ?_|refine wr_i ?_|refine opiv ⟨tab_ok⟩ (by rfl) (by rfl) (by rfl) (by rfl) (by rfl) (by rfl) ⟨by decide,by decide⟩ ?_|refine opxc (g:=y.1) (off:=0+0*1) (tx p) (fun w1 hH=>Ek.rng (Hold.ob hH (A:=rwO strE w.heap.size (some ⟨y.1,0,none⟩) 4 y.2 [p,q,r,t] true) 0 rfl) (k:=0) rfl) ⟨tab_ok⟩ (by rfl) (by rfl) (by rfl) ?_|refine opxc (g:=y.1) (off:=0+1*1) (tx q) (fun w1 hH=>Ek.rng (Hold.ob hH (A:=rwO strE w.heap.size (some ⟨y.1,0,none⟩) 4 y.2 [p,q,r,t] true) 0 rfl) (k:=1) rfl) ⟨tab_ok⟩ (by rfl) (by rfl) (by rfl) ?_|refine opxc (g:=y.1) (off:=0+2*1) (tx r) (fun w1 hH=>Ek.rng (Hold.ob hH (A:=rwO strE w.heap.size (some ⟨y.1,0,none⟩) 4 y.2 [p,q,r,t] true) 0 rfl) (k:=2) rfl) ⟨tab_ok⟩ (by rfl) (by rfl) (by rfl) ?_|refine opxc (g:=y.1) (off:=0+3*1) (tx t) (fun w1 hH=>Ek.rng (Hold.ob hH (A:=rwO strE w.heap.size (some ⟨y.1,0,none⟩) 4 y.2 [p,q,r,t] true) 0 rfl) (k:=3) rfl) ⟨tab_ok⟩ (by rfl) (by rfl) (by rfl) ?_|refine callN (f:=27) (ι:=Option Addr×Nat) (fun z=>.t [.v (.slice z.1 0 z.2),.b false]) (fun z=>rwO byteE w.heap.size z.1 0 z.2 [] true) (fun w1 hH=>(bytesR t (by omega) w1).mono (by intro e w' h; rw [hd] at h; obtain ⟨z,rfl,h1,h2⟩:=h; exact ⟨z,rfl,Ek.base (by rw [← zsN_0]; exact h1) hH.upd.size,h2,Ek.lows h1⟩)) (fun z=>?_)|refine fin fun w' hH=>rl_no hno rfl hH.upd.since | refine fin_s ?_|refine fin_r ?_ ?_|refine fin_e ?_ ?_)
   ·have hyes:lineV s=some ⟨a,b,c,d⟩:=by rw [hl4,hI.a1 (by decide),hI.b1 (by decide),hI.c1 (by decide),hd]
    repeat' ((conv=>whnf); first | refine sgo ⟨tab_ok⟩ ?_|refine br_not ?_|refine br_t rfl ?_|refine br_f rfl ?_|refine br_t (by assumption) ?_|refine br_f (by assumption) ?_|refine br_t (decide_eq_true (by assumption)) ?_|refine br_f (decide_eq_false (by assumption)) ?_|refine br_t (beq_iff_eq.2 (by assumption)) ?_|refine br_f (beq_eq_false_iff_ne.2 (by assumption)) ?_|refine drA ⟨tab_ok⟩ [] ?_|refine kpt ?_|refine br_t (decide_eq_true (by omega)) ?_|refine br_f (decide_eq_false (by omega)) ?_|refine wr_i ?_|refine opiv ⟨tab_ok⟩ (by rfl) (by rfl) (by rfl) (by rfl) (by rfl) (by rfl) ⟨by decide,by decide⟩ ?_|refine opxc (g:=y.1) (off:=0+0*1) (tx p) (fun w1 hH=>Ek.rng (Hold.ob hH (A:=rwO strE w.heap.size (some ⟨y.1,0,none⟩) 4 y.2 [p,q,r,t] true) 0 rfl) (k:=0) rfl) ⟨tab_ok⟩ (by rfl) (by rfl) (by rfl) ?_|refine opxc (g:=y.1) (off:=0+1*1) (tx q) (fun w1 hH=>Ek.rng (Hold.ob hH (A:=rwO strE w.heap.size (some ⟨y.1,0,none⟩) 4 y.2 [p,q,r,t] true) 0 rfl) (k:=1) rfl) ⟨tab_ok⟩ (by rfl) (by rfl) (by rfl) ?_|refine opxc (g:=y.1) (off:=0+2*1) (tx r) (fun w1 hH=>Ek.rng (Hold.ob hH (A:=rwO strE w.heap.size (some ⟨y.1,0,none⟩) 4 y.2 [p,q,r,t] true) 0 rfl) (k:=2) rfl) ⟨tab_ok⟩ (by rfl) (by rfl) (by rfl) ?_|refine opxc (g:=y.1) (off:=0+3*1) (tx t) (fun w1 hH=>Ek.rng (Hold.ob hH (A:=rwO strE w.heap.size (some ⟨y.1,0,none⟩) 4 y.2 [p,q,r,t] true) 0 rfl) (k:=3) rfl) ⟨tab_ok⟩ (by rfl) (by rfl) (by rfl) ?_|refine opia 0 (by rfl) (by rfl) (by rfl) ⟨rfl,by decide⟩ (by rfl) (Tryz.underlying67) (by kernel_rfl) ?_|refine opia 1 (by rfl) (by rfl) (by rfl) ⟨rfl,by decide⟩ (by rfl) (Tryz.underlying67) (by kernel_rfl) ?_|refine opia 2 (by rfl) (by rfl) (by rfl) ⟨rfl,by decide⟩ (by rfl) (Tryz.underlying67) (by kernel_rfl) ?_|refine callN (f:=27) (ι:=Option Addr×Nat) (fun z=>.t [.v (.slice z.1 (zsN d).length z.2),.b true]) (fun z=>rwO byteE w.heap.size z.1 (zsN d).length z.2 (zsN d) true) (fun w1 hH=>(bytesR t (by omega) w1).mono (by intro e w' h; rw [hd] at h; obtain ⟨z,he,h1,h2⟩:=h; refine ⟨z,by rw [zsN_len]; exact he,Ek.base (by rw [zsN_len]; exact h1) hH.upd.size,h2,Ek.lows h1⟩)) (fun z=>?_)|refine fin fun w' hH=>rl_yes hyes (Hold.ob hH (A:=rwO byteE w.heap.size z.1 (zsN d).length z.2 (zsN d) true) 1 rfl) rfl hH.upd.since | refine fin_s ?_|refine fin_r ?_ ?_|refine fin_e ?_ ?_)
 ·have hno:=line_no4 h4
  have h4i:(((spl s).length:Int) == 4)=false:=beq_eq_false_iff_ne.2 (by omega)
  refine ent tab_ok [tx s] Tryz.func13 Tryz.ntmps13 rfl rfl ?_
  repeat' ((conv=>whnf); first | refine sgo ⟨tab_ok⟩ ?_|refine br_not ?_|refine br_t rfl ?_|refine br_f rfl ?_|refine br_t (by assumption) ?_|refine br_f (by assumption) ?_|refine br_t (decide_eq_true (by assumption)) ?_|refine br_f (decide_eq_false (by assumption)) ?_|refine br_t (beq_iff_eq.2 (by assumption)) ?_|refine br_f (beq_eq_false_iff_ne.2 (by assumption)) ?_|intro b0 | refine drA ⟨tab_ok⟩ [] ?_|refine kpt ?_|refine br_t (decide_eq_true (by omega)) ?_|refine br_f (decide_eq_false (by omega)) ?_|refine br_f h4i ?_|refine callN (f:=24) (ι:=Option Addr×Nat) (fun y=>.v (.slice y.1 (spl s).length y.2)) (fun y=>rwO strE w.heap.size y.1 (spl s).length y.2 (spl s) true) (fun w1 hH=>(cutR s hs w1).mono (by rintro e w' ⟨y,rfl,h1,h2⟩; exact ⟨y,rfl,Ek.base h1 hH.upd.size,h2,Ek.lows h1⟩)) (fun y=>?_)|refine fin fun w' hH=>rl_no hno rfl hH.upd.since | refine fin_s ?_|refine fin_r ?_ ?_|refine fin_e ?_ ?_)
end Sw
namespace Sw
open Go.RowKit Ba Mem En Go.Proofs.YtnoehplnmdajnaaGreatDoor.Ty Gw
open Co (Hold.ob)
open Sx
set_option maxRecDepth 100000
def seD (y:Option (List Int)):List Int:=match y with
 | some l=>l
 | none=>List.replicate 18 0
def seP (w:World) (y:Option (List Int)) (e:Ending) (w':World):Prop:=e=.returned (.tuple #[.agg (intsV (seD y)).toArray,.bool y.isSome])∧Since w w'
theorem se_no {w w':World} {e:Ending} {y:Option (List Int)} (hy:y=none) (he:e=.returned (.tuple #[.agg #[.int .i64 0,.int .i64 0,.int .i64 0,.int .i64 0,.int .i64 0,.int .i64 0,.int .i64 0,.int .i64 0,.int .i64 0,.int .i64 0,.int .i64 0,.int .i64 0,.int .i64 0,.int .i64 0,.int .i64 0,.int .i64 0,.int .i64 0,.int .i64 0],.bool false])) (hs:Since w w'):seP w y e w':=by
 subst hy
 exact ⟨he,hs⟩
theorem se_yes {w w':World} {e:Ending} {y:Option (List Int)} {a0 a1 a2 a3 a4 a5 a6 a7 a8 a9 a10 a11 a12 a13 a14 a15 a16 a17:Int} (hy:y=some [a0,a1,a2,a3,a4,a5,a6,a7,a8,a9,a10,a11,a12,a13,a14,a15,a16,a17]) (he:e=.returned (.tuple #[.agg #[.int .i64 a0,.int .i64 a1,.int .i64 a2,.int .i64 a3,.int .i64 a4,.int .i64 a5,.int .i64 a6,.int .i64 a7,.int .i64 a8,.int .i64 a9,.int .i64 a10,.int .i64 a11,.int .i64 a12,.int .i64 a13,.int .i64 a14,.int .i64 a15,.int .i64 a16,.int .i64 a17],.bool true])) (hs:Since w w'):seP w y e w':=by
 subst hy
 exact ⟨he,hs⟩
theorem at18 {l:List Int} (h:l.length=18):∃ a0 a1 a2 a3 a4 a5 a6 a7 a8 a9 a10 a11 a12 a13 a14 a15 a16 a17,l=[a0,a1,a2,a3,a4,a5,a6,a7,a8,a9,a10,a11,a12,a13,a14,a15,a16,a17]:=by
 match l,h with
 | [a0,a1,a2,a3,a4,a5,a6,a7,a8,a9,a10,a11,a12,a13,a14,a15,a16,a17],_=>exact ⟨a0,a1,a2,a3,a4,a5,a6,a7,a8,a9,a10,a11,a12,a13,a14,a15,a16,a17,rfl⟩
theorem pl_all {lo b:Nat} {T:TypeId} {vs:List PW} {rest cs:List Value} {w:World} (h:PlAt lo b T vs rest w) (hc:vs.map PW.v++rest=cs:=by rfl):w.rangeAt b (0+0) cs:=fun j u hj=>by
 have:=Blk.cell h.1 (i:=0+0+j)
 rw [this]
 subst hc
 unfold plA
 simpa using hj
attribute [local irreducible] Go.Calls numR spl
theorem cutR18 {s:List UInt8} {W:List (List UInt8)} (hs:s.length≤900000) (h:spl s=W) (hw:W.length=18) (w:World):Calls Tryz.prog 24 #[.string ⟨s.toArray⟩] w fun e w'=>∃ y:Nat×Nat,e=.returned (.slice (some ⟨y.1,0,none⟩) 18 y.2)∧strE.At w.heap.size (some ⟨y.1,0,none⟩) 18 y.2 W w'∧Since w w':=by
 refine (cutR s hs w).mono ?_
 rintro e w' ⟨⟨A,c⟩,rfl,h1,h2⟩
 rw [h,hw] at h1 ⊢
 have h1:strE.At w.heap.size A 18 c W w':=h1
 rcases own_at h1 with ⟨_,h0,_⟩ | ⟨g,_,rfl,_⟩
 ·exact absurd h0 (by decide)
 ·exact ⟨(g,c),rfl,h1,h2⟩
structure SeI (W:List (List UInt8)) (i:Nat) (l:List Int) (ps:List PW) (rest:List Value):Prop where
 n:l.length=i
 le:i≤18
 p:ps=l.map PW.nu
 r:rest=List.replicate (18 - i) (.int .i64 0)
 v:numsV W=(numsV (W.drop i)).map fun r=>l++r
theorem SeI.z (W:List (List UInt8)):SeI W 0 [] [] (List.replicate 18 (.int .i64 0)):=⟨rfl,Nat.zero_le _,rfl,rfl,by show numsV W=(numsV W).map _; cases numsV W <;> rfl⟩
theorem SeI.cons {W:List (List UInt8)} {i:Nat} {l:List Int} {ps:List PW} {rest:List Value} (h:SeI W i l ps rest) (hi:i < 18):∃ r,rest=.int .i64 0::r∧r=List.replicate (18 - (i+1)) (.int .i64 0):=by
 refine ⟨_, ?_,rfl⟩
 rw [h.r,show 18 - i=(18 - (i+1))+1 by omega]; rfl
theorem SeI.more {W:List (List UInt8)} {i:Nat} {l:List Int} {ps:List PW} {rest r:List Value} {x:List UInt8} {n:Int} (h:SeI W i l ps rest) (hi:i < 18) (hr:r=List.replicate (18 - (i+1)) (.int .i64 0)) (hx:W[i]?=some x) (hn:numR x=some n):SeI W (i+1) (l++[n]) (ps++[PW.nu n]) r:=by
 refine ⟨by rw [List.length_append,h.n]; rfl,by omega,by rw [h.p,List.map_append]; rfl,hr, ?_⟩
 rw [h.v,numsV_step hx,num_same,hn]
 cases numsV (W.drop (i+1)) with
 | none=>rfl
 | some r=>simp
theorem SeI.bad {W:List (List UInt8)} {i:Nat} {l:List Int} {ps:List PW} {rest:List Value} {x:List UInt8} (h:SeI W i l ps rest) (hx:W[i]?=some x) (hn:numR x=none):numsV W=none:=by
 rw [h.v,numsV_step hx,num_same,hn]; rfl
theorem SeI.end_ {W:List (List UInt8)} {i:Nat} {l:List Int} {ps:List PW} {rest:List Value} (h:SeI W i l ps rest) (hw:W.length≤i):numsV W=some l:=by
 rw [h.v,List.drop_eq_nil_of_le hw]
 show (some []).map _=_
 simp
set_option maxHeartbeats 8000000 in
theorem setR (s:List UInt8) (hs:s.length≤900000) (w:World):Calls Tryz.prog 11 #[.string ⟨s.toArray⟩] w (seP w (setV s)):=by
 by_cases hne:s=[]
 ·subst hne
  have hno:setV []=none:=rfl
  have h0:(((([]:List UInt8).length:Nat):Int) == 0)=true:=rfl
  refine ent tab_ok [tx []] Tryz.func11 Tryz.ntmps11 rfl rfl ?_
  repeat' ((conv=>whnf); first | refine sgo ⟨tab_ok⟩ ?_|refine br_not ?_|refine br_t rfl ?_|refine br_f rfl ?_|refine br_t (by assumption) ?_|refine br_f (by assumption) ?_|refine br_t (decide_eq_true (by assumption)) ?_|refine br_f (decide_eq_false (by assumption)) ?_|refine br_t (beq_iff_eq.2 (by assumption)) ?_|refine br_f (beq_eq_false_iff_ne.2 (by assumption)) ?_|intro b0 | refine drA ⟨tab_ok⟩ [] ?_|refine kpt ?_|refine br_t (decide_eq_true (by omega)) ?_|refine br_f (decide_eq_false (by omega)) ?_|refine wr_i ?_|refine opP (pvLen (xs:=[]) (by rfl) (by rfl) Tryz.underlying9) ?_|refine fin fun w' hH=>se_no hno rfl hH.upd.since | refine fin_s ?_|refine fin_r ?_ ?_|refine fin_e ?_ ?_)
 have hpos:0 < s.length:=List.length_pos_iff.2 hne
 obtain ⟨c,hlast⟩:∃ c,s[s.length - 1]?=some c:=⟨_,List.getElem?_eq_getElem (by omega)⟩
 have hgl:s.getLast?=some c:=by rw [List.getLast?_eq_getElem?]; exact hlast
 have hdl:s.dropLast=s.take (s.length - 1):=List.dropLast_eq_take
 by_cases h10:c=10
 ·subst h10
  obtain ⟨W,hW⟩:∃ W,spl (s.take (s.length - 1))=W:=⟨_,rfl⟩
  by_cases hW18:W.length=18
  ·have hv:setV s=numsV W:=by unfold setV; rw [if_pos hgl,hdl,hW,if_pos hW18]
   rw [hv]
   have hwl:∀ x∈W,x.length≤900000:=fun x hx=>by
    have:=word_len (s:=s.take (s.length - 1)) (w:=x) (by rw [hW]; exact hx)
    rw [List.length_take] at this; omega
   refine ent tab_ok [tx s] Tryz.func11 Tryz.ntmps11 rfl rfl ?_
   repeat' ((conv=>whnf); first | refine sgo ⟨tab_ok⟩ ?_|refine br_not ?_|refine br_t rfl ?_|refine br_f rfl ?_|refine br_t (by assumption) ?_|refine br_f (by assumption) ?_|refine br_t (decide_eq_true (by assumption)) ?_|refine br_f (decide_eq_false (by assumption)) ?_|refine br_t (beq_iff_eq.2 (by assumption)) ?_|refine br_f (beq_eq_false_iff_ne.2 (by assumption)) ?_|refine drA ⟨tab_ok⟩ [] ?_|refine kpt ?_|refine br_t (decide_eq_true (by omega)) ?_|refine br_f (decide_eq_false (by omega)) ?_|refine fin_s ?_|refine fin_r ?_ ?_|refine fin_e ?_ ?_)
   conv=>whnf
   intro b0
   repeat' ((conv=>whnf); first | refine sgo ⟨tab_ok⟩ ?_|refine br_not ?_|refine br_t rfl ?_|refine br_f rfl ?_|refine br_t (by assumption) ?_|refine br_f (by assumption) ?_|refine br_t (decide_eq_true (by assumption)) ?_|refine br_f (decide_eq_false (by assumption)) ?_|refine br_t (beq_iff_eq.2 (by assumption)) ?_|refine br_f (beq_eq_false_iff_ne.2 (by assumption)) ?_|refine drA ⟨tab_ok⟩ [] ?_|refine kpt ?_|refine br_t (decide_eq_true (by omega)) ?_|refine br_f (decide_eq_false (by omega)) ?_|refine br_t (beq_iff_eq.2 (by omega)) ?_|refine br_f (beq_eq_false_iff_ne.2 (by omega)) ?_|refine wr (show IntKind.i64.wrap ((s.length:Int) - 1)=((s.length - 1:Nat):Int) by rw [show (s.length:Int) - 1=((s.length - 1:Nat):Int) by omega]; exact wr64 _ (by omega) (by omega)) ?_|refine wr_i ?_|refine opP (pvLen (xs:=s) (by rfl) (by rfl) Tryz.underlying9) ?_|refine opP (pvIdx (xs:=s) (j:=s.length - 1) (by rfl) (by rfl) (by rfl) (by omega) hlast Tryz.underlying9) ?_|refine opP (pvSlH (xs:=s) (s.length - 1) (by rfl) (by rfl) (by rfl) ⟨by omega,by omega⟩ Tryz.underlying9) ?_|refine callN (f:=24) (ι:=Nat×Nat) (fun y=>.v (.slice (some ⟨y.1,0,none⟩) 18 y.2)) (fun y=>rwO strE w.heap.size (some ⟨y.1,0,none⟩) 18 y.2 W true) (fun w1 hH=>(cutR18 (by rw [List.length_take]; omega) hW hW18 w1).mono (by rintro e w' ⟨y,rfl,h1,h2⟩; exact ⟨y,rfl,Ek.base h1 hH.upd.size,h2,Ek.lows h1⟩)) (fun y=>?_)|refine fin_s ?_|refine fin_r ?_ ?_|refine fin_e ?_ ?_)
   conv=>whnf
   intro b1
   repeat' ((conv=>whnf); first | refine sgo ⟨tab_ok⟩ ?_|refine br_not ?_|refine br_t rfl ?_|refine br_f rfl ?_|refine br_t (by assumption) ?_|refine br_f (by assumption) ?_|refine br_t (decide_eq_true (by assumption)) ?_|refine br_f (decide_eq_false (by assumption)) ?_|refine br_t (beq_iff_eq.2 (by assumption)) ?_|refine br_f (beq_eq_false_iff_ne.2 (by assumption)) ?_|refine drA ⟨tab_ok⟩ [] ?_|refine kpt ?_|refine br_t (decide_eq_true (by omega)) ?_|refine br_f (decide_eq_false (by omega)) ?_|refine rowX (f:=23) 1 (plO w.heap.size b1 23 [] (List.replicate 18 (.int .i64 0))) (by rfl) (by rfl) (by rfl) (fun w h=>⟨h,by intro x hx; cases hx⟩) (by rfl) ?_|refine callN (f:=23) (ι:=Nat) (fun g=>.v (.slice (some ⟨g,0,none⟩) 18 18)) (fun g=>rwO (ptE b1) w.heap.size (some ⟨g,0,none⟩) 18 18 (List.range 18) true) (fun w1 hH=>(fieldsR b1 w1).mono (by rintro e w' ⟨g,rfl,h1,h2⟩; exact ⟨g,rfl,Ek.base h1 hH.upd.size,h2,Ek.lows h1⟩)) (fun g=>?_)|refine fin_s ?_|refine fin_r ?_ ?_|refine fin_e ?_ ?_)
   conv=>whnf
   refine lp ⟨tab_ok⟩ (ι:={v:Nat×List Int×List PW×List Value // SeI W v.1 v.2.1 v.2.2.1 v.2.2.2}) (fun v=>match v with | ⟨(i,l,ps,rest),_⟩=>⟨[(0,tx s),(2,.p 0 0),(3,.b false),(4,.v (.slice (some ⟨y.1,0,none⟩) 18 y.2)),(5,.p 1 0),(6,.v (.slice (some ⟨g,0,none⟩) 18 18)),(7,.i .i64 (i:Int))],[⟨b0,23,true,0,[],[.i .i64 0,.i .i64 0,.i .i64 0,.i .i64 0,.i .i64 0,.i .i64 0,.i .i64 0,.i .i64 0,.i .i64 0,.i .i64 0,.i .i64 0,.i .i64 0,.i .i64 0,.i .i64 0,.i .i64 0,.i .i64 0,.i .i64 0,.i .i64 0],[],true⟩,⟨b1,23,false,0,[],[.i .i64 0,.i .i64 0,.i .i64 0,.i .i64 0,.i .i64 0,.i .i64 0,.i .i64 0,.i .i64 0,.i .i64 0,.i .i64 0,.i .i64 0,.i .i64 0,.i .i64 0,.i .i64 0,.i .i64 0,.i .i64 0,.i .i64 0,.i .i64 0],[],true⟩],[rwO strE w.heap.size (some ⟨y.1,0,none⟩) 18 y.2 W true,plO w.heap.size b1 23 ps rest,rwO (ptE b1) w.heap.size (some ⟨g,0,none⟩) 18 18 (List.range 18) true]⟩) (fun v=>18 - v.1.1) ⟨(0,[],[],List.replicate 18 (.int .i64 0)),SeI.z W⟩ (wkd ?_) ?_
   ·repeat' (first | exact trivial | rfl | ((conv=>whnf); refine And.intro ?_ ?_))
   rintro ⟨⟨i,l,ps,rest⟩,hI0⟩
   have hI:SeI W i l ps rest:=hI0
   have hi:=hI.le
   by_cases hlt:i < 18
   ·obtain ⟨x,hx⟩:∃ x,W[i]?=some x:=⟨_,List.getElem?_eq_getElem (by omega)⟩
    have hxl:=hwl x (List.mem_of_getElem? hx)
    have hri:(List.range 18)[i]?=some i:=List.getElem?_range hlt
    obtain ⟨r,hr1,hr2⟩:=hI.cons hlt
    subst hr1
    rcases hm:numR x with _|m
    ·have hno:=hI.bad hx hm
     repeat' ((conv=>whnf); first | refine sgo ⟨tab_ok⟩ ?_|refine br_not ?_|refine br_t rfl ?_|refine br_f rfl ?_|refine br_t (by assumption) ?_|refine br_f (by assumption) ?_|refine br_t (decide_eq_true (by assumption)) ?_|refine br_f (decide_eq_false (by assumption)) ?_|refine br_t (beq_iff_eq.2 (by assumption)) ?_|refine br_f (beq_eq_false_iff_ne.2 (by assumption)) ?_|refine drA ⟨tab_ok⟩ [] ?_|refine kpt ?_|refine br_t (decide_eq_true (by omega)) ?_|refine br_f (decide_eq_false (by omega)) ?_|refine wr_i ?_|refine opiv ⟨tab_ok⟩ (by rfl) (by rfl) (by rfl) (by rfl) (by rfl) (by rfl) ⟨by omega,by omega⟩ ?_|refine opxc (g:=y.1) (off:=0+i*1) (tx x) (fun w1 hH=>Ek.rng (Hold.ob hH (A:=rwO strE w.heap.size (some ⟨y.1,0,none⟩) 18 y.2 W true) 0 rfl) hx) ⟨tab_ok⟩ (by rfl) (by rfl) (by first | (simp only [Go.WideShapes.add_plain]; done)|(simp only [Go.WideShapes.add_plain]; rfl)) ?_|refine callS (f:=25) (.t [.i .i64 0,.b false]) (fun w=>numberN (by omega) hm w) ?_|refine fin fun w' hH=>se_no hno rfl hH.upd.since | refine fin_s ?_|refine fin_r ?_ ?_|refine fin_e ?_ ?_)
    ·have hlp:i=ps.length:=by rw [hI.p,List.length_map,hI.n]
     repeat' ((conv=>whnf); first | refine sgo ⟨tab_ok⟩ ?_|refine br_not ?_|refine br_t rfl ?_|refine br_f rfl ?_|refine br_t (by assumption) ?_|refine br_f (by assumption) ?_|refine br_t (decide_eq_true (by assumption)) ?_|refine br_f (decide_eq_false (by assumption)) ?_|refine br_t (beq_iff_eq.2 (by assumption)) ?_|refine br_f (beq_eq_false_iff_ne.2 (by assumption)) ?_|refine drA ⟨tab_ok⟩ [] ?_|refine kpt ?_|refine br_t (decide_eq_true (by omega)) ?_|refine br_f (decide_eq_false (by omega)) ?_|refine wr_i ?_|refine opiv ⟨tab_ok⟩ (by rfl) (by rfl) (by rfl) (by rfl) (by rfl) (by rfl) ⟨by omega,by omega⟩ ?_|refine opxc (g:=y.1) (off:=0+i*1) (tx x) (fun w1 hH=>Ek.rng (Hold.ob hH (A:=rwO strE w.heap.size (some ⟨y.1,0,none⟩) 18 y.2 W true) 0 rfl) hx) ⟨tab_ok⟩ (by rfl) (by rfl) (by first | (simp only [Go.WideShapes.add_plain]; done)|(simp only [Go.WideShapes.add_plain]; rfl)) ?_|refine callS (f:=25) (.t [.i .i64 m,.b true]) (fun w=>numberS (by omega) hm w) ?_|refine opxc (g:=g) (off:=0+i*1) (.v (.pointer (some ⟨b1,i,none⟩))) (fun w1 hH=>Ek.rng (Hold.ob hH (A:=rwO (ptE b1) w.heap.size (some ⟨g,0,none⟩) 18 18 (List.range 18) true) 2 rfl) hri) ⟨tab_ok⟩ (by rfl) (by rfl) (by first | (simp only [Go.WideShapes.add_plain]; done)|(simp only [Go.WideShapes.add_plain]; rfl)) ?_|refine opnv (by rfl) (by rfl) ?_|refine opsPn (b:=b1) (q:=i) 1 m (by rfl) (by rfl) hlp (by rfl) (by rfl) (by kernel_rfl) ?_|refine En.back ⟨(i+1,l++[m],ps++[PW.nu m],r),hI.more hlt hr2 hx hm⟩ (wkd ?_) ?_|refine fin_s ?_|refine fin_r ?_ ?_|refine fin_e ?_ ?_)
     all_goals first | (show 18 - (i+1) < 18 - i; omega)|skip
     all_goals (repeat' (first | exact trivial | rfl | ((conv=>whnf); refine And.intro ?_ ?_)))
   ·have hyes:=hI.end_ (by omega)
    have e18:i=18:=by omega
    obtain ⟨a0,a1,a2,a3,a4,a5,a6,a7,a8,a9,a10,a11,a12,a13,a14,a15,a16,a17,hl⟩:=at18 (hI.n.trans e18)
    rw [hl] at hyes
    have hps:=hI.p
    have hrs:=hI.r
    rw [hl] at hps
    rw [e18] at hrs
    subst hps hrs
    repeat' ((conv=>whnf); first | refine sgo ⟨tab_ok⟩ ?_|refine br_not ?_|refine br_t rfl ?_|refine br_f rfl ?_|refine br_t (by assumption) ?_|refine br_f (by assumption) ?_|refine br_t (decide_eq_true (by assumption)) ?_|refine br_f (decide_eq_false (by assumption)) ?_|refine br_t (beq_iff_eq.2 (by assumption)) ?_|refine br_f (beq_eq_false_iff_ne.2 (by assumption)) ?_|refine drA ⟨tab_ok⟩ [] ?_|refine kpt ?_|refine br_t (decide_eq_true (by omega)) ?_|refine br_f (decide_eq_false (by omega)) ?_|refine opixp (j:=1) (q:=0) (r:=⟨b1,23,false,0,[],[.i .i64 0,.i .i64 0,.i .i64 0,.i .i64 0,.i .i64 0,.i .i64 0,.i .i64 0,.i .i64 0,.i .i64 0,.i .i64 0,.i .i64 0,.i .i64 0,.i .i64 0,.i .i64 0,.i .i64 0,.i .i64 0,.i .i64 0,.i .i64 0],[],true⟩) [.i .i64 a0,.i .i64 a1,.i .i64 a2,.i .i64 a3,.i .i64 a4,.i .i64 a5,.i .i64 a6,.i .i64 a7,.i .i64 a8,.i .i64 a9,.i .i64 a10,.i .i64 a11,.i .i64 a12,.i .i64 a13,.i .i64 a14,.i .i64 a15,.i .i64 a16,.i .i64 a17] (by rfl) (fun w1 hH=>pl_all (Hold.ob hH (A:=plO w.heap.size b1 23 _ _) 1 rfl)) ⟨tab_ok⟩ (by rfl) (by rfl) ?_ (by rfl) (by rfl)|refine fin fun w' hH=>se_yes hyes rfl hH.upd.since | refine fin_s ?_|refine fin_r ?_ ?_|refine fin_e ?_ ?_)
  ·have hno:setV s=none:=by unfold setV; rw [if_pos hgl,hdl,hW,if_neg hW18]
   have hWi:(((spl (s.take (s.length - 1))).length:Int) == 18)=false:=beq_eq_false_iff_ne.2 (by rw [hW]; omega)
   refine ent tab_ok [tx s] Tryz.func11 Tryz.ntmps11 rfl rfl ?_
   repeat' ((conv=>whnf); first | refine sgo ⟨tab_ok⟩ ?_|refine br_not ?_|refine br_t rfl ?_|refine br_f rfl ?_|refine br_t (by assumption) ?_|refine br_f (by assumption) ?_|refine br_t (decide_eq_true (by assumption)) ?_|refine br_f (decide_eq_false (by assumption)) ?_|refine br_t (beq_iff_eq.2 (by assumption)) ?_|refine br_f (beq_eq_false_iff_ne.2 (by assumption)) ?_|refine drA ⟨tab_ok⟩ [] ?_|refine kpt ?_|refine br_t (decide_eq_true (by omega)) ?_|refine br_f (decide_eq_false (by omega)) ?_|refine fin_s ?_|refine fin_r ?_ ?_|refine fin_e ?_ ?_)
   conv=>whnf
   intro b0
   repeat' ((conv=>whnf); first | refine sgo ⟨tab_ok⟩ ?_|refine br_not ?_|refine br_t rfl ?_|refine br_f rfl ?_|refine br_t (by assumption) ?_|refine br_f (by assumption) ?_|refine br_t (decide_eq_true (by assumption)) ?_|refine br_f (decide_eq_false (by assumption)) ?_|refine br_t (beq_iff_eq.2 (by assumption)) ?_|refine br_f (beq_eq_false_iff_ne.2 (by assumption)) ?_|refine drA ⟨tab_ok⟩ [] ?_|refine kpt ?_|refine br_t (decide_eq_true (by omega)) ?_|refine br_f (decide_eq_false (by omega)) ?_|refine br_t (beq_iff_eq.2 (by omega)) ?_|refine br_f (beq_eq_false_iff_ne.2 (by omega)) ?_|refine wr (show IntKind.i64.wrap ((s.length:Int) - 1)=((s.length - 1:Nat):Int) by rw [show (s.length:Int) - 1=((s.length - 1:Nat):Int) by omega]; exact wr64 _ (by omega) (by omega)) ?_|refine wr_i ?_|refine opP (pvLen (xs:=s) (by rfl) (by rfl) Tryz.underlying9) ?_|refine opP (pvIdx (xs:=s) (j:=s.length - 1) (by rfl) (by rfl) (by rfl) (by omega) hlast Tryz.underlying9) ?_|refine opP (pvSlH (xs:=s) (s.length - 1) (by rfl) (by rfl) (by rfl) ⟨by omega,by omega⟩ Tryz.underlying9) ?_|refine callN (f:=24) (ι:=Option Addr×Nat) (fun y=>.v (.slice y.1 (spl (s.take (s.length - 1))).length y.2)) (fun y=>rwO strE w.heap.size y.1 (spl (s.take (s.length - 1))).length y.2 (spl (s.take (s.length - 1))) true) (fun w1 hH=>(cutR (s.take (s.length - 1)) (by rw [List.length_take]; omega) w1).mono (by rintro e w' ⟨y,rfl,h1,h2⟩; exact ⟨y,rfl,Ek.base h1 hH.upd.size,h2,Ek.lows h1⟩)) (fun y=>?_)|refine fin_s ?_|refine fin_r ?_ ?_|refine fin_e ?_ ?_)
   conv=>whnf
   intro b1
   repeat' ((conv=>whnf); first | refine sgo ⟨tab_ok⟩ ?_|refine br_not ?_|refine br_t rfl ?_|refine br_f rfl ?_|refine br_t (by assumption) ?_|refine br_f (by assumption) ?_|refine br_t (decide_eq_true (by assumption)) ?_|refine br_f (decide_eq_false (by assumption)) ?_|refine br_t (beq_iff_eq.2 (by assumption)) ?_|refine br_f (beq_eq_false_iff_ne.2 (by assumption)) ?_|refine drA ⟨tab_ok⟩ [] ?_|refine kpt ?_|refine br_t (decide_eq_true (by omega)) ?_|refine br_f (decide_eq_false (by omega)) ?_|refine br_f hWi ?_|refine rowX (f:=23) 1 (plO w.heap.size b1 23 [] (List.replicate 18 (.int .i64 0))) (by rfl) (by rfl) (by rfl) (fun w h=>⟨h,by intro x hx; cases hx⟩) (by rfl) ?_|refine callN (f:=23) (ι:=Nat) (fun g=>.v (.slice (some ⟨g,0,none⟩) 18 18)) (fun g=>rwO (ptE b1) w.heap.size (some ⟨g,0,none⟩) 18 18 (List.range 18) true) (fun w1 hH=>(fieldsR b1 w1).mono (by rintro e w' ⟨g,rfl,h1,h2⟩; exact ⟨g,rfl,Ek.base h1 hH.upd.size,h2,Ek.lows h1⟩)) (fun g=>?_)|refine fin fun w' hH=>se_no hno rfl hH.upd.since | refine fin_s ?_|refine fin_r ?_ ?_|refine fin_e ?_ ?_)
 ·have hno:setV s=none:=by unfold setV; rw [if_neg (by rw [hgl]; intro h; injection h with h; exact h10 h)]
  have hc10:((c.toNat:Int) == 10)=false:=beq_eq_false_iff_ne.2 (fun h=>h10 (UInt8.toNat_inj.1 (by show c.toNat=10; omega)))
  refine ent tab_ok [tx s] Tryz.func11 Tryz.ntmps11 rfl rfl ?_
  repeat' ((conv=>whnf); first | refine sgo ⟨tab_ok⟩ ?_|refine br_not ?_|refine br_t rfl ?_|refine br_f rfl ?_|refine br_t (by assumption) ?_|refine br_f (by assumption) ?_|refine br_t (decide_eq_true (by assumption)) ?_|refine br_f (decide_eq_false (by assumption)) ?_|refine br_t (beq_iff_eq.2 (by assumption)) ?_|refine br_f (beq_eq_false_iff_ne.2 (by assumption)) ?_|intro b0 | refine drA ⟨tab_ok⟩ [] ?_|refine kpt ?_|refine br_t (decide_eq_true (by omega)) ?_|refine br_f (decide_eq_false (by omega)) ?_|refine br_f hc10 ?_|refine br_t (beq_iff_eq.2 (by omega)) ?_|refine br_f (beq_eq_false_iff_ne.2 (by omega)) ?_|refine wr (show IntKind.i64.wrap ((s.length:Int) - 1)=((s.length - 1:Nat):Int) by rw [show (s.length:Int) - 1=((s.length - 1:Nat):Int) by omega]; exact wr64 _ (by omega) (by omega)) ?_|refine wr_i ?_|refine opP (pvLen (xs:=s) (by rfl) (by rfl) Tryz.underlying9) ?_|refine opP (pvIdx (xs:=s) (j:=s.length - 1) (by rfl) (by rfl) (by rfl) (by omega) hlast Tryz.underlying9) ?_|refine fin fun w' hH=>se_no hno rfl hH.upd.since | refine fin_s ?_|refine fin_r ?_ ?_|refine fin_e ?_ ?_)
end Sw
namespace Gw
open Go.RowKit Ba Mem En Go.Proofs.YtnoehplnmdajnaaGreatDoor.Ty
set_option maxRecDepth 100000
section
variable {X:Cx} {s:St}
end
end Gw
namespace En
open Go.RowKit Ba Mem
theorem wkX {X:Cx} {s s':St} (j:Nat) {r:Row} (C:Asr) (hr:s.m[j]?=some r) (hl:(r.live && r.rw)=true) (hF:C.F=[r.g]) (hC:∀ w,(X.w0.heap.size≤r.g∨r.g∈X.S)→Blk w r.g r.t (rowA s.m r)→C.st w) (h:Wk X ⟨s.fr,s.m.set j { r with live:=false },s.ob++[C]⟩ s'):Wk X s s':=⟨fun a w hR=>by
 simp only [Bool.and_eq_true] at hl
 have hg:=(hR.h.wf j r hr hl.1).2.2 hl.2
 have hH2:=Hold.toObj hR.h (C:=C) hr hl.1 hl.2 hF (hC w hg.symm (hR.h.row j r hr hl.1))
 exact h.out a w ⟨hR.ds,hR.sz,hR.fr.ext (Ext.dead hr),hH2⟩⟩
end En
namespace Gw
open Go.RowKit Ba Mem En Go.Proofs.YtnoehplnmdajnaaGreatDoor.Ty
set_option maxRecDepth 100000
end Gw
namespace Sp
open Go.RowKit Ba Mem En Go.Proofs.YtnoehplnmdajnaaGreatDoor.Ty Gw
open Byt (BV isB)
open Co (Hold.ob)
open Sx Sw
set_option maxRecDepth 100000
attribute [local irreducible] Go.Calls hexI
end Sp
end Go.Proofs.YtnoehplnmdajnaaGreatDoor
