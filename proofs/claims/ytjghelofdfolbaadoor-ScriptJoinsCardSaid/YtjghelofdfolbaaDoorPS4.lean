/-
  Wanted: part 4.
  No condition.
-/
import Derived.Test.YtjghelofdfolbaaDoorPS3
import Derived.Shelf.LaysC
import Derived.Shelf.Strings.Builder1
import Derived.Shelf.Strings.BuilderF
import Derived.Shelf.Strings.BuilderK
import Derived.Shelf.Strings.OnBuilder
import Derived.Shelf.Strings.SplitShaped
import Derived.Shelf.Small.Strs
import Derived.Shelf.Small.Wraps
import Derived.Shelf.Strconv.Itoa3
import Derived.Shelf.Strconv.AtoiAll
import Derived.Shelf.Strconv.ErrVarAll
import Derived.Test.YtjghelofdfolbaaDoorProg
import Derived.Lib.OthersKept
import Derived.Lib.AppendIntMem
import Derived.Test.YtjghelofdfolbaaDoorPS2
import Derived.Lib.ConvBytes
import Derived.Laws.Concat
import Derived.Test.YtjghelofdfolbaaDoorRows
import Derived.ProofKit
import Derived.LaidMore
import Derived.Stop.Joined
import Derived.Lib.LaidTab
import Derived.Stop.LaidErr
import Derived.Deep.DeepHandedRow
import Derived.Lay
import Derived.Test.YtjghelofdfolbaaDoorPS1
import Derived.Deep.Slices
import Derived.ChangeSlices
set_option linter.all false
namespace Go.Proofs.YtjghelofdfolbaaDoor
namespace Sw
open Go.RowKit Ba Mem En Go.Proofs.YtjghelofdfolbaaDoor.Ty Gw
open Co (Hold.ob)
open Sx
set_option maxRecDepth 100000
theorem u64_wrap (n:Int):IntKind.u64.wrap n=n % 18446744073709551616:=by simp [IntKind.wrap,IntKind.bits,IntKind.signed]
theorem tl_eq (xs ys:List UInt8):((⟨xs.toArray⟩:ByteArray).toList == (⟨ys.toArray⟩:ByteArray).toList)=decide (xs=ys):=by
 rw [Lib.toList_data,Lib.toList_data]
 by_cases h:xs=ys
 ·subst h; simp
 ·simp [h]
theorem dgs_pos {l:List UInt8} {u:Nat} (h:dgs 0 l=some u) (hne:l≠[]) (h48:l.head?≠some 48):1≤u:=by
 cases l with
 | nil=>exact absurd rfl hne
 | cons c r =>
  unfold dgs at h
  split at h
  ·rename_i hc
   have h1:=dgs_ge r _ u h
   have:c.toNat≠48:=fun e=>h48 (by show some c=some 48; rw [show c=48 from UInt8.toNat_inj.1 e])
   omega
  ·cases h
def nuA (y:Option Int):Value:=match y with
 | some n=>.tuple #[.int .i64 n,.bool true]
 | none=>.tuple #[.int .i64 0,.bool false]
attribute [local irreducible] Go.Calls dgs
set_option maxHeartbeats 8000000 in
theorem numP {s:List UInt8} {c:UInt8} {r:List UInt8} (hs:s=c::r) (h45:c≠45) (hl:s.length≤1000000) (w:World):Calls Tryd.prog 30 #[.string ⟨s.toArray⟩] w fun e w'=>e=.returned (nuA (numR s))∧Since w w':=by
 have hc0:s[0]?=some c:=by rw [hs]; rfl
 have hlen:s.length=r.length+1:=by rw [hs]; rfl
 have hneg:negB s=false:=by rw [hs]; exact beq_eq_false_iff_ne.2 (fun h=>h45 (by injection h))
 have htl:tailB s=s:=by unfold tailB; rw [if_neg (by rw [hneg]; decide)]
 have hne45:((c.toNat:Int) == 45)=false:=beq_eq_false_iff_ne.2 (fun h=>h45 (UInt8.toNat_inj.1 (by show c.toNat=45; omega)))
 have htne:s≠[]:=by rw [hs]; simp
 have hhd:s.head?=some c:=by rw [hs]; rfl
 obtain ⟨q48,hs48⟩:∃ b,((⟨s.toArray⟩:ByteArray).toList == (⟨[48].toArray⟩:ByteArray).toList)=b:=⟨_,rfl⟩
 have hq48:q48=decide (s=[48]):=by rw [← hs48,tl_eq]
 by_cases h19:19 < s.length - 0
 ·have hno:numR s=none:=by unfold numR; rw [if_pos (.inr (.inl (by rw [htl]; omega)))]
  refine ent tab_ok [tx s] Tryd.func30 Tryd.ntmps30 rfl rfl ?_
  repeat' ((conv=>whnf); first | refine sgo ⟨tab_ok⟩ ?_|refine br_not ?_|refine br_t rfl ?_|refine br_f rfl ?_|refine br_t (by assumption) ?_|refine br_f (by assumption) ?_|refine br_t (decide_eq_true (by assumption)) ?_|refine br_f (decide_eq_false (by assumption)) ?_|refine br_t (beq_iff_eq.2 (by assumption)) ?_|refine br_f (beq_eq_false_iff_ne.2 (by assumption)) ?_|refine drA ⟨tab_ok⟩ [] ?_|refine kpt ?_|refine br_t (decide_eq_true (by omega)) ?_|refine br_f (decide_eq_false (by omega)) ?_|refine br_f hne45 ?_|refine wr_i ?_|refine opP (pvLen (xs:=s) (by rfl) (by rfl) Tryd.underlying9) ?_|refine opP (pvIdx (xs:=s) (j:=0) (by rfl) (by rfl) (by rfl) rfl hc0 Tryd.underlying9) ?_|refine fin_s ?_|refine fin_r ?_ ?_|refine fin_e ?_ ?_)
  all_goals (rw [hno]; rfl)
 by_cases h48:c=48∧s≠[48]
 ·have hno:numR s=none:=by unfold numR; rw [if_pos (.inr (.inr ⟨by rw [htl,hhd,h48.1],h48.2⟩))]
  obtain ⟨rfl,hs1⟩:=h48
  have hq:q48=false:=by rw [hq48]; exact decide_eq_false hs1
  refine ent tab_ok [tx s] Tryd.func30 Tryd.ntmps30 rfl rfl ?_
  repeat' ((conv=>whnf); first | refine sgo ⟨tab_ok⟩ ?_|refine br_not ?_|refine br_t rfl ?_|refine br_f rfl ?_|refine br_t (by assumption) ?_|refine br_f (by assumption) ?_|refine br_t (decide_eq_true (by assumption)) ?_|refine br_f (decide_eq_false (by assumption)) ?_|refine br_t (beq_iff_eq.2 (by assumption)) ?_|refine br_f (beq_eq_false_iff_ne.2 (by assumption)) ?_|refine drA ⟨tab_ok⟩ [] ?_|refine kpt ?_|refine br_t (decide_eq_true (by omega)) ?_|refine br_f (decide_eq_false (by omega)) ?_|refine br_f hne45 ?_|refine br_f hs48 ?_|refine br_t hs48 ?_|refine br_f (hs48.trans hq) ?_|refine br_t (beq_iff_eq.2 (by omega)) ?_|refine br_f (beq_eq_false_iff_ne.2 (by omega)) ?_|refine wr_i ?_|refine opP (pvLen (xs:=s) (by rfl) (by rfl) Tryd.underlying9) ?_|refine opP (pvIdx (xs:=s) (j:=0) (by rfl) (by rfl) (by rfl) rfl hc0 Tryd.underlying9) ?_|refine fin_s ?_|refine fin_r ?_ ?_|refine fin_e ?_ ?_)
  all_goals (rw [hno]; rfl)
 have hok:¬ (s=[]∨19 < (s).length∨((s).head?=some 48∧s≠[48])):=by
  rintro (h | h | ⟨h,h2⟩)
  ·exact htne h
  ·omega
  ·rw [hhd] at h; injection h with h; exact h48 ⟨h,h2⟩
 have hlt0:0≤s.length:=by omega
 have hz48:(c.toNat:Int)=48→s=[48]:=fun h=>Classical.byContradiction fun h2=>h48 ⟨UInt8.toNat_inj.1 (by show c.toNat=48; omega),h2⟩
 refine ent tab_ok [tx s] Tryd.func30 Tryd.ntmps30 rfl rfl ?_
 repeat' ((conv=>whnf); first | refine sgo ⟨tab_ok⟩ ?_|refine br_not ?_|refine br_t rfl ?_|refine br_f rfl ?_|refine br_t (by assumption) ?_|refine br_f (by assumption) ?_|refine br_t (decide_eq_true (by assumption)) ?_|refine br_f (decide_eq_false (by assumption)) ?_|refine br_t (beq_iff_eq.2 (by assumption)) ?_|refine br_f (beq_eq_false_iff_ne.2 (by assumption)) ?_|refine drA ⟨tab_ok⟩ [] ?_|refine kpt ?_|refine br_t (decide_eq_true (by omega)) ?_|refine br_f (decide_eq_false (by omega)) ?_|refine br_f hne45 ?_|refine br_t (hs48.trans (hq48.trans (decide_eq_true (hz48 (by omega))))) ?_|refine br_t (beq_iff_eq.2 (by omega)) ?_|refine br_f (beq_eq_false_iff_ne.2 (by omega)) ?_|refine wr_i ?_|refine opP (pvLen (xs:=s) (by rfl) (by rfl) Tryd.underlying9) ?_|refine opP (pvIdx (xs:=s) (j:=0) (by rfl) (by rfl) (by rfl) rfl hc0 Tryd.underlying9) ?_|refine br_eq (fun hx=>?_) (fun hx=>?_)|refine fin_s ?_|refine fin_r ?_ ?_|refine fin_e ?_ ?_)
 all_goals
  conv=>whnf
  refine lp ⟨tab_ok⟩ (ι:={y:Nat×Nat // (y.1≤s.length∧0≤y.1)∧dgs 0 (s)=dgs y.2 (s.drop y.1)∧y.2 < 10 ^ (y.1 - 0)}) (fun y=>match y with | ⟨(i,u),_⟩=>⟨[(0,tx s),(4,.i .i64 0),(5,.i .u64 9223372036854775807),(6,.i .u64 (u:Int)),(7,.i .i64 (i:Int))],[],[]⟩) (fun y=>s.length - y.1.1) ⟨(0,0),⟨by omega,Nat.le_refl _⟩,by first | rfl | (rw [htl]; done),by simp⟩ (wk ?_) ?_
  ·repeat' (first | exact trivial | rfl | ((conv=>whnf); refine And.intro ?_ ?_))
  rintro ⟨⟨i,u⟩,⟨hi,hfi⟩,hd,hu⟩
  have hi:i≤s.length:=hi
  have hfi:0≤i:=hfi
  have hd:dgs 0 (s)=dgs u (s.drop i):=hd
  have hu:u < 10 ^ (i - 0):=hu
  by_cases hlt:i < s.length
  ·obtain ⟨c2,hc2⟩:∃ c2,s[i]?=some c2:=⟨_,List.getElem?_eq_getElem hlt⟩
   have hst:=dgs_step (n:=u) hc2
   have hcl:=c2.toNat_lt
   by_cases hg:48≤c2.toNat∧c2.toNat≤57
   ·rw [if_pos hg] at hst
    have hu1:u < 1000000000000000000:=Nat.lt_of_lt_of_le hu (Nat.pow_le_pow_right (by decide) (by omega:i - 0≤18))
    have hp:=pow_step (d:=c2.toNat - 48) hu (by omega)
    have hp2:u*10+(c2.toNat - 48) < 10 ^ (i+1 - 0):=by rw [show i+1 - 0=i - 0+1 by omega]; exact hp
    repeat' ((conv=>whnf); first | refine sgo ⟨tab_ok⟩ ?_|refine br_not ?_|refine br_t rfl ?_|refine br_f rfl ?_|refine br_t (by assumption) ?_|refine br_f (by assumption) ?_|refine br_t (decide_eq_true (by assumption)) ?_|refine br_f (decide_eq_false (by assumption)) ?_|refine br_t (beq_iff_eq.2 (by assumption)) ?_|refine br_f (beq_eq_false_iff_ne.2 (by assumption)) ?_|refine drA ⟨tab_ok⟩ [] ?_|refine kpt ?_|refine br_t (decide_eq_true (by omega)) ?_|refine br_f (decide_eq_false (by omega)) ?_|refine wr_i ?_|refine opP (pvLen (xs:=s) (by rfl) (by rfl) Tryd.underlying9) ?_|refine opP (pvIdx (xs:=s) (j:=i) (by rfl) (by rfl) (by rfl) rfl hc2 Tryd.underlying9) ?_|refine wr (show IntKind.u64.wrap ((u:Int)*10)=((u*10:Nat):Int) by rw [u64_wrap]; omega) ?_|refine wr (show IntKind.u8.wrap ((c2.toNat:Int) - 48)=((c2.toNat - 48:Nat):Int) by rw [u8_wrap]; omega) ?_|refine wr (show IntKind.u64.wrap ((c2.toNat - 48:Nat):Int)=((c2.toNat - 48:Nat):Int) by rw [u64_wrap]; omega) ?_|refine wr (show IntKind.u64.wrap (((u*10:Nat):Int)+((c2.toNat - 48:Nat):Int))=((u*10+(c2.toNat - 48):Nat):Int) by rw [u64_wrap]; omega) ?_|refine En.back ⟨(i+1,u*10+(c2.toNat - 48)),⟨by show i+1≤s.length; omega,by show 0≤i+1; omega⟩,hd.trans hst,hp2⟩ (wk ?_) ?_|refine fin_s ?_|refine fin_r ?_ ?_|refine fin_e ?_ ?_)
    all_goals first | (show s.length - (i+1) < s.length - i; omega)|skip
    all_goals (repeat' (first | exact trivial | rfl | ((conv=>whnf); refine And.intro ?_ ?_)))
   ·rw [if_neg hg] at hst
    have hno:numR s=none:=by unfold numR; rw [htl,if_neg hok,hd,hst]
    repeat' ((conv=>whnf); first | refine sgo ⟨tab_ok⟩ ?_|refine br_not ?_|refine br_t rfl ?_|refine br_f rfl ?_|refine br_t (by assumption) ?_|refine br_f (by assumption) ?_|refine br_t (decide_eq_true (by assumption)) ?_|refine br_f (decide_eq_false (by assumption)) ?_|refine br_t (beq_iff_eq.2 (by assumption)) ?_|refine br_f (beq_eq_false_iff_ne.2 (by assumption)) ?_|refine drA ⟨tab_ok⟩ [] ?_|refine kpt ?_|refine br_t (decide_eq_true (by omega)) ?_|refine br_f (decide_eq_false (by omega)) ?_|refine wr_i ?_|refine br_dec (fun hq=>?_) (fun hq=>?_)|refine opP (pvLen (xs:=s) (by rfl) (by rfl) Tryd.underlying9) ?_|refine opP (pvIdx (xs:=s) (j:=i) (by rfl) (by rfl) (by rfl) rfl hc2 Tryd.underlying9) ?_|refine fin_s ?_|refine fin_r ?_ ?_|refine fin_e ?_ ?_)
    all_goals (rw [hno]; rfl)
  ·have hu1:u < 10000000000000000000:=Nat.lt_of_lt_of_le hu (Nat.pow_le_pow_right (by decide) (by omega:i - 0≤19))
   have hend:=dgs_end (s:=s) (n:=u) (show s.length≤i by omega)
   have hde:=hd.trans hend
   by_cases hm:9223372036854775807 < u
   ·have hno:numR s=none:=by unfold numR; rw [htl,if_neg hok,hde,hneg]; show (if _ then none else _)=_; rw [if_pos (by unfold mostN; simp; omega)]
    repeat' ((conv=>whnf); first | refine sgo ⟨tab_ok⟩ ?_|refine br_not ?_|refine br_t rfl ?_|refine br_f rfl ?_|refine br_t (by assumption) ?_|refine br_f (by assumption) ?_|refine br_t (decide_eq_true (by assumption)) ?_|refine br_f (decide_eq_false (by assumption)) ?_|refine br_t (beq_iff_eq.2 (by assumption)) ?_|refine br_f (beq_eq_false_iff_ne.2 (by assumption)) ?_|refine drA ⟨tab_ok⟩ [] ?_|refine kpt ?_|refine br_t (decide_eq_true (by omega)) ?_|refine br_f (decide_eq_false (by omega)) ?_|refine wr_i ?_|refine opP (pvLen (xs:=s) (by rfl) (by rfl) Tryd.underlying9) ?_|refine fin_s ?_|refine fin_r ?_ ?_|refine fin_e ?_ ?_)
    all_goals (rw [hno]; rfl)
   ·have hyes:numR s=some ((u:Int)):=by unfold numR; rw [htl,if_neg hok,hde,hneg]; show (if _ then none else _)=_; rw [if_neg (by unfold mostN; simp; omega)]; rfl
    repeat' ((conv=>whnf); first | refine sgo ⟨tab_ok⟩ ?_|refine br_not ?_|refine br_t rfl ?_|refine br_f rfl ?_|refine br_t (by assumption) ?_|refine br_f (by assumption) ?_|refine br_t (decide_eq_true (by assumption)) ?_|refine br_f (decide_eq_false (by assumption)) ?_|refine br_t (beq_iff_eq.2 (by assumption)) ?_|refine br_f (beq_eq_false_iff_ne.2 (by assumption)) ?_|refine drA ⟨tab_ok⟩ [] ?_|refine kpt ?_|refine br_t (decide_eq_true (by omega)) ?_|refine br_f (decide_eq_false (by omega)) ?_|refine wr (show IntKind.i64.wrap (u:Int)=(u:Int) from wr64 _ (by omega) (by omega)) ?_|refine wr_i ?_|refine opP (pvLen (xs:=s) (by rfl) (by rfl) Tryd.underlying9) ?_|refine fin_s ?_|refine fin_r ?_ ?_|refine fin_e ?_ ?_)
    all_goals (rw [hyes]; rfl)
set_option maxHeartbeats 8000000 in
theorem numN {s:List UInt8} {c:UInt8} {r:List UInt8} (hs:s=c::r) (h45:c=45) (hl:s.length≤1000000) (w:World):Calls Tryd.prog 30 #[.string ⟨s.toArray⟩] w fun e w'=>e=.returned (nuA (numR s))∧Since w w':=by
 subst h45
 have hc0:s[0]?=some 45:=by rw [hs]; rfl
 have hlen:s.length=r.length+1:=by rw [hs]; rfl
 have hneg:negB s=true:=by rw [hs]; rfl
 have htl:tailB s=s.drop 1:=by unfold tailB; rw [if_pos hneg]
 have h45n:((45:UInt8).toNat:Int)=45:=rfl
 by_cases hr:r=[]
 ·subst hr
  have hl1:s.length=1:=by rw [hs]; rfl
  have hno:numR s=none:=by unfold numR; rw [if_pos (.inl (by rw [htl,hs]; rfl))]
  refine ent tab_ok [tx s] Tryd.func30 Tryd.ntmps30 rfl rfl ?_
  repeat' ((conv=>whnf); first | refine sgo ⟨tab_ok⟩ ?_|refine br_not ?_|refine br_t rfl ?_|refine br_f rfl ?_|refine br_t (by assumption) ?_|refine br_f (by assumption) ?_|refine br_t (decide_eq_true (by assumption)) ?_|refine br_f (decide_eq_false (by assumption)) ?_|refine br_t (beq_iff_eq.2 (by assumption)) ?_|refine br_f (beq_eq_false_iff_ne.2 (by assumption)) ?_|refine drA ⟨tab_ok⟩ [] ?_|refine kpt ?_|refine br_t (decide_eq_true (by omega)) ?_|refine br_f (decide_eq_false (by omega)) ?_|refine wr_i ?_|refine br_t (beq_iff_eq.2 (by omega)) ?_|refine br_f (beq_eq_false_iff_ne.2 (by omega)) ?_|refine opP (pvLen (xs:=s) (by rfl) (by rfl) Tryd.underlying9) ?_|refine opP (pvIdx (xs:=s) (j:=0) (by rfl) (by rfl) (by rfl) rfl hc0 Tryd.underlying9) ?_|refine fin_s ?_|refine fin_r ?_ ?_|refine fin_e ?_ ?_)
  all_goals (rw [hno]; rfl)
 have htne:s.drop 1≠[]:=by rw [hs]; exact hr
 obtain ⟨c1,hc1⟩:∃ c1,s[1]?=some c1:=⟨_,List.getElem?_eq_getElem (by have:=List.length_pos_iff.2 hr; omega)⟩
 have hr1:=List.length_pos_iff.2 hr
 have hhd:(s.drop 1).head?=some c1:=by rw [List.head?_drop]; exact hc1
 have hs48:((⟨s.toArray⟩:ByteArray).toList == (⟨[48].toArray⟩:ByteArray).toList)=false:=by rw [tl_eq,hs]; exact decide_eq_false (by simp)
 by_cases h19:19 < s.length - 1
 ·have hno:numR s=none:=by unfold numR; rw [if_pos (.inr (.inl (by rw [htl]; rw [List.length_drop]; omega)))]
  refine ent tab_ok [tx s] Tryd.func30 Tryd.ntmps30 rfl rfl ?_
  repeat' ((conv=>whnf); first | refine sgo ⟨tab_ok⟩ ?_|refine br_not ?_|refine br_t rfl ?_|refine br_f rfl ?_|refine br_t (by assumption) ?_|refine br_f (by assumption) ?_|refine br_t (decide_eq_true (by assumption)) ?_|refine br_f (decide_eq_false (by assumption)) ?_|refine br_t (beq_iff_eq.2 (by assumption)) ?_|refine br_f (beq_eq_false_iff_ne.2 (by assumption)) ?_|refine drA ⟨tab_ok⟩ [] ?_|refine kpt ?_|refine br_t (decide_eq_true (by omega)) ?_|refine br_f (decide_eq_false (by omega)) ?_|refine br_t (beq_iff_eq.2 (by omega)) ?_|refine br_f (beq_eq_false_iff_ne.2 (by omega)) ?_|refine wr_i ?_|refine opP (pvLen (xs:=s) (by rfl) (by rfl) Tryd.underlying9) ?_|refine opP (pvIdx (xs:=s) (j:=0) (by rfl) (by rfl) (by rfl) rfl hc0 Tryd.underlying9) ?_|refine opP (pvIdx (xs:=s) (j:=1) (by rfl) (by rfl) (by rfl) rfl hc1 Tryd.underlying9) ?_|refine fin_s ?_|refine fin_r ?_ ?_|refine fin_e ?_ ?_)
  all_goals (rw [hno]; rfl)
 by_cases h48:c1=48∧s≠[48]
 ·have hno:numR s=none:=by unfold numR; rw [if_pos (.inr (.inr ⟨by rw [htl,hhd,h48.1],h48.2⟩))]
  obtain ⟨rfl,hs1⟩:=h48
  refine ent tab_ok [tx s] Tryd.func30 Tryd.ntmps30 rfl rfl ?_
  repeat' ((conv=>whnf); first | refine sgo ⟨tab_ok⟩ ?_|refine br_not ?_|refine br_t rfl ?_|refine br_f rfl ?_|refine br_t (by assumption) ?_|refine br_f (by assumption) ?_|refine br_t (decide_eq_true (by assumption)) ?_|refine br_f (decide_eq_false (by assumption)) ?_|refine br_t (beq_iff_eq.2 (by assumption)) ?_|refine br_f (beq_eq_false_iff_ne.2 (by assumption)) ?_|refine drA ⟨tab_ok⟩ [] ?_|refine kpt ?_|refine br_t (decide_eq_true (by omega)) ?_|refine br_f (decide_eq_false (by omega)) ?_|refine br_t (beq_iff_eq.2 (by omega)) ?_|refine br_f (beq_eq_false_iff_ne.2 (by omega)) ?_|refine br_f hs48 ?_|refine br_t hs48 ?_|refine br_f (hs48.trans rfl) ?_|refine br_t (beq_iff_eq.2 (by omega)) ?_|refine br_f (beq_eq_false_iff_ne.2 (by omega)) ?_|refine wr_i ?_|refine opP (pvLen (xs:=s) (by rfl) (by rfl) Tryd.underlying9) ?_|refine opP (pvIdx (xs:=s) (j:=0) (by rfl) (by rfl) (by rfl) rfl hc0 Tryd.underlying9) ?_|refine opP (pvIdx (xs:=s) (j:=1) (by rfl) (by rfl) (by rfl) rfl hc1 Tryd.underlying9) ?_|refine fin_s ?_|refine fin_r ?_ ?_|refine fin_e ?_ ?_)
  all_goals (rw [hno]; rfl)
 have hok:¬ (s.drop 1=[]∨19 < (s.drop 1).length∨((s.drop 1).head?=some 48∧s≠[48])):=by
  rintro (h | h | ⟨h,h2⟩)
  ·exact htne h
  ·rw [List.length_drop] at h; omega
  ·rw [hhd] at h; injection h with h; exact h48 ⟨h,h2⟩
 have hlt0:1≤s.length:=by omega
 have hn48:((c1.toNat:Int) == 48)=false:=beq_eq_false_iff_ne.2 (fun h=>h48 ⟨UInt8.toNat_inj.1 (by show c1.toNat=48; omega),by rw [hs]; simp⟩)
 refine ent tab_ok [tx s] Tryd.func30 Tryd.ntmps30 rfl rfl ?_
 repeat' ((conv=>whnf); first | refine sgo ⟨tab_ok⟩ ?_|refine br_not ?_|refine br_t rfl ?_|refine br_f rfl ?_|refine br_t (by assumption) ?_|refine br_f (by assumption) ?_|refine br_t (decide_eq_true (by assumption)) ?_|refine br_f (decide_eq_false (by assumption)) ?_|refine br_t (beq_iff_eq.2 (by assumption)) ?_|refine br_f (beq_eq_false_iff_ne.2 (by assumption)) ?_|refine drA ⟨tab_ok⟩ [] ?_|refine kpt ?_|refine br_t (decide_eq_true (by omega)) ?_|refine br_f (decide_eq_false (by omega)) ?_|refine br_t (beq_iff_eq.2 (by omega)) ?_|refine br_f (beq_eq_false_iff_ne.2 (by omega)) ?_|refine br_t (beq_iff_eq.2 (by omega)) ?_|refine br_f (beq_eq_false_iff_ne.2 (by omega)) ?_|refine br_f hs48 ?_|refine br_f hn48 ?_|refine wr_i ?_|refine opP (pvLen (xs:=s) (by rfl) (by rfl) Tryd.underlying9) ?_|refine opP (pvIdx (xs:=s) (j:=0) (by rfl) (by rfl) (by rfl) rfl hc0 Tryd.underlying9) ?_|refine opP (pvIdx (xs:=s) (j:=1) (by rfl) (by rfl) (by rfl) rfl hc1 Tryd.underlying9) ?_|refine br_eq (fun hx=>?_) (fun hx=>?_)|refine fin_s ?_|refine fin_r ?_ ?_|refine fin_e ?_ ?_)
 all_goals
  conv=>whnf
  refine lp ⟨tab_ok⟩ (ι:={y:Nat×Nat // (y.1≤s.length∧1≤y.1)∧dgs 0 (s.drop 1)=dgs y.2 (s.drop y.1)∧y.2 < 10 ^ (y.1 - 1)}) (fun y=>match y with | ⟨(i,u),_⟩=>⟨[(0,tx s),(4,.i .i64 1),(5,.i .u64 9223372036854775808),(6,.i .u64 (u:Int)),(7,.i .i64 (i:Int))],[],[]⟩) (fun y=>s.length - y.1.1) ⟨(1,0),⟨by omega,Nat.le_refl _⟩,by first | rfl | (rw [htl]; done),by simp⟩ (wk ?_) ?_
  ·repeat' (first | exact trivial | rfl | ((conv=>whnf); refine And.intro ?_ ?_))
  rintro ⟨⟨i,u⟩,⟨hi,hfi⟩,hd,hu⟩
  have hi:i≤s.length:=hi
  have hfi:1≤i:=hfi
  have hd:dgs 0 (s.drop 1)=dgs u (s.drop i):=hd
  have hu:u < 10 ^ (i - 1):=hu
  by_cases hlt:i < s.length
  ·obtain ⟨c2,hc2⟩:∃ c2,s[i]?=some c2:=⟨_,List.getElem?_eq_getElem hlt⟩
   have hst:=dgs_step (n:=u) hc2
   have hcl:=c2.toNat_lt
   by_cases hg:48≤c2.toNat∧c2.toNat≤57
   ·rw [if_pos hg] at hst
    have hu1:u < 1000000000000000000:=Nat.lt_of_lt_of_le hu (Nat.pow_le_pow_right (by decide) (by omega:i - 1≤18))
    have hp:=pow_step (d:=c2.toNat - 48) hu (by omega)
    have hp2:u*10+(c2.toNat - 48) < 10 ^ (i+1 - 1):=by rw [show i+1 - 1=i - 1+1 by omega]; exact hp
    repeat' ((conv=>whnf); first | refine sgo ⟨tab_ok⟩ ?_|refine br_not ?_|refine br_t rfl ?_|refine br_f rfl ?_|refine br_t (by assumption) ?_|refine br_f (by assumption) ?_|refine br_t (decide_eq_true (by assumption)) ?_|refine br_f (decide_eq_false (by assumption)) ?_|refine br_t (beq_iff_eq.2 (by assumption)) ?_|refine br_f (beq_eq_false_iff_ne.2 (by assumption)) ?_|refine drA ⟨tab_ok⟩ [] ?_|refine kpt ?_|refine br_t (decide_eq_true (by omega)) ?_|refine br_f (decide_eq_false (by omega)) ?_|refine wr_i ?_|refine opP (pvLen (xs:=s) (by rfl) (by rfl) Tryd.underlying9) ?_|refine opP (pvIdx (xs:=s) (j:=i) (by rfl) (by rfl) (by rfl) rfl hc2 Tryd.underlying9) ?_|refine wr (show IntKind.u64.wrap ((u:Int)*10)=((u*10:Nat):Int) by rw [u64_wrap]; omega) ?_|refine wr (show IntKind.u8.wrap ((c2.toNat:Int) - 48)=((c2.toNat - 48:Nat):Int) by rw [u8_wrap]; omega) ?_|refine wr (show IntKind.u64.wrap ((c2.toNat - 48:Nat):Int)=((c2.toNat - 48:Nat):Int) by rw [u64_wrap]; omega) ?_|refine wr (show IntKind.u64.wrap (((u*10:Nat):Int)+((c2.toNat - 48:Nat):Int))=((u*10+(c2.toNat - 48):Nat):Int) by rw [u64_wrap]; omega) ?_|refine En.back ⟨(i+1,u*10+(c2.toNat - 48)),⟨by show i+1≤s.length; omega,by show 1≤i+1; omega⟩,hd.trans hst,hp2⟩ (wk ?_) ?_|refine fin_s ?_|refine fin_r ?_ ?_|refine fin_e ?_ ?_)
    all_goals first | (show s.length - (i+1) < s.length - i; omega)|skip
    all_goals (repeat' (first | exact trivial | rfl | ((conv=>whnf); refine And.intro ?_ ?_)))
   ·rw [if_neg hg] at hst
    have hno:numR s=none:=by unfold numR; rw [htl,if_neg hok,hd,hst]
    repeat' ((conv=>whnf); first | refine sgo ⟨tab_ok⟩ ?_|refine br_not ?_|refine br_t rfl ?_|refine br_f rfl ?_|refine br_t (by assumption) ?_|refine br_f (by assumption) ?_|refine br_t (decide_eq_true (by assumption)) ?_|refine br_f (decide_eq_false (by assumption)) ?_|refine br_t (beq_iff_eq.2 (by assumption)) ?_|refine br_f (beq_eq_false_iff_ne.2 (by assumption)) ?_|refine drA ⟨tab_ok⟩ [] ?_|refine kpt ?_|refine br_t (decide_eq_true (by omega)) ?_|refine br_f (decide_eq_false (by omega)) ?_|refine wr_i ?_|refine br_dec (fun hq=>?_) (fun hq=>?_)|refine opP (pvLen (xs:=s) (by rfl) (by rfl) Tryd.underlying9) ?_|refine opP (pvIdx (xs:=s) (j:=i) (by rfl) (by rfl) (by rfl) rfl hc2 Tryd.underlying9) ?_|refine fin_s ?_|refine fin_r ?_ ?_|refine fin_e ?_ ?_)
    all_goals (rw [hno]; rfl)
  ·have hu1:u < 10000000000000000000:=Nat.lt_of_lt_of_le hu (Nat.pow_le_pow_right (by decide) (by omega:i - 1≤19))
   have hend:=dgs_end (s:=s) (n:=u) (show s.length≤i by omega)
   have hde:=hd.trans hend
   have hu0:1≤u:=dgs_pos hde htne (fun h=>hok (.inr (.inr ⟨h,by rw [hs]; simp⟩)))
   by_cases hm:9223372036854775808 < u
   ·have hno:numR s=none:=by unfold numR; rw [htl,if_neg hok,hde,hneg]; show (if _ then none else _)=_; rw [if_pos (by unfold mostN; simp; omega)]
    repeat' ((conv=>whnf); first | refine sgo ⟨tab_ok⟩ ?_|refine br_not ?_|refine br_t rfl ?_|refine br_f rfl ?_|refine br_t (by assumption) ?_|refine br_f (by assumption) ?_|refine br_t (decide_eq_true (by assumption)) ?_|refine br_f (decide_eq_false (by assumption)) ?_|refine br_t (beq_iff_eq.2 (by assumption)) ?_|refine br_f (beq_eq_false_iff_ne.2 (by assumption)) ?_|refine drA ⟨tab_ok⟩ [] ?_|refine kpt ?_|refine br_t (decide_eq_true (by omega)) ?_|refine br_f (decide_eq_false (by omega)) ?_|refine wr_i ?_|refine opP (pvLen (xs:=s) (by rfl) (by rfl) Tryd.underlying9) ?_|refine fin_s ?_|refine fin_r ?_ ?_|refine fin_e ?_ ?_)
    all_goals (rw [hno]; rfl)
   ·have hyes:numR s=some (-(u:Int)):=by unfold numR; rw [htl,if_neg hok,hde,hneg]; show (if _ then none else _)=_; rw [if_neg (by unfold mostN; simp; omega)]; rfl
    repeat' ((conv=>whnf); first | refine sgo ⟨tab_ok⟩ ?_|refine br_not ?_|refine br_t rfl ?_|refine br_f rfl ?_|refine br_t (by assumption) ?_|refine br_f (by assumption) ?_|refine br_t (decide_eq_true (by assumption)) ?_|refine br_f (decide_eq_false (by assumption)) ?_|refine br_t (beq_iff_eq.2 (by assumption)) ?_|refine br_f (beq_eq_false_iff_ne.2 (by assumption)) ?_|refine drA ⟨tab_ok⟩ [] ?_|refine kpt ?_|refine br_t (decide_eq_true (by omega)) ?_|refine br_f (decide_eq_false (by omega)) ?_|refine wr (show IntKind.u64.wrap ((u:Int) - 1)=((u - 1:Nat):Int) by rw [u64_wrap]; omega) ?_|refine wr (show IntKind.i64.wrap ((u - 1:Nat):Int)=((u - 1:Nat):Int) by exact wr64 _ (by omega) (by omega)) ?_|refine wr (show IntKind.i64.wrap (0 - ((u - 1:Nat):Int)) = -((u - 1:Nat):Int) by rw [Int.zero_sub]; exact wr64 _ (by omega) (by omega)) ?_|refine wr (show IntKind.i64.wrap (-((u - 1:Nat):Int) - 1) = -(u:Int) by rw [show -((u - 1:Nat):Int) - 1 = -(u:Int) by omega]; exact wr64 _ (by omega) (by omega)) ?_|refine wr_i ?_|refine opP (pvLen (xs:=s) (by rfl) (by rfl) Tryd.underlying9) ?_|refine fin_s ?_|refine fin_r ?_ ?_|refine fin_e ?_ ?_)
    all_goals (rw [hyes]; rfl)
end Sw
namespace Sw
open Go.RowKit Ba Mem En Go.Proofs.YtjghelofdfolbaaDoor.Ty Gw
open Byt (BV isB)
open Co (Hold.ob)
open Sx
set_option maxRecDepth 100000
def hexI (zs:List Int):List UInt8:=hexL (zs.map Int.toNat)
theorem hexI_len (zs:List Int):(hexI zs).length=2*zs.length:=by unfold hexI; rw [hexL_len,List.length_map]
theorem hexI_0 (zs:List Int):hexI (zs.take 0)=[]:=by unfold hexI; simp [hexL]
theorem dig_1 {k:Nat} (h:k < 16):(dig16.drop k).take (k+1 - k)=[hxd k]:=by
 have:=hd_dig' h
 rw [drop_at this]
 have e:k+1 - k=1:=by omega
 rw [e]; rfl
theorem hex_next {zs:List Int} {i k:Nat} (h:zs[i]?=some (k:Int)):hexI (zs.take (i+1))=hexI (zs.take i)++[hxd (k / 16)]++[hxd (k % 16)]:=by
 unfold hexI
 rw [List.take_add_one,h,List.map_append]
 show hexL (_++[((k:Int)).toNat])=_
 rw [Int.toNat_natCast,hexL_add,List.append_assoc]; rfl
section
variable {X:Cx} {s:St} {o:Oper} {t:TypeId} {lo hi:Operand} {k:Nat} {I J:Int} {kk kk2:IntKind}
theorem pvDg (hk:k < 16) (ho:o.op=.slice t (.const (.string ⟨dig16.toArray⟩)) (some lo) (some hi) none) (h1:evO lo s.fr=some (.i kk I)) (h2:evO hi s.fr=some (.i kk2 J)) (hI:I=(k:Int)) (hJ:J=((k+1:Nat):Int)) (ht:X.P.underlying t=some .string):PV X o s (tx [hxd k]):=by
 have:=pvSl (X:=X) (s:=s) (xs:=dig16) k (k+1) ho rfl h1 h2 ⟨⟨hI,hJ⟩,by omega,by show k+1≤16; omega⟩ ht
 rw [dig_1 hk] at this
 exact this
end
theorem q16 {k:Nat} (h:k < 256):IntKind.u8.wrap ((k:Int).tdiv 16)=((k / 16:Nat):Int):=by
 have e:(k:Int).tdiv 16=((k / 16:Nat):Int):=rfl
 rw [e,u8_wrap]; omega
theorem a16 {k:Nat} (h:k < 16):IntKind.u8.wrap ((k:Int)+1)=((k+1:Nat):Int):=by rw [u8_wrap]; omega
attribute [local irreducible] Go.Calls hexI
set_option maxHeartbeats 4000000 in
theorem hexR {A:Option Addr} {n c:Nat} {zs:List Int} {w:World} (h:BV w A n zs) (hn:n≤1000000):Calls Tryd.prog 19 #[.slice A n c] w fun e w'=>e=.returned (.string ⟨(hexI zs).toArray⟩)∧Since w w':=by
 have hl:=h.1
 have hb:=h.2.2.1
 obtain ⟨g,off,hA⟩:∃ g off,0 < n→A=some ⟨g,off,none⟩:=by
  rcases Nat.eq_zero_or_pos n with h0 | h0
  ·exact ⟨0,0,fun h=>by omega⟩
  ·obtain ⟨b,o,e,_⟩:=h.addr (by omega)
   exact ⟨b,o,fun _=>e⟩
 refine entH tab_ok (hold_bv h) [.v (.slice A n c)] Tryd.func19 Tryd.ntmps19 rfl rfl ?_
 repeat' ((conv=>whnf); first | refine sgo ⟨tab_ok⟩ ?_|refine br_not ?_|refine br_t rfl ?_|refine br_f rfl ?_|refine br_t (by assumption) ?_|refine br_f (by assumption) ?_|refine br_t (decide_eq_true (by assumption)) ?_|refine br_f (decide_eq_false (by assumption)) ?_|refine br_t (beq_iff_eq.2 (by assumption)) ?_|refine br_f (beq_eq_false_iff_ne.2 (by assumption)) ?_|refine br_t (decide_eq_true (by omega)) ?_|refine br_f (decide_eq_false (by omega)) ?_|refine fin_s ?_|refine fin_r ?_ ?_|refine fin_e ?_ ?_)
 conv=>whnf
 refine lp ⟨tab_ok⟩ (ι:={y:Nat×List UInt8 // y.1≤n∧y.2=hexI (zs.take y.1)}) (fun y=>match y with | ⟨(i,x),_⟩=>⟨[(0,.v (.slice A n c)),(3,tx x),(4,.i .i64 (i:Int))],[],[bvO A n zs]⟩) (fun y=>n - y.1.1) ⟨(0,[]),Nat.zero_le _,(hexI_0 zs).symm⟩ (wk ?_) ?_
 ·repeat' (first | exact trivial | rfl | ((conv=>whnf); refine And.intro ?_ ?_))
 rintro ⟨⟨i,x⟩,hi,hx⟩
 have hi:i≤n:=hi
 have hx:x=hexI (zs.take i):=hx
 by_cases hlt:i < n
 ·obtain ⟨z,hz⟩:∃ z,zs[i]?=some z:=⟨_,List.getElem?_eq_getElem (by omega)⟩
  have hzb:isB z:=hb z (List.mem_of_getElem? hz)
  unfold isB at hzb
  obtain ⟨k,rfl⟩:∃ k:Nat,z=(k:Int):=⟨z.toNat,by omega⟩
  have hk:k < 256:=by omega
  have hA:=hA (by omega)
  subst hA
  have hnx:=hex_next hz
  rw [← hx] at hnx
  have hzd:zs.getD i 0=(k:Int):=by rw [List.getD_eq_getElem?_getD,hz]; rfl
  have hlen:x.length≤2000000:=by rw [hx,hexI_len,List.length_take]; omega
  repeat' ((conv=>whnf); first | refine sgo ⟨tab_ok⟩ ?_|refine br_not ?_|refine br_t rfl ?_|refine br_f rfl ?_|refine br_t (by assumption) ?_|refine br_f (by assumption) ?_|refine br_t (decide_eq_true (by assumption)) ?_|refine br_f (decide_eq_false (by assumption)) ?_|refine br_t (beq_iff_eq.2 (by assumption)) ?_|refine br_f (beq_eq_false_iff_ne.2 (by assumption)) ?_|refine drQ (id:=5) ⟨tab_ok⟩ ?_|refine drA ⟨tab_ok⟩ [] ?_|refine kpt ?_|refine br_t (decide_eq_true (by omega)) ?_|refine br_f (decide_eq_false (by omega)) ?_|refine cd (by first | decide | omega) ?_|refine wr (q16 hk) ?_|refine wr r16 ?_|refine wr (a16 (k:=k / 16) (by omega)) ?_|refine wr (a16 (k:=k % 16) (by omega)) ?_|refine wr_i ?_|refine quP (puiv ⟨tab_ok⟩ (by rfl) (by rfl) (by rfl) (by rfl) (by rfl) (by rfl) ⟨by omega,by omega⟩ ?_)|refine quxc (g:=g) (off:=off+i) (.i .u8 (k:Int)) (fun w1 hH=>bv_rng (Hold.ob hH (A:=bvO (some ⟨g,off,none⟩) n zs) 0 rfl) hlt hzd) ⟨tab_ok⟩ (by rfl) (by rfl) (by first | (simp only [Go.WideShapes.add_plain]; done)|(simp only [Go.WideShapes.add_plain]; rfl)|(simp [Go.WideShapes.add_plain]; done)) ?_|refine quP (puP (pvDg (k:=k / 16) (by omega) (by rfl) (by rfl) (by rfl) rfl rfl Tryd.underlying9) ?_)|refine quP (puP (pvDg (k:=k % 16) (by omega) (by rfl) (by rfl) (by rfl) rfl rfl Tryd.underlying9) ?_)|refine quP (puP (pvCat (xs:=x) (ys:=[hxd (k / 16)]) (by rfl) (by rfl) (by rfl) ⟨by omega,by show 0+1≤8388608; omega⟩) ?_)|refine quP (puP (pvCat (xs:=x++[hxd (k / 16)]) (ys:=[hxd (k % 16)]) (by rfl) (by rfl) (by rfl) ⟨by rw [List.length_append]; show _+(0+1)≤8388608; omega,by show 0+1≤8388608; omega⟩) ?_)|refine En.back ⟨(i+1,x++[hxd (k / 16)]++[hxd (k % 16)]),by show i+1≤n; omega,hnx.symm⟩ (wk ?_) ?_|refine fin_s ?_|refine fin_r ?_ ?_|refine fin_e ?_ ?_)
  all_goals first | (show n - (i+1) < n - i; omega)|skip
  all_goals (repeat' (first | exact trivial | rfl | ((conv=>whnf); refine And.intro ?_ ?_)))
 ·have e0:i=n:=by omega
  subst e0
  have e1:zs.take i=zs:=by rw [← hl]; exact List.take_length
  repeat' ((conv=>whnf); first | refine sgo ⟨tab_ok⟩ ?_|refine br_not ?_|refine br_t rfl ?_|refine br_f rfl ?_|refine br_t (by assumption) ?_|refine br_f (by assumption) ?_|refine br_t (decide_eq_true (by assumption)) ?_|refine br_f (decide_eq_false (by assumption)) ?_|refine br_t (beq_iff_eq.2 (by assumption)) ?_|refine br_f (beq_eq_false_iff_ne.2 (by assumption)) ?_|refine drA ⟨tab_ok⟩ [] ?_|refine kpt ?_|refine br_t (decide_eq_true (by omega)) ?_|refine br_f (decide_eq_false (by omega)) ?_|refine fin_s ?_|refine fin_r ?_ ?_|refine fin_e ?_ ?_)
  all_goals (rw [hx,e1]; rfl)
def dgR (c:UInt8):Int:=match hx c with
 | some d=>(d:Int)
 | none => -1
theorem no_next {k:Nat} {c d:UInt8} (hd:dig16[k]?=some d) (e:¬ d=c) (hno:∀ j,j < k→dig16[j]?≠some c) (j:Nat) (hj:j < k+1) (h:dig16[j]?=some c):False:=by
 rcases Nat.lt_or_ge j k with h1 | h1
 ·exact hno j h1 h
 ·have:j=k:=by omega
  subst this
  rw [hd] at h
  injection h with h
  exact e h
theorem digitR (c:UInt8) (w:World):Calls Tryd.prog 43 #[.int .u8 (c.toNat:Int)] w fun e w'=>e=.returned (.int .i64 (dgR c))∧Since w w':=by
 refine ent tab_ok [.i .u8 (c.toNat:Int)] Tryd.func43 Tryd.ntmps43 rfl rfl ?_
 repeat' ((conv=>whnf); first | refine sgo ⟨tab_ok⟩ ?_|refine br_not ?_|refine br_t rfl ?_|refine br_f rfl ?_|refine br_t (by assumption) ?_|refine br_f (by assumption) ?_|refine br_t (decide_eq_true (by assumption)) ?_|refine br_f (decide_eq_false (by assumption)) ?_|refine br_t (beq_iff_eq.2 (by assumption)) ?_|refine br_f (beq_eq_false_iff_ne.2 (by assumption)) ?_|refine br_t (decide_eq_true (by omega)) ?_|refine br_f (decide_eq_false (by omega)) ?_|refine fin_s ?_|refine fin_r ?_ ?_|refine fin_e ?_ ?_)
 conv=>whnf
 refine lp ⟨tab_ok⟩ (ι:={k:Nat // k≤16∧∀ j,j < k→dig16[j]?≠some c}) (fun y=>match y with | ⟨k,_⟩=>⟨[(0,.i .u8 (c.toNat:Int)),(3,.i .i64 (k:Int))],[],[]⟩) (fun y=>16 - y.1) ⟨0,by omega,fun j hj=>by omega⟩ (wk ?_) ?_
 ·repeat' (first | exact trivial | rfl | ((conv=>whnf); refine And.intro ?_ ?_))
 rintro ⟨k,hk,hno⟩
 by_cases hlt:k < 16
 ·obtain ⟨d,hd⟩:∃ d,dig16[k]?=some d:=⟨_,List.getElem?_eq_getElem (show k < 16 from hlt)⟩
  by_cases e:d=c
  ·subst e
   have e1:dgR d=(k:Int):=by unfold dgR; rw [hx_at' hd]
   repeat' ((conv=>whnf); first | refine sgo ⟨tab_ok⟩ ?_|refine br_not ?_|refine br_t rfl ?_|refine br_f rfl ?_|refine br_t (by assumption) ?_|refine br_f (by assumption) ?_|refine br_t (decide_eq_true (by assumption)) ?_|refine br_f (decide_eq_false (by assumption)) ?_|refine br_t (beq_iff_eq.2 (by assumption)) ?_|refine br_f (beq_eq_false_iff_ne.2 (by assumption)) ?_|refine drA ⟨tab_ok⟩ [] ?_|refine kpt ?_|refine br_t (decide_eq_true (by omega)) ?_|refine br_f (decide_eq_false (by omega)) ?_|refine opP (pvIdx (xs:=dig16) (j:=k) (by rfl) (by rfl) (by rfl) rfl hd Tryd.underlying9) ?_|refine br_t (beq_iff_eq.2 rfl) ?_|refine fin_s ?_|refine fin_r ?_ ?_|refine fin_e ?_ ?_)
   all_goals (rw [e1]; rfl)
  ·have hne:((d.toNat:Int) == (c.toNat:Int))=false:=beq_eq_false_iff_ne.2 (fun h=>e (UInt8.toNat_inj.1 (by omega)))
   repeat' ((conv=>whnf); first | refine sgo ⟨tab_ok⟩ ?_|refine br_not ?_|refine br_t rfl ?_|refine br_f rfl ?_|refine br_t (by assumption) ?_|refine br_f (by assumption) ?_|refine br_t (decide_eq_true (by assumption)) ?_|refine br_f (decide_eq_false (by assumption)) ?_|refine br_t (beq_iff_eq.2 (by assumption)) ?_|refine br_f (beq_eq_false_iff_ne.2 (by assumption)) ?_|refine drA ⟨tab_ok⟩ [] ?_|refine kpt ?_|refine br_t (decide_eq_true (by omega)) ?_|refine br_f (decide_eq_false (by omega)) ?_|refine opP (pvIdx (xs:=dig16) (j:=k) (by rfl) (by rfl) (by rfl) rfl hd Tryd.underlying9) ?_|refine br_f hne ?_|refine wr_i ?_|refine En.back ⟨k+1,by show k+1≤16; omega,fun j hj h=>no_next hd e hno j hj h⟩ (wk ?_) ?_|refine fin_s ?_|refine fin_r ?_ ?_|refine fin_e ?_ ?_)
   all_goals first | (show 16 - (k+1) < 16 - k; omega)|skip
   all_goals (repeat' (first | exact trivial | rfl | ((conv=>whnf); refine And.intro ?_ ?_)))
 ·have e1:dgR c = -1:=by unfold dgR; rw [hx_none (fun j hj=>hno j (by omega))]
  repeat' ((conv=>whnf); first | refine sgo ⟨tab_ok⟩ ?_|refine br_not ?_|refine br_t rfl ?_|refine br_f rfl ?_|refine br_t (by assumption) ?_|refine br_f (by assumption) ?_|refine br_t (decide_eq_true (by assumption)) ?_|refine br_f (decide_eq_false (by assumption)) ?_|refine br_t (beq_iff_eq.2 (by assumption)) ?_|refine br_f (beq_eq_false_iff_ne.2 (by assumption)) ?_|refine drA ⟨tab_ok⟩ [] ?_|refine kpt ?_|refine br_t (decide_eq_true (by omega)) ?_|refine br_f (decide_eq_false (by omega)) ?_|refine fin_s ?_|refine fin_r ?_ ?_|refine fin_e ?_ ?_)
  all_goals (rw [e1]; rfl)
end Sw
namespace Sw
open Go.RowKit Ba Mem En Go.Proofs.YtjghelofdfolbaaDoor.Ty Gw
open Co (Hold.ob)
open Sx
set_option maxRecDepth 100000
attribute [local irreducible] Go.Calls
theorem numberR (s:List UInt8) (hl:s.length≤1000000) (w:World):Calls Tryd.prog 30 #[.string ⟨s.toArray⟩] w fun e w'=>e=.returned (nuA (numR s))∧Since w w':=by
 cases s with
 | nil =>
  have hno:numR []=none:=rfl
  refine ent tab_ok [tx []] Tryd.func30 Tryd.ntmps30 rfl rfl ?_
  repeat' ((conv=>whnf); first | refine sgo ⟨tab_ok⟩ ?_|refine br_not ?_|refine br_t rfl ?_|refine br_f rfl ?_|refine br_t (by assumption) ?_|refine br_f (by assumption) ?_|refine br_t (decide_eq_true (by assumption)) ?_|refine br_f (decide_eq_false (by assumption)) ?_|refine br_t (beq_iff_eq.2 (by assumption)) ?_|refine br_f (beq_eq_false_iff_ne.2 (by assumption)) ?_|refine drA ⟨tab_ok⟩ [] ?_|refine kpt ?_|refine br_t (decide_eq_true (by omega)) ?_|refine br_f (decide_eq_false (by omega)) ?_|refine opP (pvLen (xs:=[]) (by rfl) (by rfl) Tryd.underlying9) ?_|refine wr_i ?_|refine fin_s ?_|refine fin_r ?_ ?_|refine fin_e ?_ ?_)
  all_goals (rw [hno]; rfl)
 | cons c r =>
  by_cases h:c=45
  ·exact numN rfl h hl w
  ·exact numP rfl h hl w
def lD (y:Option (List Nat)):List Nat:=match y with
 | some l=>l
 | none=>[]
def zsN (l:List Nat):List Int:=l.map Int.ofNat
theorem zsN_len (l:List Nat):(zsN l).length=l.length:=by simp [zsN]
theorem zsN_add (l:List Nat) (x:Nat):zsN (l++[x])=zsN l++[(x:Int)]:=by simp [zsN]
theorem dg_some {c:UInt8} {d:Nat} (h:hx c=some d):dgR c=(d:Int):=by unfold dgR; rw [h]
theorem dg_none {c:UInt8} (h:hx c=none):dgR c = -1:=by unfold dgR; rw [h]
structure ByI (s:List UInt8) (i:Nat) (out:List Nat):Prop where
 n:2*out.length+1=i
 le:i≤s.length
 v:hexV (s.drop 1)=(hexV (s.drop i)).map fun l=>out++l
theorem ByI.z {s:List UInt8} (h:1≤s.length):ByI s 1 []:=⟨rfl,h,by cases hexV (s.drop 1) <;> rfl⟩
theorem ByI.more {s:List UInt8} {i x y:Nat} {out:List Nat} {a b:UInt8} (h:ByI s i out) (ha:s[i]?=some a) (hb:s[i+1]?=some b) (h1:hx a=some x) (h2:hx b=some y):ByI s (i+2) (out++[x*16+y]):=by
 have hl:i+1 < s.length:=(List.getElem?_eq_some_iff.1 hb).1
 refine ⟨by have:=h.n; rw [List.length_append]; simp; omega,by omega, ?_⟩
 rw [h.v,hex_step ha hb h1 h2]
 cases hexV (s.drop (i+2)) with
 | none=>rfl
 | some l=>simp
theorem ByI.bad {s:List UInt8} {i:Nat} {out:List Nat} {a b:UInt8} (h:ByI s i out) (ha:s[i]?=some a) (hb:s[i+1]?=some b) (h1:hx a=none∨hx b=none):hexV (s.drop 1)=none:=by
 rw [h.v,hex_bad ha hb h1]; rfl
theorem ByI.end_ {s:List UInt8} {i:Nat} {out:List Nat} (h:ByI s i out) (hi:s.length≤i):hexV (s.drop 1)=some out:=by
 rw [h.v,hex_end hi]; simp
theorem dat_no {s:List UInt8} (h:s.length % 2≠1∨s.head?≠some 120):datV s=none:=by
 rw [datV_is]
 by_cases h0:s.head?=some 120
 ·rw [if_pos h0,hexV_digs]
  have hl:(s.drop 1).length=s.length - 1:=List.length_drop
  have h1:s.length≠0:=fun e=>by rw [List.length_eq_zero_iff.1 e] at h0; cases h0
  refine if_neg fun e=>?_
  rw [hl] at e
  rcases h with h | h
  ·omega
  ·exact h h0
 ·exact if_neg h0
theorem b16 {x y:Nat} (hx:x < 16) (hy:y < 16):IntKind.i64.wrap ((x:Int)*16)=((x*16:Nat):Int)∧IntKind.i64.wrap (((x*16:Nat):Int)+(y:Int))=((x*16+y:Nat):Int)∧IntKind.u8.wrap ((x*16+y:Nat):Int)=((x*16+y:Nat):Int) :=
 ⟨by rw [show (x:Int)*16=((x*16:Nat):Int) by omega]; exact wr64 _ (by omega) (by omega),by rw [show ((x*16:Nat):Int)+(y:Int)=((x*16+y:Nat):Int) by omega]; exact wr64 _ (by omega) (by omega),by rw [u8_wrap]; omega⟩
attribute [local irreducible] hexV dgR zsN
def byP (w:World) (y:Option (List Nat)) (e:Ending) (w':World):Prop:=∃ z:Option Addr×Nat,e=.returned (.tuple #[.slice z.1 (lD y).length z.2,.bool y.isSome])∧byteE.At w.heap.size z.1 (lD y).length z.2 (zsN (lD y)) w'∧Since w w'
theorem byP_no {w w':World} {e:Ending} {y:Option (List Nat)} (hy:y=none) (he:e=.returned (.tuple #[.slice none 0 0,.bool false])) (hs:Since w w'):byP w y e w':=by
 subst hy
 exact ⟨(none,0),he,by unfold zsN; exact Ek.nil _ _ _,hs⟩
theorem zsN_0:zsN []=[]:=by unfold zsN; rfl
theorem by_yes {w w':World} {e:Ending} {y:Option (List Nat)} {out:List Nat} {zs:List Int} {B:Option Addr} {cb:Nat} (hy:y=some out) (hz:zs=zsN out) (h:(rwO byteE w.heap.size B zs.length cb zs true).st w') (he:e=.returned (.tuple #[.slice B zs.length cb,.bool true])) (hs:Since w w'):byP w y e w':=by
 subst hy hz
 rw [zsN_len] at he h
 exact ⟨(B,cb),he,h,hs⟩
set_option maxHeartbeats 8000000 in
theorem bytesR (s:List UInt8) (hl:s.length≤1000000) (w:World):Calls Tryd.prog 33 #[.string ⟨s.toArray⟩] w (byP w (datV s)):=by
 by_cases hodd:s.length % 2=1
 ·obtain ⟨c,hc⟩:∃ c,s[0]?=some c:=⟨_,List.getElem?_eq_getElem (by omega)⟩
  have hhd:s.head?=some c:=by rw [List.head?_eq_getElem?]; exact hc
  have hm:(s.length:Int).tmod 2=1:=by
   have e:(s.length:Int).tmod 2=((s.length % 2:Nat):Int):=rfl
   rw [e,hodd]; rfl
  by_cases h120:c=120
  ·subst h120
   have hv:datV s=hexV (s.drop 1):=by rw [datV_is,if_pos hhd]
   rw [hv]
   refine entH tab_ok (Hold.addObj (Hold.nil _ tab [] _ w) (rwO byteE w.heap.size none 0 0 [] true) (Ek.nil _ _ _) (by intro _ g hg; cases hg) (by intro r hr; cases hr) (by intro A hA; cases hA)) [tx s] Tryd.func33 Tryd.ntmps33 rfl rfl ?_
   repeat' ((conv=>whnf); first | refine sgo ⟨tab_ok⟩ ?_|refine br_not ?_|refine br_t rfl ?_|refine br_f rfl ?_|refine br_t (by assumption) ?_|refine br_f (by assumption) ?_|refine br_t (decide_eq_true (by assumption)) ?_|refine br_f (decide_eq_false (by assumption)) ?_|refine br_t (beq_iff_eq.2 (by assumption)) ?_|refine br_f (beq_eq_false_iff_ne.2 (by assumption)) ?_|refine drA ⟨tab_ok⟩ [] ?_|refine kpt ?_|refine br_t (decide_eq_true (by omega)) ?_|refine br_f (decide_eq_false (by omega)) ?_|refine cd (by first | decide | omega) ?_|refine wr (show IntKind.i64.wrap ((s.length:Int).tmod 2)=1 by rw [hm]; rfl) ?_|refine opP (pvLen (xs:=s) (by rfl) (by rfl) Tryd.underlying9) ?_|refine opP (pvIdx (xs:=s) (j:=0) (by rfl) (by rfl) (by rfl) rfl hc Tryd.underlying9) ?_|refine fin_s ?_|refine fin_r ?_ ?_|refine fin_e ?_ ?_)
   conv=>whnf
   refine lp ⟨tab_ok⟩ (ι:={y:Nat×Option Addr×Nat×List Int // ∃ out,ByI s y.1 out∧y.2.2.2=zsN out}) (fun y=>match y with | ⟨(i,B,cb,zs),_⟩=>⟨[(0,tx s),(4,.v (.slice B zs.length cb)),(5,.i .i64 (i:Int))],[],[rwO byteE w.heap.size B zs.length cb zs true]⟩) (fun y=>s.length - y.1.1) ⟨(1,none,0,[]),[],ByI.z (by omega),zsN_0.symm⟩ (wk ?_) ?_
   ·repeat' (first | exact trivial | rfl | ((conv=>whnf); refine And.intro ?_ ?_))
   rintro ⟨⟨i,B,cb,zs⟩,out,hI,hzs⟩
   have hI:ByI s i out:=hI
   have hzs:zs=zsN out:=hzs
   have hin:=hI.n
   have hle:=hI.le
   have hzl:zs.length=out.length:=by rw [hzs,zsN_len]
   by_cases hlt:i < s.length
   ·obtain ⟨a,ha⟩:∃ a,s[i]?=some a:=⟨_,List.getElem?_eq_getElem hlt⟩
    obtain ⟨b,hb⟩:∃ b,s[i+1]?=some b:=⟨_,List.getElem?_eq_getElem (by omega)⟩
    obtain ⟨va,hva⟩:∃ v,dgR a=v:=⟨_,rfl⟩
    obtain ⟨vb,hvb⟩:∃ v,dgR b=v:=⟨_,rfl⟩
    have ca:∀ w,Calls Tryd.prog 43 #[.int .u8 (a.toNat:Int)] w fun e w'=>e=.returned (.int .i64 va)∧Since w w':=fun w=>by rw [← hva]; exact digitR a w
    have cb2:∀ w,Calls Tryd.prog 43 #[.int .u8 (b.toNat:Int)] w fun e w'=>e=.returned (.int .i64 vb)∧Since w w':=fun w=>by rw [← hvb]; exact digitR b w
    by_cases hbad:hx a=none∨hx b=none
    ·have hno:=hI.bad ha hb hbad
     have hneg:va = -1∨vb = -1:=hbad.imp (fun h=>by rw [← hva]; exact dg_none h) (fun h=>by rw [← hvb]; exact dg_none h)
     repeat' ((conv=>whnf); first | refine sgo ⟨tab_ok⟩ ?_|refine br_not ?_|refine br_t rfl ?_|refine br_f rfl ?_|refine br_t (by assumption) ?_|refine br_f (by assumption) ?_|refine br_t (decide_eq_true (by assumption)) ?_|refine br_f (decide_eq_false (by assumption)) ?_|refine br_t (beq_iff_eq.2 (by assumption)) ?_|refine br_f (beq_eq_false_iff_ne.2 (by assumption)) ?_|refine drA (id:=7) ⟨tab_ok⟩ [3,8] ?_|refine drA ⟨tab_ok⟩ [] ?_|refine kpt ?_|refine br_t (decide_eq_true (by omega)) ?_|refine br_f (decide_eq_false (by omega)) ?_|refine wr (show IntKind.i64.wrap ((i:Int)+1)=((i+1:Nat):Int) from wr64 _ (by omega) (by omega)) ?_|refine wr_i ?_|refine br_dec (fun hq=>?_) (fun hq=>?_)|refine opP (pvLen (xs:=s) (by rfl) (by rfl) Tryd.underlying9) ?_|refine puP (pvIdx (xs:=s) (j:=i) (by rfl) (by rfl) (by rfl) rfl ha Tryd.underlying9) ?_|refine puP (pvIdx (xs:=s) (j:=i+1) (by rfl) (by rfl) (by rfl) rfl hb Tryd.underlying9) ?_|refine callS (f:=43) (.i .i64 va) ca ?_|refine callS (f:=43) (.i .i64 vb) cb2 ?_|refine fin fun w' hH=>byP_no hno rfl hH.upd.since | refine fin_s ?_|refine fin_r ?_ ?_|refine fin_e ?_ ?_)
    ·obtain ⟨x,hxa⟩:∃ x,hx a=some x:=by cases h:hx a with | none=>exact absurd (.inl h) hbad | some x=>exact ⟨x,rfl⟩
     obtain ⟨y,hyb⟩:∃ y,hx b=some y:=by cases h:hx b with | none=>exact absurd (.inr h) hbad | some x=>exact ⟨x,rfl⟩
     have e1:va=(x:Int):=by rw [← hva]; exact dg_some hxa
     have e2:vb=(y:Int):=by rw [← hvb]; exact dg_some hyb
     subst e1 e2
     obtain ⟨q1,q2,q3⟩:=b16 (hx_lt hxa) (hx_lt hyb)
     have hmore:=hI.more ha hb hxa hyb
     repeat' ((conv=>whnf); first | refine sgo ⟨tab_ok⟩ ?_|refine br_not ?_|refine br_t rfl ?_|refine br_f rfl ?_|refine br_t (by assumption) ?_|refine br_f (by assumption) ?_|refine br_t (decide_eq_true (by assumption)) ?_|refine br_f (decide_eq_false (by assumption)) ?_|refine br_t (beq_iff_eq.2 (by assumption)) ?_|refine br_f (beq_eq_false_iff_ne.2 (by assumption)) ?_|refine drA (id:=7) ⟨tab_ok⟩ [3,8] ?_|refine drA ⟨tab_ok⟩ [] ?_|refine kpt ?_|refine br_t (decide_eq_true (by omega)) ?_|refine br_f (decide_eq_false (by omega)) ?_|refine wr q1 ?_|refine wr q2 ?_|refine wr q3 ?_|refine wr (show IntKind.i64.wrap ((i:Int)+1)=((i+1:Nat):Int) from wr64 _ (by omega) (by omega)) ?_|refine wr_i ?_|refine opP (pvLen (xs:=s) (by rfl) (by rfl) Tryd.underlying9) ?_|refine puP (pvIdx (xs:=s) (j:=i) (by rfl) (by rfl) (by rfl) rfl ha Tryd.underlying9) ?_|refine puP (pvIdx (xs:=s) (j:=i+1) (by rfl) (by rfl) (by rfl) rfl hb Tryd.underlying9) ?_|refine callS (f:=43) (.i .i64 (x:Int)) ca ?_|refine callS (f:=43) (.i .i64 (y:Int)) cb2 ?_|refine opbi (e:=5) ⟨tab_ok⟩ (.i .u8 ((x*16+y:Nat):Int)) (by rfl) (by rfl) ?_|intro gb | refine opap 0 0 (e:=5) (lo:=w.heap.size) (size:=1) (bytes:=1) (z:=.int .u8 0) (A:=rwO byteE w.heap.size B zs.length cb zs true) (vals:=rowsOf byteE.c zs) (cells:=[.int .u8 ((x*16+y:Nat):Int)]) (zs:=rowsOf byteE.c (zs++[((x*16+y:Nat):Int)])) (n2:=(zs++[((x*16+y:Nat):Int)]).length) (fun A2 c2=>rwO byteE w.heap.size A2 (zs++[((x*16+y:Nat):Int)]).length c2 (zs++[((x*16+y:Nat):Int)]) true) (by rfl) (by rfl) (by rfl) (by rfl) rfl rfl (fun w h=>h) (fun A' c' w h=>h) (fun _ _=>rfl) (by rfl) (by rfl) (by rfl) (by rfl) Tryd.underlying38 (by kernel_rfl) rfl (by decide) (by decide) (by intro u hu; simp at hu; rcases hu with rfl; rfl) (by omega) (fun w hH=>hH.upd.size) (by rw [List.length_append]; rfl) (by rw [rowsOf_append]; rfl) (fun A2 c2=>?_)|refine En.back ⟨(i+2,A2,c2,zs++[((x*16+y:Nat):Int)]),_,hmore,by show _=zsN _; rw [zsN_add,hzs]⟩ (wkd ?_) ?_|refine fin_s ?_|refine fin_r ?_ ?_|refine fin_e ?_ ?_)
     all_goals first | (show s.length - (i+2) < s.length - i; omega)|skip
     all_goals (repeat' (first | exact trivial | rfl | ((conv=>whnf); refine And.intro ?_ ?_)))
   ·have hyes:=hI.end_ (by omega)
    repeat' ((conv=>whnf); first | refine sgo ⟨tab_ok⟩ ?_|refine br_not ?_|refine br_t rfl ?_|refine br_f rfl ?_|refine br_t (by assumption) ?_|refine br_f (by assumption) ?_|refine br_t (decide_eq_true (by assumption)) ?_|refine br_f (decide_eq_false (by assumption)) ?_|refine br_t (beq_iff_eq.2 (by assumption)) ?_|refine br_f (beq_eq_false_iff_ne.2 (by assumption)) ?_|refine drA ⟨tab_ok⟩ [] ?_|refine kpt ?_|refine br_t (decide_eq_true (by omega)) ?_|refine br_f (decide_eq_false (by omega)) ?_|refine opP (pvLen (xs:=s) (by rfl) (by rfl) Tryd.underlying9) ?_|refine fin fun w' hH=>by_yes hyes hzs (Hold.ob hH (A:=rwO byteE w.heap.size B zs.length cb zs true) 0 rfl) rfl hH.upd.since | refine fin_s ?_|refine fin_r ?_ ?_|refine fin_e ?_ ?_)
  ·have hno:datV s=none:=dat_no (.inr (by rw [hhd]; intro h; injection h with h; exact h120 h))
   have hne:((c.toNat:Int) == 120)=false:=beq_eq_false_iff_ne.2 <| fun h=>h120 (UInt8.toNat_inj.1 (by show c.toNat=120; omega))
   refine ent tab_ok [tx s] Tryd.func33 Tryd.ntmps33 rfl rfl ?_
   repeat' ((conv=>whnf); first | refine sgo ⟨tab_ok⟩ ?_|refine br_not ?_|refine br_t rfl ?_|refine br_f rfl ?_|refine br_t (by assumption) ?_|refine br_f (by assumption) ?_|refine br_t (decide_eq_true (by assumption)) ?_|refine br_f (decide_eq_false (by assumption)) ?_|refine br_t (beq_iff_eq.2 (by assumption)) ?_|refine br_f (beq_eq_false_iff_ne.2 (by assumption)) ?_|refine drA ⟨tab_ok⟩ [] ?_|refine kpt ?_|refine br_t (decide_eq_true (by omega)) ?_|refine br_f (decide_eq_false (by omega)) ?_|refine cd (by first | decide | omega) ?_|refine br_f hne ?_|refine wr (show IntKind.i64.wrap ((s.length:Int).tmod 2)=1 by rw [hm]; rfl) ?_|refine opP (pvLen (xs:=s) (by rfl) (by rfl) Tryd.underlying9) ?_|refine opP (pvIdx (xs:=s) (j:=0) (by rfl) (by rfl) (by rfl) rfl hc Tryd.underlying9) ?_|refine fin fun w' hH=>byP_no hno rfl hH.upd.since | refine fin_s ?_|refine fin_r ?_ ?_|refine fin_e ?_ ?_)
 ·have hno:datV s=none:=dat_no (.inl hodd)
  have hm:(s.length:Int).tmod 2=0:=by
   have e:(s.length:Int).tmod 2=((s.length % 2:Nat):Int):=rfl
   rw [e,show s.length % 2=0 by omega]; rfl
  have hm1:(s.length:Int).tmod 2≠1:=by rw [hm]; decide
  refine ent tab_ok [tx s] Tryd.func33 Tryd.ntmps33 rfl rfl ?_
  repeat' ((conv=>whnf); first | refine sgo ⟨tab_ok⟩ ?_|refine br_not ?_|refine br_t rfl ?_|refine br_f rfl ?_|refine br_t (by assumption) ?_|refine br_f (by assumption) ?_|refine br_t (decide_eq_true (by assumption)) ?_|refine br_f (decide_eq_false (by assumption)) ?_|refine br_t (beq_iff_eq.2 (by assumption)) ?_|refine br_f (beq_eq_false_iff_ne.2 (by assumption)) ?_|refine drA ⟨tab_ok⟩ [] ?_|refine kpt ?_|refine br_t (decide_eq_true (by omega)) ?_|refine br_f (decide_eq_false (by omega)) ?_|refine cd (by first | decide | omega) ?_|refine wr (show IntKind.i64.wrap ((s.length:Int).tmod 2)=0 by rw [hm]; rfl) ?_|refine opP (pvLen (xs:=s) (by rfl) (by rfl) Tryd.underlying9) ?_|refine fin fun w' hH=>byP_no hno rfl hH.upd.since | refine fin_s ?_|refine fin_r ?_ ?_|refine fin_e ?_ ?_)
end Sw
end Go.Proofs.YtjghelofdfolbaaDoor
namespace Go.Proofs
open Go.Shelf
def Tryd.lays166_ren:Go.Shelf.Ren:=⟨fun | 166=>21 | 240=>34 | 276=>44 | n=>n,fun | 70=>44 | 9=>9 | 3=>3 | 75=>48 | 0=>0 | 72=>46 | 37=>38 | 4=>4 | 164=>83 | 80=>52 | 5=>5 | n=>n,fun | n=>n⟩
theorem Tryd.lays166:Go.Proofs.Lays.n166 Tryd.prog Tryd.lays166_ren:={
 mixed:=by kernel_rfl
 f166:=Tryd.func21.trans (congrArg some (by kernel_rfl))
 f240:=Tryd.func34.trans (congrArg some (by kernel_rfl))
 f276:=Tryd.func44.trans (congrArg some (by kernel_rfl))
 t0:=Tryd.underlying0
 a0:=Tryd.isAgg0
 z0:=Tryd.sizeOf0
 v0:=Tryd.zeroValue0
 t3:=Tryd.underlying3
 a3:=Tryd.isAgg3
 z3:=Tryd.sizeOf3
 v3:=Tryd.zeroValue3
 t4:=Tryd.underlying4
 a4:=Tryd.isAgg4
 z4:=Tryd.sizeOf4
 v4:=Tryd.zeroValue4
 t9:=Tryd.underlying9
 a9:=Tryd.isAgg9
 z9:=Tryd.sizeOf9
 v9:=Tryd.zeroValue9
 t20:=Tryd.underlying20
 a20:=Tryd.isAgg20
 z20:=Tryd.sizeOf20
 v20:=Tryd.zeroValue20
 t37:=Tryd.underlying38
 a37:=Tryd.isAgg38
 z37:=Tryd.sizeOf38
 v37:=Tryd.zeroValue38
 t70:=Tryd.underlying44
 a70:=Tryd.isAgg44
 z70:=Tryd.sizeOf44
 v70:=Tryd.zeroValue44
 t72:=Tryd.underlying46
 a72:=Tryd.isAgg46
 z72:=Tryd.sizeOf46
 v72:=Tryd.zeroValue46
 t75:=Tryd.underlying48
 a75:=Tryd.isAgg48
 z75:=Tryd.sizeOf48
 v75:=Tryd.zeroValue48
 t164:=Tryd.underlying83
 a164:=Tryd.isAgg83
 z164:=Tryd.sizeOf83
 v164:=Tryd.zeroValue83 }
theorem Tryd.Builder_Extra_166:Builder.Extra Tryd.prog Tryd.lays166_ren:={
 sizeBuilder:=by kernel_rfl
 liesBuilder:=by kernel_rfl
 t5:=Tryd.underlying5
 a5:=Tryd.isAgg5
 z5:=Tryd.sizeOf5
 v5:=Tryd.zeroValue5
 infoByte:=by kernel_rfl
 cellsByte:=by kernel_rfl
 sizeByte:=by kernel_rfl
 neB5:=by decide }
def Tryd.lays167_ren:Go.Shelf.Ren:=⟨fun | 167=>32 | 240=>34 | 276=>44 | n=>n,fun | 70=>44 | 5=>5 | 75=>48 | 0=>0 | 72=>46 | 37=>38 | 4=>4 | 164=>83 | 80=>52 | 9=>9 | n=>n,fun | n=>n⟩
theorem Tryd.lays167:Go.Proofs.Lays.n167 Tryd.prog Tryd.lays167_ren:={
 mixed:=by kernel_rfl
 f167:=Tryd.func32.trans (congrArg some (by kernel_rfl))
 f240:=Tryd.func34.trans (congrArg some (by kernel_rfl))
 f276:=Tryd.func44.trans (congrArg some (by kernel_rfl))
 t0:=Tryd.underlying0
 a0:=Tryd.isAgg0
 z0:=Tryd.sizeOf0
 v0:=Tryd.zeroValue0
 t4:=Tryd.underlying4
 a4:=Tryd.isAgg4
 z4:=Tryd.sizeOf4
 v4:=Tryd.zeroValue4
 t5:=Tryd.underlying5
 a5:=Tryd.isAgg5
 z5:=Tryd.sizeOf5
 v5:=Tryd.zeroValue5
 t9:=Tryd.underlying9
 a9:=Tryd.isAgg9
 z9:=Tryd.sizeOf9
 v9:=Tryd.zeroValue9
 t20:=Tryd.underlying20
 a20:=Tryd.isAgg20
 z20:=Tryd.sizeOf20
 v20:=Tryd.zeroValue20
 t37:=Tryd.underlying38
 a37:=Tryd.isAgg38
 z37:=Tryd.sizeOf38
 v37:=Tryd.zeroValue38
 t70:=Tryd.underlying44
 a70:=Tryd.isAgg44
 z70:=Tryd.sizeOf44
 v70:=Tryd.zeroValue44
 t72:=Tryd.underlying46
 a72:=Tryd.isAgg46
 z72:=Tryd.sizeOf46
 v72:=Tryd.zeroValue46
 t75:=Tryd.underlying48
 a75:=Tryd.isAgg48
 z75:=Tryd.sizeOf48
 v75:=Tryd.zeroValue48
 t164:=Tryd.underlying83
 a164:=Tryd.isAgg83
 z164:=Tryd.sizeOf83
 v164:=Tryd.zeroValue83 }
theorem Tryd.Builder_Extra_167:Builder.Extra Tryd.prog Tryd.lays167_ren:={
 sizeBuilder:=by kernel_rfl
 liesBuilder:=by kernel_rfl
 t5:=Tryd.underlying5
 a5:=Tryd.isAgg5
 z5:=Tryd.sizeOf5
 v5:=Tryd.zeroValue5
 infoByte:=by kernel_rfl
 cellsByte:=by kernel_rfl
 sizeByte:=by kernel_rfl
 neB5:=by decide }
def Tryd.lays169_ren:Go.Shelf.Ren:=⟨fun | 169=>23 | n=>n,fun | 70=>44 | 9=>9 | 0=>0 | 72=>46 | 37=>38 | 127=>76 | 3=>3 | 5=>5 | n=>n,fun | n=>n⟩
theorem Tryd.lays169:Go.Proofs.Lays.n169 Tryd.prog Tryd.lays169_ren:={
 mixed:=by kernel_rfl
 f169:=Tryd.func23.trans (congrArg some (by kernel_rfl))
 t0:=Tryd.underlying0
 a0:=Tryd.isAgg0
 z0:=Tryd.sizeOf0
 v0:=Tryd.zeroValue0
 t3:=Tryd.underlying3
 a3:=Tryd.isAgg3
 z3:=Tryd.sizeOf3
 v3:=Tryd.zeroValue3
 t9:=Tryd.underlying9
 a9:=Tryd.isAgg9
 z9:=Tryd.sizeOf9
 v9:=Tryd.zeroValue9
 t37:=Tryd.underlying38
 a37:=Tryd.isAgg38
 z37:=Tryd.sizeOf38
 v37:=Tryd.zeroValue38
 t70:=Tryd.underlying44
 a70:=Tryd.isAgg44
 z70:=Tryd.sizeOf44
 v70:=Tryd.zeroValue44
 t72:=Tryd.underlying46
 a72:=Tryd.isAgg46
 z72:=Tryd.sizeOf46
 v72:=Tryd.zeroValue46
 t127:=Tryd.underlying76
 a127:=Tryd.isAgg76
 z127:=Tryd.sizeOf76
 v127:=Tryd.zeroValue76 }
theorem Tryd.Builder_Extra_169:Builder.Extra Tryd.prog Tryd.lays169_ren:={
 sizeBuilder:=by kernel_rfl
 liesBuilder:=by kernel_rfl
 t5:=Tryd.underlying5
 a5:=Tryd.isAgg5
 z5:=Tryd.sizeOf5
 v5:=Tryd.zeroValue5
 infoByte:=by kernel_rfl
 cellsByte:=by kernel_rfl
 sizeByte:=by kernel_rfl
 neB5:=by decide }
def Tryd.lays156_ren:Go.Shelf.Ren:=⟨fun | 156=>36 | 165=>46 | 166=>21 | 169=>23 | 240=>34 | 241=>54 | 276=>44 | 277=>67 | n=>n,fun | 31=>63 | 9=>9 | 3=>3 | 4=>4 | 0=>0 | 20=>20 | 72=>46 | 76=>49 | 70=>44 | 37=>38 | 75=>48 | 127=>76 | 164=>83 | 5=>5 | 80=>52 | n=>n,fun | n=>n⟩
theorem Tryd.lays156:Go.Proofs.Lays.n156 Tryd.prog Tryd.lays156_ren:={
 mixed:=by kernel_rfl
 f156:=Tryd.func36.trans (congrArg some (by kernel_rfl))
 f165:=Tryd.func46.trans (congrArg some (by kernel_rfl))
 f166:=Tryd.func21.trans (congrArg some (by kernel_rfl))
 f169:=Tryd.func23.trans (congrArg some (by kernel_rfl))
 f240:=Tryd.func34.trans (congrArg some (by kernel_rfl))
 f241:=Tryd.func54.trans (congrArg some (by kernel_rfl))
 f276:=Tryd.func44.trans (congrArg some (by kernel_rfl))
 f277:=Tryd.func67.trans (congrArg some (by kernel_rfl))
 t0:=Tryd.underlying0
 a0:=Tryd.isAgg0
 z0:=Tryd.sizeOf0
 v0:=Tryd.zeroValue0
 t3:=Tryd.underlying3
 a3:=Tryd.isAgg3
 z3:=Tryd.sizeOf3
 v3:=Tryd.zeroValue3
 t4:=Tryd.underlying4
 a4:=Tryd.isAgg4
 z4:=Tryd.sizeOf4
 v4:=Tryd.zeroValue4
 t9:=Tryd.underlying9
 a9:=Tryd.isAgg9
 z9:=Tryd.sizeOf9
 v9:=Tryd.zeroValue9
 t20:=Tryd.underlying20
 a20:=Tryd.isAgg20
 z20:=Tryd.sizeOf20
 v20:=Tryd.zeroValue20
 t31:=Tryd.underlying63
 a31:=Tryd.isAgg63
 z31:=Tryd.sizeOf63
 v31:=Tryd.zeroValue63
 t37:=Tryd.underlying38
 a37:=Tryd.isAgg38
 z37:=Tryd.sizeOf38
 v37:=Tryd.zeroValue38
 t70:=Tryd.underlying44
 a70:=Tryd.isAgg44
 z70:=Tryd.sizeOf44
 v70:=Tryd.zeroValue44
 t72:=Tryd.underlying46
 a72:=Tryd.isAgg46
 z72:=Tryd.sizeOf46
 v72:=Tryd.zeroValue46
 t75:=Tryd.underlying48
 a75:=Tryd.isAgg48
 z75:=Tryd.sizeOf48
 v75:=Tryd.zeroValue48
 t76:=Tryd.underlying49
 a76:=Tryd.isAgg49
 z76:=Tryd.sizeOf49
 v76:=Tryd.zeroValue49
 t127:=Tryd.underlying76
 a127:=Tryd.isAgg76
 z127:=Tryd.sizeOf76
 v127:=Tryd.zeroValue76
 t164:=Tryd.underlying83
 a164:=Tryd.isAgg83
 z164:=Tryd.sizeOf83
 v164:=Tryd.zeroValue83 }
theorem Tryd.Builder_Extra_156:Builder.Extra Tryd.prog Tryd.lays156_ren:={
 sizeBuilder:=by kernel_rfl
 liesBuilder:=by kernel_rfl
 t5:=Tryd.underlying5
 a5:=Tryd.isAgg5
 z5:=Tryd.sizeOf5
 v5:=Tryd.zeroValue5
 infoByte:=by kernel_rfl
 cellsByte:=by kernel_rfl
 sizeByte:=by kernel_rfl
 neB5:=by decide }
def Tryd.lays137_ren:Go.Shelf.Ren:=⟨fun | 137=>38 | 217=>47 | 266=>55 | n=>n,fun | 9=>9 | 5=>5 | 3=>3 | n=>n,fun | n=>n⟩
theorem Tryd.lays137:Go.Proofs.Lays.n137 Tryd.prog Tryd.lays137_ren:={
 mixed:=by kernel_rfl
 f137:=Tryd.func38.trans (congrArg some (by kernel_rfl))
 f217:=Tryd.func47.trans (congrArg some (by kernel_rfl))
 f266:=Tryd.func55.trans (congrArg some (by kernel_rfl))
 t3:=Tryd.underlying3
 a3:=Tryd.isAgg3
 z3:=Tryd.sizeOf3
 v3:=Tryd.zeroValue3
 t5:=Tryd.underlying5
 a5:=Tryd.isAgg5
 z5:=Tryd.sizeOf5
 v5:=Tryd.zeroValue5
 t9:=Tryd.underlying9
 a9:=Tryd.isAgg9
 z9:=Tryd.sizeOf9
 v9:=Tryd.zeroValue9 }
def Tryd.lays104_ren:Go.Shelf.Ren:=⟨fun | 104=>39 | 211=>48 | 207=>56 | n=>n,fun | 9=>9 | 4=>4 | 24=>78 | 3=>3 | n=>n,fun | n=>n⟩
theorem Tryd.lays104:Go.Proofs.Lays.n104 Tryd.prog Tryd.lays104_ren:={
 mixed:=by kernel_rfl
 f104:=Tryd.func39.trans (congrArg some (by kernel_rfl))
 f207:=Tryd.func56.trans (congrArg some (by kernel_rfl))
 f211:=Tryd.func48.trans (congrArg some (by kernel_rfl))
 t3:=Tryd.underlying3
 a3:=Tryd.isAgg3
 z3:=Tryd.sizeOf3
 v3:=Tryd.zeroValue3
 t4:=Tryd.underlying4
 a4:=Tryd.isAgg4
 z4:=Tryd.sizeOf4
 v4:=Tryd.zeroValue4
 t9:=Tryd.underlying9
 a9:=Tryd.isAgg9
 z9:=Tryd.sizeOf9
 v9:=Tryd.zeroValue9
 t24:=Tryd.underlying78
 a24:=Tryd.isAgg78
 z24:=Tryd.sizeOf78
 v24:=Tryd.zeroValue78 }
def Tryd.lays103_ren:Go.Shelf.Ren:=⟨fun | 103=>51 | 210=>62 | 206=>77 | n=>n,fun | 9=>9 | 4=>4 | 24=>78 | 3=>3 | n=>n,fun | n=>n⟩
theorem Tryd.lays103:Go.Proofs.Lays.n103 Tryd.prog Tryd.lays103_ren:={
 mixed:=by kernel_rfl
 f103:=Tryd.func51.trans (congrArg some (by kernel_rfl))
 f206:=Tryd.func77.trans (congrArg some (by kernel_rfl))
 f210:=Tryd.func62.trans (congrArg some (by kernel_rfl))
 t3:=Tryd.underlying3
 a3:=Tryd.isAgg3
 z3:=Tryd.sizeOf3
 v3:=Tryd.zeroValue3
 t4:=Tryd.underlying4
 a4:=Tryd.isAgg4
 z4:=Tryd.sizeOf4
 v4:=Tryd.zeroValue4
 t9:=Tryd.underlying9
 a9:=Tryd.isAgg9
 z9:=Tryd.sizeOf9
 v9:=Tryd.zeroValue9
 t24:=Tryd.underlying78
 a24:=Tryd.isAgg78
 z24:=Tryd.sizeOf78
 v24:=Tryd.zeroValue78 }
def Tryd.laysM146_ren:Go.Shelf.Ren:=⟨fun | 146=>40 | 221=>49 | 268=>57 | 138=>58 | 143=>59 | 195=>68 | 197=>69 | 218=>70 | 219=>71 | 260=>83 | 217=>47 | 225=>84 | 224=>85 | 267=>86 | 266=>55 | 314=>92 | n=>n,fun | 9=>9 | 31=>63 | 3=>3 | 4=>4 | 0=>0 | 105=>101 | 21=>21 | 5=>5 | 46=>71 | 119=>123 | 139=>126 | 138=>125 | 146=>127 | 51=>112 | n=>n,fun | 1=>0 | 3=>4 | 4=>5 | n=>n⟩
theorem Tryd.laysM146:Go.Proofs.LaysM.n146 Tryd.prog Tryd.laysM146_ren:={
 mixed:=by kernel_rfl
 f138:=Tryd.func58.trans (congrArg some (by kernel_rfl))
 f143:=Tryd.func59.trans (congrArg some (by kernel_rfl))
 f146:=Tryd.func40.trans (congrArg some (by kernel_rfl))
 f195:=Tryd.func68.trans (congrArg some (by kernel_rfl))
 f197:=Tryd.func69.trans (congrArg some (by kernel_rfl))
 f217:=Tryd.func47.trans (congrArg some (by kernel_rfl))
 f218:=Tryd.func70.trans (congrArg some (by kernel_rfl))
 f219:=Tryd.func71.trans (congrArg some (by kernel_rfl))
 f221:=Tryd.func49.trans (congrArg some (by kernel_rfl))
 f224:=Tryd.func85.trans (congrArg some (by kernel_rfl))
 f225:=Tryd.func84.trans (congrArg some (by kernel_rfl))
 f260:=Tryd.func83.trans (congrArg some (by kernel_rfl))
 f266:=Tryd.func55.trans (congrArg some (by kernel_rfl))
 f267:=Tryd.func86.trans (congrArg some (by kernel_rfl))
 f268:=Tryd.func57.trans (congrArg some (by kernel_rfl))
 f314:=Tryd.func92.trans (congrArg some (by kernel_rfl))
 t0:=Tryd.underlying0
 a0:=Tryd.isAgg0
 z0:=Tryd.sizeOf0
 v0:=Tryd.zeroValue0
 t3:=Tryd.underlying3
 a3:=Tryd.isAgg3
 z3:=Tryd.sizeOf3
 v3:=Tryd.zeroValue3
 t4:=Tryd.underlying4
 a4:=Tryd.isAgg4
 z4:=Tryd.sizeOf4
 v4:=Tryd.zeroValue4
 t5:=Tryd.underlying5
 a5:=Tryd.isAgg5
 z5:=Tryd.sizeOf5
 v5:=Tryd.zeroValue5
 t9:=Tryd.underlying9
 a9:=Tryd.isAgg9
 z9:=Tryd.sizeOf9
 v9:=Tryd.zeroValue9
 t21:=Tryd.underlying21
 a21:=Tryd.isAgg21
 z21:=Tryd.sizeOf21
 v21:=Tryd.zeroValue21
 t31:=Tryd.underlying63
 a31:=Tryd.isAgg63
 z31:=Tryd.sizeOf63
 v31:=Tryd.zeroValue63
 t46:=Tryd.underlying71
 a46:=Tryd.isAgg71
 z46:=Tryd.sizeOf71
 v46:=Tryd.zeroValue71
 t51:=Tryd.underlying112
 a51:=Tryd.isAgg112
 z51:=Tryd.sizeOf112
 v51:=Tryd.zeroValue112
 t105:=Tryd.underlying101
 a105:=Tryd.isAgg101
 z105:=Tryd.sizeOf101
 v105:=Tryd.zeroValue101
 t119:=Tryd.underlying123
 a119:=Tryd.isAgg123
 z119:=Tryd.sizeOf123
 t138:=Tryd.underlying125
 a138:=Tryd.isAgg125
 z138:=Tryd.sizeOf125
 v138:=Tryd.zeroValue125
 t139:=Tryd.underlying126
 a139:=Tryd.isAgg126
 z139:=Tryd.sizeOf126
 v139:=Tryd.zeroValue126
 t146:=Tryd.underlying127
 a146:=Tryd.isAgg127
 z146:=Tryd.sizeOf127
 v146:=Tryd.zeroValue127
 g1:=by kernel_rfl
 g3:=by kernel_rfl
 g4:=by kernel_rfl
 i0:=by kernel_rfl
 i3:=by kernel_rfl
 i4:=by kernel_rfl
 i5:=by kernel_rfl
 i9:=by kernel_rfl
 i21:=by kernel_rfl
 i31:=by kernel_rfl
 i46:=by kernel_rfl
 i51:=by kernel_rfl
 i105:=by kernel_rfl
 i138:=by kernel_rfl
 i139:=by kernel_rfl
 i146:=by kernel_rfl
 m1:=by kernel_rfl
 s1_3:=fun w h=>Go.Proofs.cell_of_shapedOpen_int (zero:=#[.int .i64 0]) (t:=3) h (of_decide_eq_true (by kernel_rfl)) (by kernel_rfl) rfl (by kernel_rfl) (by kernel_rfl) Tryd.underlying3
 m3:=by kernel_rfl
 m4:=by kernel_rfl }
def Tryd.laysM171_ren:Go.Shelf.Ren:=⟨fun | 171=>35 | 243=>45 | 246=>53 | 283=>63 | 284=>64 | 285=>65 | 286=>66 | 129=>79 | 317=>78 | 318=>80 | 319=>81 | 320=>82 | 337=>90 | 338=>91 | n=>n,fun | 3=>3 | 9=>9 | 2=>2 | 4=>4 | 171=>94 | 0=>0 | 53=>81 | 37=>38 | 5=>5 | 173=>97 | 212=>111 | 51=>112 | 20=>20 | 213=>113 | 46=>71 | 232=>133 | 233=>134 | n=>n,fun | 17=>1 | 18=>6 | 19=>7 | n=>n⟩
theorem Tryd.laysM171:Go.Proofs.LaysM.n171 Tryd.prog Tryd.laysM171_ren:={
 mixed:=by kernel_rfl
 f129:=Tryd.func79.trans (congrArg some (by kernel_rfl))
 f171:=Tryd.func35.trans (congrArg some (by kernel_rfl))
 f243:=Tryd.func45.trans (congrArg some (by kernel_rfl))
 f246:=Tryd.func53.trans (congrArg some (by kernel_rfl))
 f283:=Tryd.func63.trans (congrArg some (by kernel_rfl))
 f284:=Tryd.func64.trans (congrArg some (by kernel_rfl))
 f285:=Tryd.func65.trans (congrArg some (by kernel_rfl))
 f286:=Tryd.func66.trans (congrArg some (by kernel_rfl))
 f317:=Tryd.func78.trans (congrArg some (by kernel_rfl))
 f318:=Tryd.func80.trans (congrArg some (by kernel_rfl))
 f319:=Tryd.func81.trans (congrArg some (by kernel_rfl))
 f320:=Tryd.func82.trans (congrArg some (by kernel_rfl))
 f337:=Tryd.func90.trans (congrArg some (by kernel_rfl))
 f338:=Tryd.func91.trans (congrArg some (by kernel_rfl))
 t0:=Tryd.underlying0
 a0:=Tryd.isAgg0
 z0:=Tryd.sizeOf0
 v0:=Tryd.zeroValue0
 t2:=Tryd.underlying2
 a2:=Tryd.isAgg2
 z2:=Tryd.sizeOf2
 v2:=Tryd.zeroValue2
 t3:=Tryd.underlying3
 a3:=Tryd.isAgg3
 z3:=Tryd.sizeOf3
 v3:=Tryd.zeroValue3
 t4:=Tryd.underlying4
 a4:=Tryd.isAgg4
 z4:=Tryd.sizeOf4
 v4:=Tryd.zeroValue4
 t5:=Tryd.underlying5
 a5:=Tryd.isAgg5
 z5:=Tryd.sizeOf5
 v5:=Tryd.zeroValue5
 t9:=Tryd.underlying9
 a9:=Tryd.isAgg9
 z9:=Tryd.sizeOf9
 v9:=Tryd.zeroValue9
 t20:=Tryd.underlying20
 a20:=Tryd.isAgg20
 z20:=Tryd.sizeOf20
 v20:=Tryd.zeroValue20
 t37:=Tryd.underlying38
 a37:=Tryd.isAgg38
 z37:=Tryd.sizeOf38
 v37:=Tryd.zeroValue38
 t46:=Tryd.underlying71
 a46:=Tryd.isAgg71
 z46:=Tryd.sizeOf71
 v46:=Tryd.zeroValue71
 t51:=Tryd.underlying112
 a51:=Tryd.isAgg112
 z51:=Tryd.sizeOf112
 v51:=Tryd.zeroValue112
 t53:=Tryd.underlying81
 a53:=Tryd.isAgg81
 z53:=Tryd.sizeOf81
 v53:=Tryd.zeroValue81
 t171:=Tryd.underlying94
 a171:=Tryd.isAgg94
 z171:=Tryd.sizeOf94
 v171:=Tryd.zeroValue94
 t173:=Tryd.underlying97
 a173:=Tryd.isAgg97
 z173:=Tryd.sizeOf97
 v173:=Tryd.zeroValue97
 t212:=Tryd.underlying111
 a212:=Tryd.isAgg111
 z212:=Tryd.sizeOf111
 v212:=Tryd.zeroValue111
 t213:=Tryd.underlying113
 a213:=Tryd.isAgg113
 z213:=Tryd.sizeOf113
 t232:=Tryd.underlying133
 a232:=Tryd.isAgg133
 z232:=Tryd.sizeOf133
 v232:=Tryd.zeroValue133
 t233:=Tryd.underlying134
 a233:=Tryd.isAgg134
 z233:=Tryd.sizeOf134
 v233:=Tryd.zeroValue134
 g17:=by kernel_rfl
 g18:=by kernel_rfl
 g19:=by kernel_rfl
 i0:=by kernel_rfl
 i2:=by kernel_rfl
 i3:=by kernel_rfl
 i4:=by kernel_rfl
 i5:=by kernel_rfl
 i9:=by kernel_rfl
 i20:=by kernel_rfl
 i37:=by kernel_rfl
 i46:=by kernel_rfl
 i51:=by kernel_rfl
 i53:=by kernel_rfl
 i171:=by kernel_rfl
 i173:=by kernel_rfl
 i212:=by kernel_rfl
 i232:=by kernel_rfl
 i233:=by kernel_rfl
 m17:=by kernel_rfl
 m18:=by kernel_rfl
 m19:=by kernel_rfl }
def Tryd.laysC172_ren:Go.Shelf.Ren:=⟨fun | 172=>50 | 244=>60 | 245=>61 | 247=>72 | 279=>73 | 280=>74 | 281=>75 | 282=>76 | 287=>87 | 316=>88 | 171=>35 | 205=>89 | 321=>93 | 322=>94 | 243=>45 | 246=>53 | 283=>63 | 284=>64 | 285=>65 | 286=>66 | 129=>79 | 317=>78 | 318=>80 | 319=>81 | 320=>82 | 337=>90 | 338=>91 | n=>n,fun | 9=>9 | 3=>3 | 75=>48 | 76=>49 | 4=>4 | 5=>5 | 167=>103 | 37=>38 | 0=>0 | 85=>104 | 2=>2 | 168=>106 | 53=>81 | 175=>116 | 46=>71 | 210=>120 | 127=>76 | 145=>132 | 143=>130 | 21=>21 | 171=>94 | 173=>97 | 212=>111 | 51=>112 | 20=>20 | 213=>113 | 232=>133 | 233=>134 | 80=>52 | n=>n,fun | 15=>2 | 16=>3 | 17=>1 | 18=>6 | 19=>7 | n=>n⟩
theorem Tryd.laysC172:Go.Proofs.LaysC.n172 Tryd.prog Tryd.laysC172_ren:={
 mixed:=by kernel_rfl
 f129:=Tryd.func79.trans (congrArg some (by kernel_rfl))
 f171:=Tryd.func35.trans (congrArg some (by kernel_rfl))
 f172:=Tryd.func50.trans (congrArg some (by kernel_rfl))
 f205:=Tryd.func89.trans (congrArg some (by kernel_rfl))
 f243:=Tryd.func45.trans (congrArg some (by kernel_rfl))
 f244:=Tryd.func60.trans (congrArg some (by kernel_rfl))
 f245:=Tryd.func61.trans (congrArg some (by kernel_rfl))
 f246:=Tryd.func53.trans (congrArg some (by kernel_rfl))
 f247:=Tryd.func72.trans (congrArg some (by kernel_rfl))
 f279:=Tryd.func73.trans (congrArg some (by kernel_rfl))
 f280:=Tryd.func74.trans (congrArg some (by kernel_rfl))
 f281:=Tryd.func75.trans (congrArg some (by kernel_rfl))
 f282:=Tryd.func76.trans (congrArg some (by kernel_rfl))
 f283:=Tryd.func63.trans (congrArg some (by kernel_rfl))
 f284:=Tryd.func64.trans (congrArg some (by kernel_rfl))
 f285:=Tryd.func65.trans (congrArg some (by kernel_rfl))
 f286:=Tryd.func66.trans (congrArg some (by kernel_rfl))
 f287:=Tryd.func87.trans (congrArg some (by kernel_rfl))
 f316:=Tryd.func88.trans (congrArg some (by kernel_rfl))
 f317:=Tryd.func78.trans (congrArg some (by kernel_rfl))
 f318:=Tryd.func80.trans (congrArg some (by kernel_rfl))
 f319:=Tryd.func81.trans (congrArg some (by kernel_rfl))
 f320:=Tryd.func82.trans (congrArg some (by kernel_rfl))
 f321:=Tryd.func93.trans (congrArg some (by kernel_rfl))
 f322:=Tryd.func94.trans (congrArg some (by kernel_rfl))
 f337:=Tryd.func90.trans (congrArg some (by kernel_rfl))
 f338:=Tryd.func91.trans (congrArg some (by kernel_rfl))
 t0:=Tryd.underlying0
 a0:=Tryd.isAgg0
 z0:=Tryd.sizeOf0
 v0:=Tryd.zeroValue0
 t2:=Tryd.underlying2
 a2:=Tryd.isAgg2
 z2:=Tryd.sizeOf2
 v2:=Tryd.zeroValue2
 t3:=Tryd.underlying3
 a3:=Tryd.isAgg3
 z3:=Tryd.sizeOf3
 v3:=Tryd.zeroValue3
 t4:=Tryd.underlying4
 a4:=Tryd.isAgg4
 z4:=Tryd.sizeOf4
 v4:=Tryd.zeroValue4
 t5:=Tryd.underlying5
 a5:=Tryd.isAgg5
 z5:=Tryd.sizeOf5
 v5:=Tryd.zeroValue5
 t9:=Tryd.underlying9
 a9:=Tryd.isAgg9
 z9:=Tryd.sizeOf9
 v9:=Tryd.zeroValue9
 t20:=Tryd.underlying20
 a20:=Tryd.isAgg20
 z20:=Tryd.sizeOf20
 v20:=Tryd.zeroValue20
 t21:=Tryd.underlying21
 a21:=Tryd.isAgg21
 z21:=Tryd.sizeOf21
 v21:=Tryd.zeroValue21
 t37:=Tryd.underlying38
 a37:=Tryd.isAgg38
 z37:=Tryd.sizeOf38
 v37:=Tryd.zeroValue38
 t46:=Tryd.underlying71
 a46:=Tryd.isAgg71
 z46:=Tryd.sizeOf71
 v46:=Tryd.zeroValue71
 t51:=Tryd.underlying112
 a51:=Tryd.isAgg112
 z51:=Tryd.sizeOf112
 v51:=Tryd.zeroValue112
 t53:=Tryd.underlying81
 a53:=Tryd.isAgg81
 z53:=Tryd.sizeOf81
 v53:=Tryd.zeroValue81
 t75:=Tryd.underlying48
 a75:=Tryd.isAgg48
 z75:=Tryd.sizeOf48
 v75:=Tryd.zeroValue48
 t76:=Tryd.underlying49
 a76:=Tryd.isAgg49
 z76:=Tryd.sizeOf49
 v76:=Tryd.zeroValue49
 t85:=Tryd.underlying104
 a85:=Tryd.isAgg104
 z85:=Tryd.sizeOf104
 v85:=Tryd.zeroValue104
 t127:=Tryd.underlying76
 a127:=Tryd.isAgg76
 z127:=Tryd.sizeOf76
 v127:=Tryd.zeroValue76
 t143:=Tryd.underlying130
 a143:=Tryd.isAgg130
 z143:=Tryd.sizeOf130
 v143:=Tryd.zeroValue130
 t145:=Tryd.underlying132
 a145:=Tryd.isAgg132
 z145:=Tryd.sizeOf132
 v145:=Tryd.zeroValue132
 t167:=Tryd.underlying103
 a167:=Tryd.isAgg103
 z167:=Tryd.sizeOf103
 v167:=Tryd.zeroValue103
 t168:=Tryd.underlying106
 a168:=Tryd.isAgg106
 z168:=Tryd.sizeOf106
 v168:=Tryd.zeroValue106
 t171:=Tryd.underlying94
 a171:=Tryd.isAgg94
 z171:=Tryd.sizeOf94
 v171:=Tryd.zeroValue94
 t173:=Tryd.underlying97
 a173:=Tryd.isAgg97
 z173:=Tryd.sizeOf97
 v173:=Tryd.zeroValue97
 t175:=Tryd.underlying116
 a175:=Tryd.isAgg116
 z175:=Tryd.sizeOf116
 v175:=Tryd.zeroValue116
 t210:=Tryd.underlying120
 a210:=Tryd.isAgg120
 z210:=Tryd.sizeOf120
 v210:=Tryd.zeroValue120
 t212:=Tryd.underlying111
 a212:=Tryd.isAgg111
 z212:=Tryd.sizeOf111
 v212:=Tryd.zeroValue111
 t213:=Tryd.underlying113
 a213:=Tryd.isAgg113
 z213:=Tryd.sizeOf113
 t232:=Tryd.underlying133
 a232:=Tryd.isAgg133
 z232:=Tryd.sizeOf133
 v232:=Tryd.zeroValue133
 t233:=Tryd.underlying134
 a233:=Tryd.isAgg134
 z233:=Tryd.sizeOf134
 v233:=Tryd.zeroValue134
 g15:=by kernel_rfl
 g16:=by kernel_rfl
 g17:=by kernel_rfl
 g18:=by kernel_rfl
 g19:=by kernel_rfl
 t80:=Tryd.underlying52
 a80:=Tryd.isAgg52
 z80:=Tryd.sizeOf52
 v80:=Tryd.zeroValue52
 i0:=by kernel_rfl
 i2:=by kernel_rfl
 i3:=by kernel_rfl
 i4:=by kernel_rfl
 i5:=by kernel_rfl
 i9:=by kernel_rfl
 i20:=by kernel_rfl
 i21:=by kernel_rfl
 i37:=by kernel_rfl
 i46:=by kernel_rfl
 i51:=by kernel_rfl
 i53:=by kernel_rfl
 i75:=by kernel_rfl
 i76:=by kernel_rfl
 i80:=by kernel_rfl
 i85:=by kernel_rfl
 i127:=by kernel_rfl
 i143:=by kernel_rfl
 i145:=by kernel_rfl
 i167:=by kernel_rfl
 i168:=by kernel_rfl
 i171:=by kernel_rfl
 i173:=by kernel_rfl
 i175:=by kernel_rfl
 i210:=by kernel_rfl
 i212:=by kernel_rfl
 i232:=by kernel_rfl
 i233:=by kernel_rfl
 m15:=by kernel_rfl
 m16:=by kernel_rfl
 m17:=by kernel_rfl
 m18:=by kernel_rfl
 m19:=by kernel_rfl
 c0:=by kernel_rfl
 c2:=by kernel_rfl
 c3:=by kernel_rfl
 c4:=by kernel_rfl
 c5:=by kernel_rfl
 c9:=by kernel_rfl
 c20:=by kernel_rfl
 c21:=by kernel_rfl
 c37:=by kernel_rfl
 c46:=by kernel_rfl
 c51:=by kernel_rfl
 c53:=by kernel_rfl
 c75:=by kernel_rfl
 c76:=by kernel_rfl
 c80:=by kernel_rfl
 c85:=by kernel_rfl
 c127:=by kernel_rfl
 c143:=by kernel_rfl
 c145:=by kernel_rfl
 c167:=by kernel_rfl
 c168:=by kernel_rfl
 c171:=by kernel_rfl
 c173:=by kernel_rfl
 c175:=by kernel_rfl
 c210:=by kernel_rfl
 c212:=by kernel_rfl
 c213:=by kernel_rfl
 c232:=by kernel_rfl
 c233:=by kernel_rfl }
end Go.Proofs
namespace Go.Proofs.YtjghelofdfolbaaDoor
namespace En
open Go.RowKit Ba Mem
def isU8 (w:World) (g:Nat):Prop:=∃ c fz,w.heap[g]?=some (.cells c 5 fz)
section
variable {X:Cx} {m:List Row} {ob:List Asr} {w w':World} {s:St}
theorem kept_blk {b g:Nat} {t:TypeId} {cs:Array Value} (h:Blk w g t cs) (k:Lib.OthersKept 5 (some b) w w') (hb:g≠b) (ht:t≠5):Blk w' g t cs :=
 k g _ h (by simpa using hb) (fun c fz e=>by injection e with _ e2 _; exact ht e2)
theorem callK {ι:Type} {f:FuncId} {vs:List SV} {K:SV→St→Prop} (i b:Nat) {A:Asr} (v:ι→SV) (Bo:ι→Asr)
  (hc:∀ w,Hold X s.m s.ob w→A.st w→Calls X.P f (denL s.m vs).toArray w fun e w'=>∃ x,e=.returned (den s.m (v x))∧(Bo x).st w'∧RowKit.Below X.w0.heap.size w w'∧Lib.OthersKept 5 (some b) w w'∧∀ g∈(Bo x).F,X.w0.heap.size≤g∧(g=b∨isU8 w' g))
  (hb:b∈A.F) (hrow:∀ (j:Nat) (r:Row),s.m[j]?=some r→r.t≠5)
  (hob:∀ (k:Nat) (C:Asr),s.ob[k]?=some C→k≠i→(∀ w w',RowKit.Below X.w0.heap.size w w'→Lib.OthersKept 5 (some b) w w'→b∉C.F→C.st w→C.st w')∧∀ w',C.st w'→∀ g∈C.F,g < X.w0.heap.size∨¬ isU8 w' g)
  (h:∀ x,setO i (Bo x) s.ob fun ob=>K (v x) ⟨s.fr,s.m,ob⟩) (hA:s.ob[i]?=some A:=by rfl) (hrw:A.rw=true:=by rfl)
  (he:entChk X.P f=true:=by kernel_rfl) (hv:∀ x,okV s.m.length (v x)=true:=by intro x; rfl):CallVC X f vs s K:=by
 have hmem:=List.mem_of_getElem? hA
 refine ⟨entC he,fun w hH=>(hc w hH (hH.obj A hmem)).mono ?_⟩
 rintro e w' ⟨x,rfl,hB,hbl,hok,hF⟩
 have hbC:∀ (k:Nat) (C:Asr),s.ob[k]?=some C→k≠i→b∉C.F:=fun k C hC hne hm=>pair_at (R:=DisR) (fun _ _ h=>h.symm) hH.dis hC hA hne (.inr hrw) b hm hb
 have hrb:∀ (j:Nat) (r:Row),s.m[j]?=some r→r.live=true→r.g≠b:=fun j r hr hl e=>hH.far A hmem j r hr hl (e ▸ hb)
 have row:∀ (j:Nat) (r:Row),s.m[j]?=some r→r.live=true→Blk w' r.g r.t (rowA s.m r):=fun j r hr hl=>kept_blk (hH.row j r hr hl) hok (hrb j r hr hl) (hrow j r hr)
 have st:∀ (k:Nat) (C:Asr),s.ob[k]?=some C→k≠i→C.st w':=fun k C hC hne=>(hob k C hC hne).1 w w' hbl hok (hbC k C hC hne) (hH.obj C (List.mem_of_getElem? hC))
 have dis:∀ (k:Nat) (C:Asr),s.ob[k]?=some C→k≠i→∀ g∈C.F,g∉(Bo x).F:=fun k C hC hne g hg hgB=>by
  obtain ⟨h1,h2⟩:=hF g hgB
  rcases (hob k C hC hne).2 w' (st k C hC hne) g hg with h3 | h3
  ·omega
  ·rcases h2 with rfl | h2
   ·exact hbC k C hC hne hg
   ·exact h3 h2
 refine ⟨v x,s.m,s.ob.set i (Bo x),rfl,hv x,Ext.refl _, ?_,setO_of (h x)⟩
 refine ⟨?_,row,hH.wf,hH.ne,fun C hC=>?_,fun C hC j r hr hl hg=>?_,fun C hC hr' g hg=>?_,pair_of fun a c C D hne hC hD=>?_⟩
 ·have hu:=hH.upd
  exact ⟨hbl.os.trans hu.os,hbl.tape.trans hu.tape,hbl.output.trans hu.output,Nat.le_trans hu.size hbl.size,fun k hk hn=>(hbl.block k hk).trans (hu.block k hk hn)⟩
 ·rcases mem_set_or hC with rfl | ⟨k,hne,hC⟩
  ·exact hB
  ·exact st k C hC hne
 ·rcases mem_set_or hC with rfl | ⟨k,hne,hC⟩
  ·rcases (hF r.g hg).2 with h2 | ⟨c,fz,h2⟩
   ·exact hrb j r hr hl h2
   ·have:=row j r hr hl
    unfold Blk at this
    rw [h2] at this
    injection this with this
    injection this with _ this _
    exact hrow j r hr this.symm
  ·exact hH.far C (List.mem_of_getElem? hC) j r hr hl hg
 ·rcases mem_set_or hC with rfl | ⟨k,hne,hC⟩
  ·exact .inr (hF g hg).1
  ·exact hH.own C (List.mem_of_getElem? hC) hr' g hg
 ·rcases getElem?_set_or hC with ⟨rfl,rfl⟩ | ⟨n1,hC2⟩ <;> rcases getElem?_set_or hD with ⟨rfl,rfl⟩ | ⟨n2,hD2⟩
  ·exact absurd rfl hne
  ·exact fun _ g hg hgD=>dis c D hD2 (Ne.symm n2) g hgD hg
  ·exact fun _=>dis a C hC2 (Ne.symm n1)
  ·exact pair_at (R:=DisR) (fun _ _ h=>h.symm) hH.dis hC2 hD2 hne
end
end En
namespace Gw
open Go.RowKit Ba Mem En Go.Proofs.YtjghelofdfolbaaDoor.Ty
open Go (Lib.byteCells)
set_option maxRecDepth 100000
def BldS (B b:Nat) (A:Option Addr) (bs:List UInt8) (w:World):Prop :=
 B≤b∧∃ p n c,(p=.pointer none∨p=.pointer (some ⟨b,0,none⟩))∧w.heap[b]?=some (.cells #[p,.slice A n c] 46 (0,0))∧w.ownsRowF B 5 1 (.slice A n c) bs.length (Lib.byteCells bs)∧(Value.slice A n c).ownBlock≠some b
section
variable {B b:Nat} {A:Option Addr} {bs:List UInt8} {w w':World} {T:List Nat}
theorem own_f {n c k:Nat} {vs:List Value} (h:w.ownsRowF B 5 1 (.slice A n c) k vs):∀ g∈blkOf A,B≤g∧g < w.heap.size∧isU8 w g:=by
 intro g hg
 rcases h.2 with ⟨e,_⟩ | ⟨g',cap,cur,fz,e,hB,hh,_⟩
 ·injection e with e _ _; subst e; cases hg
 ·injection e with e _ _; subst e
  have:g=g':=by simpa [blkOf] using hg
  subst this
  exact ⟨hB,(Array.getElem?_eq_some_iff.1 hh).1,cur,fz,hh⟩
theorem own_f_up {n c k:Nat} {vs:List Value} (u:Upd T w w') (h:w.ownsRowF B 5 1 (.slice A n c) k vs) (hT:∀ g∈blkOf A,g∉T):w'.ownsRowF B 5 1 (.slice A n c) k vs:=by
 refine ⟨h.1,h.2.imp id ?_⟩
 rintro ⟨g',cap,cur,fz,e,hB,hh,r⟩
 have e2:=e
 injection e2 with e2 _ _; subst e2
 exact ⟨g',cap,cur,fz,e,hB,(u.block g' (Array.getElem?_eq_some_iff.1 hh).1 (hT g' (by simp [blkOf]))).trans hh,r⟩
theorem BldS.upd (u:Upd T w w') (h:BldS B b A bs w) (hT:∀ g∈b::blkOf A,g∉T):BldS B b A bs w':=by
 obtain ⟨h0,p,n,c,hp,hh,ho,hn⟩:=h
 exact ⟨h0,p,n,c,hp,(u.block b (Array.getElem?_eq_some_iff.1 hh).1 (hT b (List.mem_cons_self ..))).trans hh,own_f_up u ho (fun g hg=>hT g (List.mem_cons_of_mem _ hg)),hn⟩
theorem BldS.lt (h:BldS B b A bs w):∀ g∈b::blkOf A,g < w.heap.size:=by
 obtain ⟨h0,p,n,c,hp,hh,ho,hn⟩:=h
 intro g hg
 rcases List.mem_cons.1 hg with rfl | hg
 ·exact (Array.getElem?_eq_some_iff.1 hh).1
 ·exact (own_f ho g hg).2.1
theorem BldS.fr (h:BldS B b A bs w):∀ g∈b::blkOf A,B≤g∧(g=b∨isU8 w g):=by
 obtain ⟨h0,p,n,c,hp,hh,ho,hn⟩:=h
 intro g hg
 rcases List.mem_cons.1 hg with rfl | hg
 ·exact ⟨h0,.inl rfl⟩
 ·exact ⟨(own_f ho g hg).1,.inr (own_f ho g hg).2.2⟩
theorem BldS.is (h:BldS B b A bs w):Lib.IsBuilderF 46 5 B b (Lib.byteCells bs) w:=by
 obtain ⟨h0,p,n,c,hp,hh,ho,hn⟩:=h
 have hl:(Lib.byteCells bs).length=bs.length:=by have:=ho.1; omega
 rcases hp with rfl | rfl
 ·exact .inl ⟨h0,_,hh,by rw [hl]; exact ho,hn⟩
 ·exact .inr ⟨h0,_,hh,by rw [hl]; exact ho,hn⟩
theorem bld_of {p:Value} (h:Lib.BuilderAtF 46 5 B b p (Lib.byteCells bs) w) (hp:p=.pointer none∨p=.pointer (some ⟨b,0,none⟩)):∃ A,BldS B b A bs w:=by
 obtain ⟨h0,v,hh,ho,hn⟩:=h
 have hl:(Lib.byteCells bs).length=bs.length:=by simp [Lib.byteCells]
 rw [hl] at ho
 rcases ho.2 with ⟨e,_⟩ | ⟨g',cap,cur,fz,e,_⟩
 ·subst e; exact ⟨none,h0,p,0,0,hp,hh,ho,hn⟩
 ·subst e; exact ⟨_,h0,p,_,_,hp,hh,ho,hn⟩
end
def bldO (B b:Nat) (A:Option Addr) (bs:List UInt8) (rw:Bool):Asr:=⟨b::blkOf A,rw,BldS B b A bs,fun u hd h=>h.upd u hd,fun h=>h.lt⟩
theorem writeC {B b:Nat} {A:Option Addr} {bs l:List UInt8} {w:World} (h:BldS B b A bs w) (hlen:bs.length+l.length≤1000000) (hB:B≤w.heap.size) :
  Calls Tryd.prog 21 #[.pointer (some ⟨b,0,none⟩),.string ⟨l.toArray⟩] w fun e w'=>∃ A':Option Addr,e=.returned (.tuple #[.int .i64 (l.length:Int),.nilIface])∧BldS B b A' (bs++l) w'∧RowKit.Below B w w'∧Lib.OthersKept 5 (some b) w w'∧∀ g∈b::blkOf A',B≤g∧(g=b∨isU8 w' g):=by
 have hs:(⟨l.toArray⟩:ByteArray).size=l.length:=by simp [ByteArray.size]
 have hl:(Lib.byteCells bs).length=bs.length:=by simp [Lib.byteCells]
 refine (Go.Proofs.Any.Builder_WriteString_k Tryd.lays166 Tryd.Builder_Extra_166 B b (Lib.byteCells bs) ⟨l.toArray⟩ w h.is (by rw [hl,hs]; omega) hB).mono ?_
 rintro e w' ⟨rfl,h1,h2,h3⟩
 have hc:Lib.byteCells bs++Lib.strCells ⟨l.toArray⟩=Lib.byteCells (bs++l):=by simp [Lib.byteCells,Lib.strCells]
 rw [hc] at h1
 obtain ⟨A',hA⟩:=bld_of h1 (.inr rfl)
 exact ⟨A',by rw [hs],hA,h2,h3,hA.fr⟩
theorem stringC {B b:Nat} {A:Option Addr} {bs:List UInt8} {w:World} (h:BldS B b A bs w) (hB:B≤w.heap.size) :
  Calls Tryd.prog 23 #[.pointer (some ⟨b,0,none⟩)] w fun e w'=>∃ A':Option Addr,e=.returned (.string ⟨bs.toArray⟩)∧BldS B b A' bs w'∧RowKit.Below B w w'∧Lib.OthersKept 5 (some b) w w'∧∀ g∈b::blkOf A',B≤g∧(g=b∨isU8 w' g):=by
 refine (Go.Proofs.Any.Builder_String_any_k Tryd.lays169 Tryd.Builder_Extra_169 B b bs w h.is hB).mono ?_
 rintro e w' ⟨rfl,h1,h2,h3⟩
 rcases h1 with h1 | h1
 ·obtain ⟨A',hA⟩:=bld_of h1 (.inl rfl)
  exact ⟨A',rfl,hA,h2,h3,hA.fr⟩
 ·obtain ⟨A',hA⟩:=bld_of h1 (.inr rfl)
  exact ⟨A',rfl,hA,h2,h3,hA.fr⟩
theorem itoaC (n:Int) (h0 : -9223372036854775808≤n) (h1:n≤9223372036854775807) (w:World) (htab:Lib.TabIs Tryd.prog w "internal/strconv.uint64pow10" .u64 Lib.pow10Tab):Calls Tryd.prog 35 #[.int .i64 n] w fun e w'=>e=.returned (.string ⟨(Lib.itoa n).toArray⟩)∧Since w w':=by
 refine (Go.Proofs.Any.strconv_Itoa Tryd.laysM171 n h0 h1 w htab).mono ?_
 rintro e w' ⟨rfl,k,os,rfl⟩
 exact ⟨rfl,Lib.below_grow w.heap.size w (Nat.le_refl _) k os⟩
end Gw
namespace Gw
open Go.RowKit Ba Mem En Go.Proofs.YtjghelofdfolbaaDoor.Ty
set_option maxRecDepth 100000
section
variable {X:Cx} {m:List Row} {ob:List Asr} {w w':World} {s:St}
theorem Upd.kept {B b:Nat} (h:RowKit.Below B w w') (k:Lib.OthersKept 5 (some b) w w'):∃ T:List Nat,Upd T w w'∧∀ g∈T,B≤g∧(g=b∨isU8 w g):=by
 classical
 refine ⟨(List.range w.heap.size).filter fun g=>decide (B≤g∧(g=b∨isU8 w g)),⟨h.os,h.tape,h.output,h.size,fun g hg hn=>?_⟩,fun g hg=>by simpa using (List.mem_filter.1 hg).2⟩
 by_cases hB:g < B
 ·exact h.block g hB
 ·have hn2:¬ (g=b∨isU8 w g):=fun hx=>hn (List.mem_filter.2 ⟨List.mem_range.2 hg,by simpa using ⟨by omega,hx⟩⟩)
  have h1:w.heap[g]?=some w.heap[g]:=Array.getElem?_eq_getElem hg
  rw [h1]
  exact k g _ h1 (fun e=>hn2 (.inl (by injection e))) (fun c fz e=>hn2 (.inr ⟨c,fz,by rw [h1,e]⟩))
theorem kO {C:Asr} {B b:Nat} (hF:∀ w,C.st w→∀ g∈C.F,g < B∨¬ isU8 w g):(∀ w w',RowKit.Below B w w'→Lib.OthersKept 5 (some b) w w'→b∉C.F→C.st w→C.st w')∧∀ w',C.st w'→∀ g∈C.F,g < B∨¬ isU8 w' g:=by
 refine ⟨fun w w' hb hk hn hC=>?_,hF⟩
 obtain ⟨T,hu,hT⟩:=Upd.kept hb hk
 refine C.up hu (fun g hg hgT=>?_) hC
 obtain ⟨h1,h2⟩:=hT g hgT
 rcases h2 with rfl | h2
 ·exact hn hg
 ·rcases hF w hC g hg with h3 | h3
  ·omega
  ·exact h3 h2
theorem rw_k {α:Type} {E:Ek α} {lo n c B:Nat} {A:Option Addr} {ls:List α} {r:Bool} (ht:E.t≠5):∀ w,(rwO E lo A n c ls r).st w→∀ g∈(rwO E lo A n c ls r).F,g < B∨¬ isU8 w g:=by
 intro w h g hg
 rcases own_at h with ⟨rfl,_⟩ | ⟨g',cur,rfl,_,hb,_⟩
 ·cases hg
 ·have:g=g':=by simpa [rwO,blkOf] using hg
  subst this
  refine .inr ?_
  rintro ⟨c2,fz,e⟩
  unfold Blk at hb
  rw [hb] at e
  injection e with e
  injection e with _ e _
  exact ht e
variable {o:Oper} {K:St→Prop}
def strO (g:Nat) (bs:List UInt8):Asr:=⟨[g],true,fun w=>∃ cs fz,w.heap[g]?=some (.cells cs 5 fz)∧cs.toList.take bs.length=Lib.byteCells bs,fun u hd ⟨cs,fz,h,r⟩=>⟨cs,fz,(u.block _ (Array.getElem?_eq_some_iff.1 h).1 (hd _ (List.mem_singleton.2 rfl))).trans h,r⟩,fun ⟨cs,fz,h,_⟩ g hg=>by rw [List.mem_singleton.1 hg]; exact (Array.getElem?_eq_some_iff.1 h).1⟩
theorem wp_q2 {P:Program} {a:Act} {w w2:World} {K:Act→World→Prop} {Q:Exit→Act→World→Prop} (v:Value) (he:(execOp a.eval o).run P w=.ok (.value v) w2) (h:K (a.put o.dst v) w2):o.wp P a w K Q:=by
 unfold Oper.wp
 rw [he]
 exact h
theorem opcb {t d:TypeId} {x:Operand} {bs:List UInt8} (ho:o.op=.convert t d x) (hx:evO x s.fr=some (.v (.string ⟨bs.toArray⟩))) {u:TypeDesc} (h1:X.P.underlying t=some u) (h2:X.P.underlying d=some (.slice 5)) (h3:X.P.underlying 5=some (.int .u8))
  (h:∀ (g c:Nat),appO s.ob (strO g bs) fun ob=>put X.n o.dst (.v (.slice (some ⟨g,0,none⟩) bs.length c)) ⟨s.fr,s.m,ob⟩ K):OpVC X o s K:=⟨fun a w Q hR=>by
 have e1:=(evO_of hR.fr hx).2
 have hsz:(⟨bs.toArray⟩:ByteArray).size=bs.length:=by simp [ByteArray.size]
 have hold:=Lib.bytesWorld_at_old w 5 ⟨bs.toArray⟩
 have hsn:Since w (Lib.bytesWorld w 5 ⟨bs.toArray⟩):=⟨rfl,rfl,rfl,by rw [Lib.bytesWorld_size]; omega,fun k hk=>hold k hk⟩
 have hst:(strO w.heap.size bs).st (Lib.bytesWorld w 5 ⟨bs.toArray⟩):=⟨_,_,Lib.bytesWorld_at_new w 5 ⟨bs.toArray⟩,by
  have h4:bs.length=(List.map (fun b=>Value.int .u8 (b.toNat:Int)) bs).length:=by simp
  simp only [Lib.bytesCells,Array.toList_append,Array.toList_map,Lib.byteCells]
  exact List.take_left' (by simp)⟩
 have hH:=hR.h.obj_new (B:=strO w.heap.size bs) hst hsn (by intro g hg; rw [List.mem_singleton.1 hg]; exact Nat.le_refl _)
 obtain ⟨s',r1,r2,r3,r4⟩:=put_of (a:=a) (s:=⟨s.fr,s.m,s.ob++[strO w.heap.size bs]⟩) (v:=.v (.slice (some ⟨w.heap.size,0,none⟩) bs.length (grownCap w bs.length 0 5))) hR.ds hR.sz hR.fr hH rfl (appO_of (h w.heap.size _))
 refine wp_q2 _ ?_ ⟨s',r1,by rw [r2]; exact Ext.refl _,r4⟩
 have:=Lib.run_convert_string_bytes (P:=X.P) w t d 5 ⟨bs.toArray⟩ h1 h2 h3
 rw [hsz] at this
 unfold execOp
 simp only [ho,e1,den]
 simp [this,Result.andThen]⟩
end
end Gw
namespace Sp
open Go.RowKit Ba Mem En Go.Proofs.YtjghelofdfolbaaDoor.Ty Gw
open Co (Hold.ob)
open Sx Sw
open Go.Lib (itoa)
set_option maxRecDepth 100000
def g1:Nat:=Tryd.laysM146_ren.g 1
def g15:Nat:=Tryd.laysC172_ren.g 15
def g16:Nat:=Tryd.laysC172_ren.g 16
def pw:String := "internal/strconv.uint64pow10"
def errAt (w:World) (g:Nat):Prop:=∃ v,w.cell? ⟨g,0,none⟩=some v∧(v=.nilIface∨∃ t p,v=.iface t p)
structure GkS (w:World):Prop where
 m:∃ m,w.cell? ⟨g1,0,none⟩=some (.int .i64 m)
 p:Lib.TabIs Tryd.prog w pw .u64 Lib.pow10Tab
 e:errAt w g15
 r:errAt w g16
noncomputable def pwF:List Nat:=match Tryd.prog.globalNamed pw with
 | some k=>[k]
 | none=>[]
theorem cell_up {T:List Nat} {w w':World} {g:Nat} {v:Value} (u:Upd T w w') (hT:g∉T) (h:w.cell? ⟨g,0,none⟩=some v):w'.cell? ⟨g,0,none⟩=some v:=upd_cell u (World.block_lt_of_cell? _ _ h) hT h
theorem tab_up2 {T:List Nat} {w w':World} (u:Upd T w w') (hT:∀ k∈pwF,k∉T) (h:Lib.TabIs Tryd.prog w pw .u64 Lib.pow10Tab):Lib.TabIs Tryd.prog w' pw .u64 Lib.pow10Tab:=by
 unfold Lib.TabIs World.var? at h ⊢
 cases hg:Tryd.prog.globalNamed pw with
 | none=>simp [hg] at h
 | some g =>
  simp only [hg,Option.bind_some] at h ⊢
  have hlt:g < w.heap.size:=by
   rcases Nat.lt_or_ge g w.heap.size with h' | h'
   ·exact h'
   ·simp [Array.getElem?_eq_none h'] at h
  rw [u.block g hlt (hT g (by unfold pwF; rw [hg]; exact List.mem_singleton.2 rfl))]
  exact h
theorem GkS.up {T:List Nat} {w w':World} (u:Upd T w w') (hT:∀ g∈[g1,g15,g16]++pwF,g∉T) (h:GkS w):GkS w':=by
 obtain ⟨⟨m,hm⟩,h2,⟨v,h3,h4⟩,⟨v',h5,h6⟩⟩:=h
 exact ⟨⟨m,cell_up u (hT _ (by simp)) hm⟩,tab_up2 u (fun k hk=>hT k (List.mem_append.2 (.inr hk))) h2,⟨v,cell_up u (hT _ (by simp)) h3,h4⟩,⟨v',cell_up u (hT _ (by simp)) h5,h6⟩⟩
theorem GkS.lt {w:World} (h:GkS w):∀ g∈[g1,g15,g16]++pwF,g < w.heap.size:=by
 obtain ⟨⟨m,hm⟩,h2,⟨v,h3,h4⟩,⟨v',h5,h6⟩⟩:=h
 intro g hg
 rcases List.mem_append.1 hg with hg | hg
 ·simp only [List.mem_cons,List.not_mem_nil,or_false] at hg
  rcases hg with rfl | rfl | rfl
  ·exact World.block_lt_of_cell? _ _ hm
  ·exact World.block_lt_of_cell? _ _ h3
  ·exact World.block_lt_of_cell? _ _ h5
 ·unfold pwF at hg
  cases hk:Tryd.prog.globalNamed pw with
  | none=>rw [hk] at hg; cases hg
  | some k =>
   rw [hk] at hg
   rw [List.mem_singleton.1 hg]
   unfold Lib.TabIs World.var? at h2
   simp only [hk,Option.bind_some] at h2
   rcases Nat.lt_or_ge k w.heap.size with h' | h'
   ·exact h'
   ·simp [Array.getElem?_eq_none h'] at h2
noncomputable def gkO:Asr:=⟨[g1,g15,g16]++pwF,false,GkS,fun u hd h=>h.up u hd,fun h=>h.lt⟩
theorem hold_gk {nt:Nat} {w:World} (h:GkS w):Hold ⟨Tryd.prog,tab,[],w,nt,[]⟩ [] [gkO] w :=
 Hold.addObj (Hold.nil _ tab [] _ w) gkO h (by intro k; cases k) (by intro r hr; cases hr) (by intro A hA; cases hA)
theorem atoiY {s:List UInt8} {n:Int} {w:World} (hl:s.length≤1000000) (h:Lib.atoiAll s=.ok n):Calls Tryd.prog 50 #[.string ⟨s.toArray⟩] w fun e w'=>e=.returned (.tuple #[.int .i64 n,.nilIface])∧Since w w':=by
 refine (Go.Proofs.Any.strconv_Atoi_ok Tryd.laysC172 ⟨s.toArray⟩ (by rw [tx_size]; omega) n h w).mono ?_
 rintro e w' ⟨rfl,h | ⟨t,h⟩⟩
 ·exact ⟨rfl,h ▸ Since.refl _⟩
 ·exact ⟨rfl,by rw [h]; exact Lib.bytesWorld_below w _ t⟩
def erV (N:Nat):Value:=.iface 106 (.pointer (some ⟨N,0,none⟩))
theorem atoiN {s:List UInt8} {w:World} (hl:s.length≤1000000) (hg:GkS w) (h:∀ n,Lib.atoiAll s≠.ok n):Calls Tryd.prog 50 #[.string ⟨s.toArray⟩] w fun e w'=>∃ y:Int×Nat,e=.returned (.tuple #[.int .i64 y.1,erV y.2])∧Since w w':=by
 obtain ⟨v,h3,h4⟩:=hg.e
 obtain ⟨v',h5,h6⟩:=hg.r
 cases hq:Lib.atoiAll s with
 | ok n=>exact absurd hq (h n)
 | range =>
  refine (Go.Proofs.Any.strconv_Atoi_range Tryd.laysC172 ⟨s.toArray⟩ (by rw [tx_size]; omega) hq v' w h5 h6).mono ?_
  rintro e w' ⟨N,rfl,_,_,hb⟩
  exact ⟨(_,N),rfl,hb⟩
 | _ =>
  refine (Go.Proofs.Any.strconv_Atoi_syntax Tryd.laysC172 ⟨s.toArray⟩ (by rw [tx_size]; omega) hq v w h3 h4).mono ?_
  rintro e w' ⟨N,rfl,_,_,hb⟩
  exact ⟨(0,N),rfl,hb⟩
end Sp
namespace Sp
open Go.ChangeShapes Go.WideShapes Go.ChangeAt Go.WideMaps Go.WideElems Go.RowKit
open Ba Mem En
theorem door_met (os:Os) (args:Array Value):laidMetH Tryd.prog Rows.scriptPrintsRow.laid ((World.laidAll Tryd.prog os Rows.scriptPrintsRow.laid).forCall (fun _ _=>0) ⟨#[],args,[]⟩).memory:=by
 rw [MakeChecks.laidMetH_plain _ _ _ (by kernel_rfl)]
 exact laidMet_laidAll _ (by kernel_rfl) (by kernel_rfl)
theorem tab_data:(Rows.laid_internal_strconv_uint64pow10:DataW Unit)=Lib.tabData .u64 Lib.pow10Tab:=by kernel_rfl
theorem star : "*" ++ "errors.errorString" = "*errors.errorString" := by decide
theorem row_err (u:TypeId) (h:Tryd.prog.typeName? 3 u=some "*errors.errorString"):u=130 :=
 typeName_ptr_named (nm := "errors.errorString") (by rw [star]; kernel_rfl) (by kernel_rfl) (by decide) u (by rw [star]; exact h)
theorem gE:Tryd.prog.globalNamed "strconv.ErrSyntax" = some 2:=by kernel_rfl
theorem gR:Tryd.prog.globalNamed "strconv.ErrRange" = some 3:=by kernel_rfl
theorem g15_is:g15=2:=by kernel_rfl
theorem g16_is:g16=3:=by kernel_rfl
theorem of_laid {W:World} (hs:W.ShapedOpen Tryd.prog) (h:laidMetH Tryd.prog Rows.scriptPrintsRow.laid W):GkS W:=by
 rw [MakeChecks.laidMetH_plain _ _ _ (by kernel_rfl)] at h
 have h1:laidMet Tryd.prog [("math/bits.deBruijn32tab", Rows.laid_math_bits_deBruijn32tab),("math/bits.deBruijn64tab", Rows.laid_math_bits_deBruijn64tab),("internal/strconv.uint64pow10", Rows.laid_internal_strconv_uint64pow10),("unicode/utf8.acceptRanges", Rows.laid_unicode_utf8_acceptRanges),("strconv.ErrRange", Rows.laid_strconv_ErrRange),("strconv.ErrSyntax", Rows.laid_strconv_ErrSyntax),("unicode/utf8.first", Rows.laid_unicode_utf8_first)] W:=h
 have h2:=laidMet.tail (laidMet.tail h1)
 have h3:=laidMet.tail (laidMet.tail h2)
 have h4:=laidMet.tail h3
 rw [tab_data] at h2
 obtain ⟨a0,s0,hv0,_⟩:=laid_sentinel h3 gR (by kernel_rfl) Tryd.underlying48 row_err Tryd.underlying130 Tryd.underlying132 rfl rfl Tryd.underlying9 (by kernel_rfl) (by kernel_rfl)
 obtain ⟨a1,s1,hv1,_⟩:=laid_sentinel h4 gE (by kernel_rfl) Tryd.underlying48 row_err Tryd.underlying130 Tryd.underlying132 rfl rfl Tryd.underlying9 (by kernel_rfl) (by kernel_rfl)
 refine ⟨Tryd.laysM146.s1_3 W hs,Lib.tabIs_of_head (g:=1) (by kernel_rfl) (by kernel_rfl) Tryd.underlying111 Tryd.underlying81 (by kernel_rfl) (by kernel_rfl) h2,⟨.iface 130 (.pointer (some a1)),by rw [g15_is]; exact World.var?_cell gE hv1 0,.inr ⟨_,_,rfl⟩⟩,⟨.iface 130 (.pointer (some a0)),by rw [g16_is]; exact World.var?_cell gR hv0 0,.inr ⟨_,_,rfl⟩⟩⟩
end Sp
namespace Gw
open Go.RowKit Ba Mem En Go.Proofs.YtjghelofdfolbaaDoor.Ty
set_option maxRecDepth 100000
def allB (P:Asr→Prop):Nat→List Asr→Prop
 | _,[]=>True
 | 0,_::r=>∀ A∈r,P A
 | i+1,A::r=>P A∧allB P i r
theorem allB_of {P:Asr→Prop}:∀ {i:Nat} {l:List Asr} {k:Nat} {C:Asr},allB P i l→l[k]?=some C→k≠i→P C
 | _,[],_,_,_,h,_=>by simp at h
 | 0,_::r,0,_,_,_,hk=>absurd rfl hk
 | 0,_::r,k+1,C,h,hC,_=>h C (List.mem_of_getElem? (by simpa using hC))
 | i+1,A::r,0,C,h,hC,_=>by simp at hC; subst hC; exact h.1
 | i+1,A::r,k+1,C,h,hC,hk=>allB_of (i:=i) (l:=r) (k:=k) h.2 (by simpa using hC) (by omega)
def offU (B:Nat) (C:Asr):Prop:=∀ w,C.st w→∀ g∈C.F,g < B∨¬ isU8 w g
section
variable {X:Cx} {s:St}
theorem wrtX {f:FuncId} {vs:List SV} {K:SV→St→Prop} (i b:Nat) {A:Option Addr} {bs l:List UInt8} (hf:f=21) (hP:X.P=Tryd.prog) (hA:s.ob[i]?=some (bldO X.w0.heap.size b A bs true)) (hv:denL s.m vs=[.pointer (some ⟨b,0,none⟩),.string ⟨l.toArray⟩]) (hlen:bs.length+l.length≤1000000) (hrow:(s.m.all fun r=>!Nat.beq r.t 5)=true) (hob:allB (offU X.w0.heap.size) i s.ob)
  (h:∀ A',setO i (bldO X.w0.heap.size b A' (bs++l) true) s.ob fun ob=>K (.t [.i .i64 (l.length:Int),.v .nilIface]) ⟨s.fr,s.m,ob⟩) (he:entChk X.P f=true:=by kernel_rfl):CallVC X f vs s K:=by
 refine callK i b (A:=bldO X.w0.heap.size b A bs true) (ι:=Option Addr) (fun _=>.t [.i .i64 (l.length:Int),.v .nilIface]) (fun A'=>bldO X.w0.heap.size b A' (bs++l) true) (fun w hH hS=>?_) (List.mem_cons_self ..) (fun j r hr ht=>?_) (fun k C hC hk=>kO (allB_of hob hC hk)) h hA rfl he (fun _=>rfl)
 ·rw [hv,hf,hP]
  refine (writeC (l:=l) hS hlen hH.upd.size).mono ?_
  rintro e w' ⟨A',rfl,h1,h2,h3,h4⟩
  exact ⟨A',rfl,h1,h2,h3,h4⟩
 ·have:=List.all_eq_true.1 hrow r (List.mem_of_getElem? hr)
  rw [ht] at this
  exact absurd this (by decide)
theorem stgX {f:FuncId} {vs:List SV} {K:SV→St→Prop} (i b:Nat) {A:Option Addr} {bs:List UInt8} (hf:f=23) (hP:X.P=Tryd.prog) (hA:s.ob[i]?=some (bldO X.w0.heap.size b A bs true)) (hv:denL s.m vs=[.pointer (some ⟨b,0,none⟩)]) (hrow:(s.m.all fun r=>!Nat.beq r.t 5)=true) (hob:allB (offU X.w0.heap.size) i s.ob)
  (h:∀ A',setO i (bldO X.w0.heap.size b A' bs true) s.ob fun ob=>K (.v (.string ⟨bs.toArray⟩)) ⟨s.fr,s.m,ob⟩) (he:entChk X.P f=true:=by kernel_rfl):CallVC X f vs s K:=by
 refine callK i b (A:=bldO X.w0.heap.size b A bs true) (ι:=Option Addr) (fun _=>.v (.string ⟨bs.toArray⟩)) (fun A'=>bldO X.w0.heap.size b A' bs true) (fun w hH hS=>?_) (List.mem_cons_self ..) (fun j r hr ht=>?_) (fun k C hC hk=>kO (allB_of hob hC hk)) h hA rfl he (fun _=>rfl)
 ·rw [hv,hf,hP]
  refine (stringC hS hH.upd.size).mono ?_
  rintro e w' ⟨A',rfl,h1,h2,h3,h4⟩
  exact ⟨A',rfl,h1,h2,h3,h4⟩
 ·have:=List.all_eq_true.1 hrow r (List.mem_of_getElem? hr)
  rw [ht] at this
  exact absurd this (by decide)
end
end Gw
namespace En
open Go.RowKit Ba Mem
def bdO (C:Asr) (B:Nat):Asr:=⟨C.F,C.rw,fun w=>C.st w∧∀ g∈C.F,g < B,fun u hd h=>⟨C.up u hd h.1,h.2⟩,fun h=>C.lt h.1⟩
theorem wkX {X:Cx} {s s':St} (j:Nat) {r:Row} (C:Asr) (hr:s.m[j]?=some r) (hl:(r.live && r.rw)=true) (hF:C.F=[r.g]) (hC:∀ w,(X.w0.heap.size≤r.g∨r.g∈X.S)→Blk w r.g r.t (rowA s.m r)→C.st w) (h:Wk X ⟨s.fr,s.m.set j { r with live:=false },s.ob++[C]⟩ s'):Wk X s s':=⟨fun a w hR=>by
 simp only [Bool.and_eq_true] at hl
 have hg:=(hR.h.wf j r hr hl.1).2.2 hl.2
 have hH2:=Hold.toObj hR.h (C:=C) hr hl.1 hl.2 hF (hC w hg.symm (hR.h.row j r hr hl.1))
 exact h.out a w ⟨hR.ds,hR.sz,hR.fr.ext (Ext.dead hr),hH2⟩⟩
end En
namespace Gw
open Go.RowKit Ba Mem En Go.Proofs.YtjghelofdfolbaaDoor.Ty
set_option maxRecDepth 100000
theorem off_bd {B:Nat} (C:Asr):offU B (bdO C B):=fun w h g hg=>.inl (h.2 g hg)
theorem byteC {B b:Nat} {A:Option Addr} {bs:List UInt8} {c:UInt8} {w:World} (h:BldS B b A bs w) (hlen:bs.length+1≤1000000) (hB:B≤w.heap.size) :
  Calls Tryd.prog 32 #[.pointer (some ⟨b,0,none⟩),.int .u8 (c.toNat:Int)] w fun e w'=>∃ A':Option Addr,e=.returned .nilIface∧BldS B b A' (bs++[c]) w'∧RowKit.Below B w w'∧Lib.OthersKept 5 (some b) w w'∧∀ g∈b::blkOf A',B≤g∧(g=b∨isU8 w' g):=by
 have hl:(Lib.byteCells bs).length=bs.length:=by simp [Lib.byteCells]
 refine (Go.Proofs.Any.Builder_WriteByte_k Tryd.lays167 Tryd.Builder_Extra_167 B b (Lib.byteCells bs) (c.toNat:Int) w h.is (by rw [hl]; omega) hB).mono ?_
 rintro e w' ⟨rfl,h1,h2,h3⟩
 have hc:Lib.byteCells bs++[Value.int .u8 (c.toNat:Int)]=Lib.byteCells (bs++[c]):=by simp [Lib.byteCells]
 rw [hc] at h1
 obtain ⟨A',hA⟩:=bld_of h1 (.inr rfl)
 exact ⟨A',rfl,hA,h2,h3,hA.fr⟩
theorem bytX {X:Cx} {s:St} {f:FuncId} {vs:List SV} {K:SV→St→Prop} (i b:Nat) {A:Option Addr} {bs:List UInt8} {c:UInt8} (hf:f=32) (hP:X.P=Tryd.prog) (hA:s.ob[i]?=some (bldO X.w0.heap.size b A bs true)) (hv:denL s.m vs=[.pointer (some ⟨b,0,none⟩),.int .u8 (c.toNat:Int)]) (hlen:bs.length+1≤1000000) (hrow:(s.m.all fun r=>!Nat.beq r.t 5)=true) (hob:allB (offU X.w0.heap.size) i s.ob)
  (h:∀ A',setO i (bldO X.w0.heap.size b A' (bs++[c]) true) s.ob fun ob=>K (.v .nilIface) ⟨s.fr,s.m,ob⟩) (he:entChk X.P f=true:=by kernel_rfl):CallVC X f vs s K:=by
 refine callK i b (A:=bldO X.w0.heap.size b A bs true) (ι:=Option Addr) (fun _=>.v .nilIface) (fun A'=>bldO X.w0.heap.size b A' (bs++[c]) true) (fun w hH hS=>?_) (List.mem_cons_self ..) (fun j r hr ht=>?_) (fun k C hC hk=>kO (allB_of hob hC hk)) h hA rfl he (fun _=>rfl)
 ·rw [hv,hf,hP]
  refine (byteC (c:=c) hS hlen hH.upd.size).mono ?_
  rintro e w' ⟨A',rfl,h1,h2,h3,h4⟩
  exact ⟨A',rfl,h1,h2,h3,h4⟩
 ·have:=List.all_eq_true.1 hrow r (List.mem_of_getElem? hr)
  rw [ht] at this
  exact absurd this (by decide)
theorem bld_0 {lo b:Nat} {w:World} (hg:lo≤b) (h:Blk w b 46 #[.pointer none,.slice none 0 0]):(bldO lo b none [] true).st w :=
 ⟨hg,.pointer none,0,0,.inl rfl,h,⟨rfl,.inl ⟨rfl,rfl⟩⟩,by intro h; cases h⟩
end Gw
namespace Sp
open Go.RowKit Ba Mem En Go.Proofs.YtjghelofdfolbaaDoor.Ty Gw
open Byt (BV isB)
open Co (Hold.ob)
open Sx Sw
set_option maxRecDepth 100000
theorem hold_bd {A:Option Addr} {n nt:Nat} {d:List Int} {w:World} (h:BV w A n d):Hold ⟨Tryd.prog,tab,[],w,nt,[]⟩ [] [bdO (bvO A n d) w.heap.size] w :=
 Hold.addObj (Hold.nil _ tab [] _ w) (bdO (bvO A n d) w.heap.size) ⟨h,bv_lt h⟩ (by intro k; cases k) (by intro r hr; cases hr) (by intro A hA; cases hA)
theorem own_hg {a b:Nat} (h:a≤b∨b∈([]:List Nat)):a≤b:=h.elim id (fun h=>by cases h)
theorem shr4 {k:Nat}:(k:Int).fdiv (2 ^ min ((4:Int).toNat) IntKind.u8.bits)=((k / 16:Nat):Int):=by
 rw [show (2:Int) ^ min ((4:Int).toNat) IntKind.u8.bits=16 from by decide,Int.fdiv_eq_ediv_of_nonneg _ (by decide)]
 omega
theorem and15:∀ k:Fin 256,bits .and .u8 (k.val:Int) 15=((k.val % 16:Nat):Int):=by decide +kernel
theorem and15' {k:Nat} (h:k < 256):bits .and .u8 (k:Int) 15=((k % 16:Nat):Int):=and15 ⟨k,h⟩
attribute [local irreducible] Go.Calls hexI
set_option maxHeartbeats 4000000 in
theorem hexP {A:Option Addr} {n c:Nat} {zs:List Int} {w:World} (h:BV w A n zs) (hn:n≤400000):Calls Tryd.prog 18 #[.slice A n c] w fun e w'=>e=.returned (.string ⟨(hexI zs).toArray⟩)∧Since w w':=by
 have hl:=h.1
 have hb:=h.2.2.1
 obtain ⟨g,off,hA⟩:∃ g off,0 < n→A=some ⟨g,off,none⟩:=by
  rcases Nat.eq_zero_or_pos n with h0 | h0
  ·exact ⟨0,0,fun h=>by omega⟩
  ·obtain ⟨b,o,e,_⟩:=h.addr (by omega)
   exact ⟨b,o,fun _=>e⟩
 refine entH tab_ok (hold_bd h) [.v (.slice A n c)] Tryd.func18 Tryd.ntmps18 rfl rfl ?_
 repeat' ((conv=>whnf); first | refine sgo ⟨tab_ok⟩ ?_|refine br_not ?_|refine br_t rfl ?_|refine br_f rfl ?_|refine br_t (by assumption) ?_|refine br_f (by assumption) ?_|refine br_t (decide_eq_true (by assumption)) ?_|refine br_f (decide_eq_false (by assumption)) ?_|refine br_t (beq_iff_eq.2 (by assumption)) ?_|refine br_f (beq_eq_false_iff_ne.2 (by assumption)) ?_|refine drA ⟨tab_ok⟩ [] ?_|refine kpt ?_|refine br_t (decide_eq_true (by omega)) ?_|refine br_f (decide_eq_false (by omega)) ?_|refine fin_s ?_|refine fin_r ?_ ?_|refine fin_e ?_ ?_)
 conv=>whnf
 intro b0
 repeat' ((conv=>whnf); first | refine sgo ⟨tab_ok⟩ ?_|refine br_not ?_|refine br_t rfl ?_|refine br_f rfl ?_|refine br_t (by assumption) ?_|refine br_f (by assumption) ?_|refine br_t (decide_eq_true (by assumption)) ?_|refine br_f (decide_eq_false (by assumption)) ?_|refine br_t (beq_iff_eq.2 (by assumption)) ?_|refine br_f (beq_eq_false_iff_ne.2 (by assumption)) ?_|refine drA ⟨tab_ok⟩ [] ?_|refine kpt ?_|refine br_t (decide_eq_true (by omega)) ?_|refine br_f (decide_eq_false (by omega)) ?_|refine fin_s ?_|refine fin_r ?_ ?_|refine fin_e ?_ ?_)
 conv=>whnf
 refine lp ⟨tab_ok⟩ (ι:={y:Nat×List UInt8×Option Addr // y.1≤n∧y.2.1=hexI (zs.take y.1)}) (fun y=>match y with | ⟨(i,x,B),_⟩=>⟨[(0,.v (.slice A n c)),(3,.p 0 0),(6,.v (.slice A n c)),(7,.i .i64 (n:Int)),(8,.i .i64 (i:Int))],[⟨b0,46,false,0,[],[.v (.pointer none),.v (.slice none 0 0)],[],true⟩],[bdO (bvO A n zs) w.heap.size,bldO w.heap.size b0 B x true]⟩) (fun y=>n - y.1.1) ⟨(0,[],none),Nat.zero_le _,(hexI_0 zs).symm⟩ (wkX 0 (bldO w.heap.size b0 none [] true) (by rfl) (by rfl) (by rfl) (fun w1 hg hb1=>bld_0 (own_hg hg) hb1) (wk ?_)) ?_
 ·repeat' (first | exact trivial | rfl | ((conv=>whnf); refine And.intro ?_ ?_))
 rintro ⟨⟨i,x,B⟩,hi0,hx0⟩
 have hi:i≤n:=hi0
 have hx:x=hexI (zs.take i):=hx0
 by_cases hlt:i < n
 ·obtain ⟨z,hz⟩:∃ z,zs[i]?=some z:=⟨_,List.getElem?_eq_getElem (by omega)⟩
  have hzb:isB z:=hb z (List.mem_of_getElem? hz)
  unfold isB at hzb
  obtain ⟨k,rfl⟩:∃ k:Nat,z=(k:Int):=⟨z.toNat,by omega⟩
  have hk:k < 256:=by omega
  have hA:=hA (by omega)
  subst hA
  have hnx:=hex_next hz
  rw [← hx] at hnx
  have hzd:zs.getD i 0=(k:Int):=by rw [List.getD_eq_getElem?_getD,hz]; rfl
  have hlen:x.length≤800000:=by rw [hx,hexI_len,List.length_take]; omega
  have h1:=hd_dig' (show k / 16 < 16 by omega)
  have h2:=hd_dig' (show k % 16 < 16 by omega)
  repeat' ((conv=>whnf); first | refine sgo ⟨tab_ok⟩ ?_|refine br_not ?_|refine br_t rfl ?_|refine br_f rfl ?_|refine br_t (by assumption) ?_|refine br_f (by assumption) ?_|refine br_t (decide_eq_true (by assumption)) ?_|refine br_f (decide_eq_false (by assumption)) ?_|refine br_t (beq_iff_eq.2 (by assumption)) ?_|refine br_f (beq_eq_false_iff_ne.2 (by assumption)) ?_|refine drA ⟨tab_ok⟩ [] ?_|refine kpt ?_|refine br_t (decide_eq_true (by omega)) ?_|refine br_f (decide_eq_false (by omega)) ?_|refine cd (by first | decide | omega) ?_|refine wr_i ?_|refine opiv ⟨tab_ok⟩ (by rfl) (by rfl) (by rfl) (by rfl) (by rfl) (by rfl) ⟨by omega,by omega⟩ ?_|refine opxc (g:=g) (off:=off+i) (.i .u8 (k:Int)) (fun w1 hH=>bv_rng (Hold.ob hH (A:=bdO (bvO (some ⟨g,off,none⟩) n zs) w.heap.size) 0 rfl).1 hlt hzd) ⟨tab_ok⟩ (by rfl) (by rfl) (by simp only [Go.WideShapes.add_plain,Int.toNat_natCast,Nat.mul_one]) ?_|refine opP (pvIdx (xs:=dig16) (j:=k / 16) (by rfl) (by rfl) (by rfl) shr4 h1 Tryd.underlying9) ?_|refine opP (pvIdx (xs:=dig16) (j:=k % 16) (by rfl) (by rfl) (by rfl) (and15' hk) h2 Tryd.underlying9) ?_|refine bytX 1 b0 (A:=B) (bs:=x) (c:=hxd (k / 16)) (by rfl) rfl (by rfl) (by rfl) (by omega) (by rfl) ⟨off_bd _,by intro C hC; cases hC⟩ (fun B1=>?_)|refine bytX 1 b0 (A:=B1) (bs:=x++[hxd (k / 16)]) (c:=hxd (k % 16)) (by rfl) rfl (by rfl) (by rfl) (by rw [List.length_append]; show _+(0+1)+1≤_; omega) (by rfl) ⟨off_bd _,by intro C hC; cases hC⟩ (fun B2=>?_)|refine En.back ⟨(i+1,x++[hxd (k / 16)]++[hxd (k % 16)],B2),by show i+1≤n; omega,hnx.symm⟩ (wkd ?_) ?_|refine fin_s ?_|refine fin_r ?_ ?_|refine fin_e ?_ ?_)
  all_goals first | (show n - (i+1) < n - i; omega)|skip
  all_goals (repeat' (first | exact trivial | rfl | ((conv=>whnf); refine And.intro ?_ ?_)))
 ·have e0:i=n:=by omega
  have e1:x=hexI zs:=by
   rw [hx,e0,← hl]; rw [List.take_length]
  repeat' ((conv=>whnf); first | refine sgo ⟨tab_ok⟩ ?_|refine br_not ?_|refine br_t rfl ?_|refine br_f rfl ?_|refine br_t (by assumption) ?_|refine br_f (by assumption) ?_|refine br_t (decide_eq_true (by assumption)) ?_|refine br_f (decide_eq_false (by assumption)) ?_|refine br_t (beq_iff_eq.2 (by assumption)) ?_|refine br_f (beq_eq_false_iff_ne.2 (by assumption)) ?_|refine drA ⟨tab_ok⟩ [] ?_|refine kpt ?_|refine br_t (decide_eq_true (by omega)) ?_|refine br_f (decide_eq_false (by omega)) ?_|refine stgX 1 b0 (A:=B) (bs:=x) (by rfl) rfl (by rfl) (by rfl) (by rfl) ⟨off_bd _,by intro C hC; cases hC⟩ (fun B1=>?_)|refine fin_s ?_|refine fin_r ?_ ?_|refine fin_e ?_ ?_)
  all_goals (rw [e1]; rfl)
end Sp
namespace Pa
open Go.RowKit Ba Mem
open Byt (BV isB cells)
theorem bv_cells {w:World} {x:Addr} {len:Nat} {zs:List Int} (hl:len≤zs.length) (hm:len≤maxLen) (hc:∀ i,i < zs.length→w.cell? (x.add i)=some (.int .u8 (zs.getD i 0))) (hw:∀ n∈zs,(Lit.int .u8 n).wf=true):BV w (some x) len (zs.take len):=by
 refine ⟨by rw [List.length_take]; omega,by unfold maxLen at hm; omega,fun z hz'=>?_, ?_⟩
 ·have:=bounds_u8 (hw z (List.mem_of_mem_take hz'))
  unfold isB; omega
 ·rcases Nat.eq_zero_or_pos len with h0 | h0
  ·exact .inl h0
  ·obtain ⟨b,off,rfl,hc'⟩:=ints_at hc (by omega)
   refine .inr ⟨b,off,rfl, ?_,fun j hj=>?_⟩
   ·have:=hc' 0 (by omega)
    exact World.block_lt_of_cell? _ _ this
   ·rw [hc' j (by omega)]
    congr 2
    simp [List.getD,List.getElem?_take,hj]
section
variable {H:Type} {enc:TypeId×Value→H} {w:World} {base:Nat} {spare:Nat→Bool} {held:Bool}
end
end Pa
end Go.Proofs.YtjghelofdfolbaaDoor
