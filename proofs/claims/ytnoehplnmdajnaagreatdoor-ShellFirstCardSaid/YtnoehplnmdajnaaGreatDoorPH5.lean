/-
  Wanted: part 5.
  No condition.
-/
import Derived.Test.YtnoehplnmdajnaaGreatDoorPH4
import Derived.Shelf.LaysC
import Derived.Shelf.Strings.Builder1
import Derived.Shelf.Strings.BuilderF
import Derived.Shelf.Strings.BuilderK
import Derived.Shelf.Strings.OnBuilder
import Derived.Shelf.Strings.SplitShaped
import Derived.Shelf.Small.Strs
import Derived.Shelf.Small.Wraps
import Derived.Shelf.Strconv.Itoa3
import Derived.Shelf.Strconv.AtoiAll
import Derived.Shelf.Strconv.ErrVarAll
import Derived.Test.YtnoehplnmdajnaaGreatDoorProg
import Derived.Lib.OthersKept
import Derived.Lib.AppendIntMem
import Derived.Lib.ConvBytes
import Derived.Laws.Concat
import Derived.Test.YtnoehplnmdajnaaGreatDoorPH2
set_option linter.all false
namespace Go.Proofs.YtnoehplnmdajnaaGreatDoor
namespace Sw
open Go.RowKit Ba Mem En Go.Proofs.YtnoehplnmdajnaaGreatDoor.Ty Gw
open Co (Hold.ob)
open Sx
set_option maxRecDepth 100000
def strE:Ek (List UInt8):=⟨9,1,fun x=>[.string ⟨x.toArray⟩],fun _=>rfl,fun a u hu=>by rw [List.mem_singleton] at hu; subst hu; rfl⟩
def piece (s:List UInt8) (a i:Nat):List UInt8:=(s.drop a).take (i - a)
theorem piece_is (s:List UInt8) (a i:Nat):piece s a i=(s.take i).drop a:=by unfold piece; rw [List.drop_take]
theorem piece_len (s:List UInt8) (a i:Nat):(piece s a i).length≤s.length:=by unfold piece; rw [List.length_take,List.length_drop]; omega
theorem pvPc {X:Cx} {s:St} {o:Oper} {t:TypeId} {x lo hi:Operand} {k k':IntKind} {I J:Int} {xs:List UInt8} (i j:Nat) (ho:o.op=.slice t x (some lo) (some hi) none) (hx:evO x s.fr=some (tx xs)) (h1:evO lo s.fr=some (.i k I)) (h2:evO hi s.fr=some (.i k' J)) (hb:(I=(i:Int)∧J=(j:Int))∧i≤j∧j≤xs.length) (ht:X.P.underlying t=some .string):PV X o s (tx (piece xs i j)):=pvSl i j ho hx h1 h2 hb ht
structure CutI (s:List UInt8) (i a:Nat) (out:List (List UInt8)):Prop where
 n:out.length≤i
 le:i≤s.length+1
 go:i≤s.length→a≤i∧NoB 32 s a i∧spl s=out++spl (s.drop a)
 no:s.length < i→spl s=out
theorem CutI.z (s:List UInt8):CutI s 0 0 []:=⟨Nat.le_refl _,by omega,fun _=>⟨Nat.le_refl _,NoB.nil,rfl⟩,fun h=>by omega⟩
theorem CutI.blank {s:List UInt8} {i a:Nat} {out:List (List UInt8)} (h:CutI s i a out) (hc:s[i]?=some 32):CutI s (i+1) (i+1) (out++[piece s a i]):=by
 have hl:i < s.length:=(List.getElem?_eq_some_iff.1 hc).1
 obtain ⟨h1,h2,h3⟩:=h.go (by omega)
 refine ⟨by have:=h.n; rw [List.length_append]; simp; omega,by omega,fun _=>⟨Nat.le_refl _,NoB.nil, ?_⟩,fun h=>by omega⟩
 rw [h3,cut_b h1 h2 hc,piece_is,List.append_assoc]; rfl
theorem CutI.more {s:List UInt8} {i a:Nat} {out:List (List UInt8)} {c:UInt8} (h:CutI s i a out) (hc:s[i]?=some c) (hb:c≠32):CutI s (i+1) a out:=by
 have hl:i < s.length:=(List.getElem?_eq_some_iff.1 hc).1
 obtain ⟨h1,h2,h3⟩:=h.go (by omega)
 exact ⟨by have:=h.n; omega,by omega,fun _=>⟨by omega,h2.next h1 hc hb,h3⟩,fun h=>by omega⟩
theorem CutI.end_ {s:List UInt8} {i a:Nat} {out:List (List UInt8)} (h:CutI s i a out) (hi:i=s.length):CutI s (i+1) (i+1) (out++[piece s a i]):=by
 obtain ⟨h1,h2,h3⟩:=h.go (by omega)
 refine ⟨by have:=h.n; rw [List.length_append]; simp; omega,by omega,fun h=>by omega,fun _=>?_⟩
 subst hi
 rw [h3,cut_e h2,piece_is,List.take_length]
attribute [local irreducible] Go.Calls spl piece
set_option maxHeartbeats 4000000 in
theorem cutR (s:List UInt8) (hs:s.length≤900000) (w:World):Calls Tryz.prog 24 #[.string ⟨s.toArray⟩] w fun e w'=>∃ y:Option Addr×Nat,e=.returned (.slice y.1 (spl s).length y.2)∧strE.At w.heap.size y.1 (spl s).length y.2 (spl s) w'∧Since w w':=by
 refine entH tab_ok (Hold.addObj (Hold.nil _ tab [] _ w) (rwO strE w.heap.size none 0 0 [] true) (Ek.nil _ _ _) (by intro _ g hg; cases hg) (by intro r hr; cases hr) (by intro A hA; cases hA)) [tx s] Tryz.func24 Tryz.ntmps24 rfl rfl ?_
 repeat' ((conv=>whnf); first | refine sgo ⟨tab_ok⟩ ?_|refine br_not ?_|refine br_t rfl ?_|refine br_f rfl ?_|refine br_t (by assumption) ?_|refine br_f (by assumption) ?_|refine br_t (decide_eq_true (by assumption)) ?_|refine br_f (decide_eq_false (by assumption)) ?_|refine br_t (beq_iff_eq.2 (by assumption)) ?_|refine br_f (beq_eq_false_iff_ne.2 (by assumption)) ?_|refine br_t (decide_eq_true (by omega)) ?_|refine br_f (decide_eq_false (by omega)) ?_|refine fin_s ?_|refine fin_r ?_ ?_|refine fin_e ?_ ?_)
 conv=>whnf
 refine lp ⟨tab_ok⟩ (ι:={y:Nat×Nat×Option Addr×Nat×List (List UInt8) // CutI s y.1 y.2.1 y.2.2.2.2}) (fun y=>match y with | ⟨(i,a,B,cb,out),_⟩=>⟨[(0,tx s),(3,.v (.slice B out.length cb)),(4,.i .i64 (a:Int)),(5,.i .i64 (i:Int))],[],[rwO strE w.heap.size B out.length cb out true]⟩) (fun y=>s.length+1 - y.1.1) ⟨(0,0,none,0,[]),CutI.z s⟩ (wk ?_) ?_
 ·repeat' (first | exact trivial | rfl | ((conv=>whnf); refine And.intro ?_ ?_))
 rintro ⟨⟨i,a,B,cb,out⟩,hI⟩
 have hI:CutI s i a out:=hI
 have hn:=hI.n
 have hle:=hI.le
 by_cases hlt:i < s.length
 ·obtain ⟨c,hc⟩:∃ c,s[i]?=some c:=⟨_,List.getElem?_eq_getElem hlt⟩
  obtain ⟨ha,_,_⟩:=hI.go (by omega)
  by_cases h32:c=32
  ·subst h32
   repeat' ((conv=>whnf); first | refine sgo ⟨tab_ok⟩ ?_|refine br_not ?_|refine br_t rfl ?_|refine br_f rfl ?_|refine br_t (by assumption) ?_|refine br_f (by assumption) ?_|refine br_t (decide_eq_true (by assumption)) ?_|refine br_f (decide_eq_false (by assumption)) ?_|refine br_t (beq_iff_eq.2 (by assumption)) ?_|refine br_f (beq_eq_false_iff_ne.2 (by assumption)) ?_|refine drA ⟨tab_ok⟩ [] ?_|refine kpt ?_|refine br_t (decide_eq_true (by omega)) ?_|refine br_f (decide_eq_false (by omega)) ?_|refine wr_i ?_|refine br_ne (fun hx=>?_) (fun hx=>?_)|refine opP (pvLen (xs:=s) (by rfl) (by rfl) Tryz.underlying9) ?_|refine opP (pvIdx (xs:=s) (j:=i) (by rfl) (by rfl) (by rfl) rfl hc Tryz.underlying9) ?_|refine opP (pvPc (xs:=s) a i (by rfl) (by rfl) (by rfl) (by rfl) ⟨⟨rfl,rfl⟩,ha,by omega⟩ Tryz.underlying9) ?_|refine opbi (e:=9) ⟨tab_ok⟩ (tx (piece s a i)) (by rfl) (by rfl) ?_|intro gb | refine opap 0 0 (e:=9) (lo:=w.heap.size) (size:=1) (bytes:=16) (z:=.string ByteArray.empty) (A:=rwO strE w.heap.size B out.length cb out true) (vals:=rowsOf strE.c out) (cells:=[.string ⟨(piece s a i).toArray⟩]) (zs:=rowsOf strE.c (out++[piece s a i])) (n2:=(out++[piece s a i]).length) (fun A2 c2=>rwO strE w.heap.size A2 (out++[piece s a i]).length c2 (out++[piece s a i]) true) (by rfl) (by rfl) (by rfl) (by rfl) rfl rfl (fun w h=>h) (fun A' c' w h=>h) (fun _ _=>rfl) (by rfl) (by rfl) (by rfl) (by rfl) Tryz.underlying62 (by kernel_rfl) rfl (by decide) (by decide) (by intro u hu; simp at hu; rcases hu with rfl; rfl) (by omega) (fun w hH=>hH.upd.size) (by rw [List.length_append]; rfl) (by rw [rowsOf_append]; rfl) (fun A2 c2=>?_)|refine En.back ⟨(i+1,i+1,A2,c2,out++[piece s a i]),hI.blank hc⟩ (wkd ?_) ?_|refine fin_s ?_|refine fin_r ?_ ?_|refine fin_e ?_ ?_)
   all_goals first | (show s.length+1 - (i+1) < s.length+1 - i; omega)|skip
   all_goals (repeat' (first | exact trivial | rfl | ((conv=>whnf); refine And.intro ?_ ?_)))
  ·have hne:((c.toNat:Int) == 32)=false:=beq_eq_false_iff_ne.2 (fun h=>h32 (UInt8.toNat_inj.1 (by show c.toNat=32; omega)))
   repeat' ((conv=>whnf); first | refine sgo ⟨tab_ok⟩ ?_|refine br_not ?_|refine br_t rfl ?_|refine br_f rfl ?_|refine br_t (by assumption) ?_|refine br_f (by assumption) ?_|refine br_t (decide_eq_true (by assumption)) ?_|refine br_f (decide_eq_false (by assumption)) ?_|refine br_t (beq_iff_eq.2 (by assumption)) ?_|refine br_f (beq_eq_false_iff_ne.2 (by assumption)) ?_|refine drA ⟨tab_ok⟩ [] ?_|refine kpt ?_|refine br_t (decide_eq_true (by omega)) ?_|refine br_f (decide_eq_false (by omega)) ?_|refine wr_i ?_|refine br_f hne ?_|refine br_ne (fun hx=>?_) (fun hx=>?_)|refine opP (pvLen (xs:=s) (by rfl) (by rfl) Tryz.underlying9) ?_|refine opP (pvIdx (xs:=s) (j:=i) (by rfl) (by rfl) (by rfl) rfl hc Tryz.underlying9) ?_|refine En.back ⟨(i+1,a,B,cb,out),hI.more hc h32⟩ (wkd ?_) ?_|refine fin_s ?_|refine fin_r ?_ ?_|refine fin_e ?_ ?_)
   all_goals first | (show s.length+1 - (i+1) < s.length+1 - i; omega)|skip
   all_goals (repeat' (first | exact trivial | rfl | ((conv=>whnf); refine And.intro ?_ ?_)))
 ·by_cases he:i=s.length
  ·obtain ⟨ha,_,_⟩:=hI.go (by omega)
   repeat' ((conv=>whnf); first | refine sgo ⟨tab_ok⟩ ?_|refine br_not ?_|refine br_t rfl ?_|refine br_f rfl ?_|refine br_t (by assumption) ?_|refine br_f (by assumption) ?_|refine br_t (decide_eq_true (by assumption)) ?_|refine br_f (decide_eq_false (by assumption)) ?_|refine br_t (beq_iff_eq.2 (by assumption)) ?_|refine br_f (beq_eq_false_iff_ne.2 (by assumption)) ?_|refine drA ⟨tab_ok⟩ [] ?_|refine kpt ?_|refine br_t (decide_eq_true (by omega)) ?_|refine br_f (decide_eq_false (by omega)) ?_|refine wr_i ?_|refine br_ne (fun hx=>?_) (fun hx=>?_)|refine opP (pvLen (xs:=s) (by rfl) (by rfl) Tryz.underlying9) ?_|refine opP (pvPc (xs:=s) a i (by rfl) (by rfl) (by rfl) (by rfl) ⟨⟨rfl,rfl⟩,ha,by omega⟩ Tryz.underlying9) ?_|refine opbi (e:=9) ⟨tab_ok⟩ (tx (piece s a i)) (by rfl) (by rfl) ?_|intro gb | refine opap 0 0 (e:=9) (lo:=w.heap.size) (size:=1) (bytes:=16) (z:=.string ByteArray.empty) (A:=rwO strE w.heap.size B out.length cb out true) (vals:=rowsOf strE.c out) (cells:=[.string ⟨(piece s a i).toArray⟩]) (zs:=rowsOf strE.c (out++[piece s a i])) (n2:=(out++[piece s a i]).length) (fun A2 c2=>rwO strE w.heap.size A2 (out++[piece s a i]).length c2 (out++[piece s a i]) true) (by rfl) (by rfl) (by rfl) (by rfl) rfl rfl (fun w h=>h) (fun A' c' w h=>h) (fun _ _=>rfl) (by rfl) (by rfl) (by rfl) (by rfl) Tryz.underlying62 (by kernel_rfl) rfl (by decide) (by decide) (by intro u hu; simp at hu; rcases hu with rfl; rfl) (by omega) (fun w hH=>hH.upd.size) (by rw [List.length_append]; rfl) (by rw [rowsOf_append]; rfl) (fun A2 c2=>?_)|refine En.back ⟨(i+1,i+1,A2,c2,out++[piece s a i]),hI.end_ he⟩ (wkd ?_) ?_|refine fin_s ?_|refine fin_r ?_ ?_|refine fin_e ?_ ?_)
   all_goals first | (show s.length+1 - (i+1) < s.length+1 - i; omega)|skip
   all_goals (repeat' (first | exact trivial | rfl | ((conv=>whnf); refine And.intro ?_ ?_)))
  ·have e0:=hI.no (by omega)
   repeat' ((conv=>whnf); first | refine sgo ⟨tab_ok⟩ ?_|refine br_not ?_|refine br_t rfl ?_|refine br_f rfl ?_|refine br_t (by assumption) ?_|refine br_f (by assumption) ?_|refine br_t (decide_eq_true (by assumption)) ?_|refine br_f (decide_eq_false (by assumption)) ?_|refine br_t (beq_iff_eq.2 (by assumption)) ?_|refine br_f (beq_eq_false_iff_ne.2 (by assumption)) ?_|refine drA ⟨tab_ok⟩ [] ?_|refine kpt ?_|refine br_t (decide_eq_true (by omega)) ?_|refine br_f (decide_eq_false (by omega)) ?_|refine opP (pvLen (xs:=s) (by rfl) (by rfl) Tryz.underlying9) ?_|refine fin fun w' hH=>⟨(B,cb),by rw [e0]; rfl,by rw [e0]; exact Hold.ob hH (A:=rwO strE w.heap.size B out.length cb out true) 0 rfl,hH.upd.since⟩|refine fin_s ?_|refine fin_r ?_ ?_|refine fin_e ?_ ?_)
end Sw
namespace Sw
open Go.RowKit Ba Mem En Go.Proofs.YtnoehplnmdajnaaGreatDoor.Ty Gw
open Co (Hold.ob)
open Sx
set_option maxRecDepth 100000
theorem u64_wrap (n:Int):IntKind.u64.wrap n=n % 18446744073709551616:=by simp [IntKind.wrap,IntKind.bits,IntKind.signed]
theorem tl_eq (xs ys:List UInt8):((⟨xs.toArray⟩:ByteArray).toList == (⟨ys.toArray⟩:ByteArray).toList)=decide (xs=ys):=by
 rw [Lib.toList_data,Lib.toList_data]
 by_cases h:xs=ys
 ·subst h; simp
 ·simp [h]
theorem dgs_pos {l:List UInt8} {u:Nat} (h:dgs 0 l=some u) (hne:l≠[]) (h48:l.head?≠some 48):1≤u:=by
 cases l with
 | nil=>exact absurd rfl hne
 | cons c r =>
  unfold dgs at h
  split at h
  ·rename_i hc
   have h1:=dgs_ge r _ u h
   have:c.toNat≠48:=fun e=>h48 (by show some c=some 48; rw [show c=48 from UInt8.toNat_inj.1 e])
   omega
  ·cases h
def nuA (y:Option Int):Value:=match y with
 | some n=>.tuple #[.int .i64 n,.bool true]
 | none=>.tuple #[.int .i64 0,.bool false]
attribute [local irreducible] Go.Calls dgs
set_option maxHeartbeats 8000000 in
theorem numP {s:List UInt8} {c:UInt8} {r:List UInt8} (hs:s=c::r) (h45:c≠45) (hl:s.length≤1000000) (w:World):Calls Tryz.prog 25 #[.string ⟨s.toArray⟩] w fun e w'=>e=.returned (nuA (numR s))∧Since w w':=by
 have hc0:s[0]?=some c:=by rw [hs]; rfl
 have hlen:s.length=r.length+1:=by rw [hs]; rfl
 have hneg:negB s=false:=by rw [hs]; exact beq_eq_false_iff_ne.2 (fun h=>h45 (by injection h))
 have htl:tailB s=s:=by unfold tailB; rw [if_neg (by rw [hneg]; decide)]
 have hne45:((c.toNat:Int) == 45)=false:=beq_eq_false_iff_ne.2 (fun h=>h45 (UInt8.toNat_inj.1 (by show c.toNat=45; omega)))
 have htne:s≠[]:=by rw [hs]; simp
 have hhd:s.head?=some c:=by rw [hs]; rfl
 obtain ⟨q48,hs48⟩:∃ b,((⟨s.toArray⟩:ByteArray).toList == (⟨[48].toArray⟩:ByteArray).toList)=b:=⟨_,rfl⟩
 have hq48:q48=decide (s=[48]):=by rw [← hs48,tl_eq]
 by_cases h19:19 < s.length - 0
 ·have hno:numR s=none:=by unfold numR; rw [if_pos (.inr (.inl (by rw [htl]; omega)))]
  refine ent tab_ok [tx s] Tryz.func25 Tryz.ntmps25 rfl rfl ?_
  repeat' ((conv=>whnf); first | refine sgo ⟨tab_ok⟩ ?_|refine br_not ?_|refine br_t rfl ?_|refine br_f rfl ?_|refine br_t (by assumption) ?_|refine br_f (by assumption) ?_|refine br_t (decide_eq_true (by assumption)) ?_|refine br_f (decide_eq_false (by assumption)) ?_|refine br_t (beq_iff_eq.2 (by assumption)) ?_|refine br_f (beq_eq_false_iff_ne.2 (by assumption)) ?_|refine drA ⟨tab_ok⟩ [] ?_|refine kpt ?_|refine br_t (decide_eq_true (by omega)) ?_|refine br_f (decide_eq_false (by omega)) ?_|refine br_f hne45 ?_|refine wr_i ?_|refine opP (pvLen (xs:=s) (by rfl) (by rfl) Tryz.underlying9) ?_|refine opP (pvIdx (xs:=s) (j:=0) (by rfl) (by rfl) (by rfl) rfl hc0 Tryz.underlying9) ?_|refine fin_s ?_|refine fin_r ?_ ?_|refine fin_e ?_ ?_)
  all_goals (rw [hno]; rfl)
 by_cases h48:c=48∧s≠[48]
 ·have hno:numR s=none:=by unfold numR; rw [if_pos (.inr (.inr ⟨by rw [htl,hhd,h48.1],h48.2⟩))]
  obtain ⟨rfl,hs1⟩:=h48
  have hq:q48=false:=by rw [hq48]; exact decide_eq_false hs1
  refine ent tab_ok [tx s] Tryz.func25 Tryz.ntmps25 rfl rfl ?_
  repeat' ((conv=>whnf); first | refine sgo ⟨tab_ok⟩ ?_|refine br_not ?_|refine br_t rfl ?_|refine br_f rfl ?_|refine br_t (by assumption) ?_|refine br_f (by assumption) ?_|refine br_t (decide_eq_true (by assumption)) ?_|refine br_f (decide_eq_false (by assumption)) ?_|refine br_t (beq_iff_eq.2 (by assumption)) ?_|refine br_f (beq_eq_false_iff_ne.2 (by assumption)) ?_|refine drA ⟨tab_ok⟩ [] ?_|refine kpt ?_|refine br_t (decide_eq_true (by omega)) ?_|refine br_f (decide_eq_false (by omega)) ?_|refine br_f hne45 ?_|refine br_f hs48 ?_|refine br_t hs48 ?_|refine br_f (hs48.trans hq) ?_|refine br_t (beq_iff_eq.2 (by omega)) ?_|refine br_f (beq_eq_false_iff_ne.2 (by omega)) ?_|refine wr_i ?_|refine opP (pvLen (xs:=s) (by rfl) (by rfl) Tryz.underlying9) ?_|refine opP (pvIdx (xs:=s) (j:=0) (by rfl) (by rfl) (by rfl) rfl hc0 Tryz.underlying9) ?_|refine fin_s ?_|refine fin_r ?_ ?_|refine fin_e ?_ ?_)
  all_goals (rw [hno]; rfl)
 have hok:¬ (s=[]∨19 < (s).length∨((s).head?=some 48∧s≠[48])):=by
  rintro (h | h | ⟨h,h2⟩)
  ·exact htne h
  ·omega
  ·rw [hhd] at h; injection h with h; exact h48 ⟨h,h2⟩
 have hlt0:0≤s.length:=by omega
 have hz48:(c.toNat:Int)=48→s=[48]:=fun h=>Classical.byContradiction fun h2=>h48 ⟨UInt8.toNat_inj.1 (by show c.toNat=48; omega),h2⟩
 refine ent tab_ok [tx s] Tryz.func25 Tryz.ntmps25 rfl rfl ?_
 repeat' ((conv=>whnf); first | refine sgo ⟨tab_ok⟩ ?_|refine br_not ?_|refine br_t rfl ?_|refine br_f rfl ?_|refine br_t (by assumption) ?_|refine br_f (by assumption) ?_|refine br_t (decide_eq_true (by assumption)) ?_|refine br_f (decide_eq_false (by assumption)) ?_|refine br_t (beq_iff_eq.2 (by assumption)) ?_|refine br_f (beq_eq_false_iff_ne.2 (by assumption)) ?_|refine drA ⟨tab_ok⟩ [] ?_|refine kpt ?_|refine br_t (decide_eq_true (by omega)) ?_|refine br_f (decide_eq_false (by omega)) ?_|refine br_f hne45 ?_|refine br_t (hs48.trans (hq48.trans (decide_eq_true (hz48 (by omega))))) ?_|refine br_t (beq_iff_eq.2 (by omega)) ?_|refine br_f (beq_eq_false_iff_ne.2 (by omega)) ?_|refine wr_i ?_|refine opP (pvLen (xs:=s) (by rfl) (by rfl) Tryz.underlying9) ?_|refine opP (pvIdx (xs:=s) (j:=0) (by rfl) (by rfl) (by rfl) rfl hc0 Tryz.underlying9) ?_|refine br_eq (fun hx=>?_) (fun hx=>?_)|refine fin_s ?_|refine fin_r ?_ ?_|refine fin_e ?_ ?_)
 all_goals
  conv=>whnf
  refine lp ⟨tab_ok⟩ (ι:={y:Nat×Nat // (y.1≤s.length∧0≤y.1)∧dgs 0 (s)=dgs y.2 (s.drop y.1)∧y.2 < 10 ^ (y.1 - 0)}) (fun y=>match y with | ⟨(i,u),_⟩=>⟨[(0,tx s),(4,.i .i64 0),(5,.i .u64 9223372036854775807),(6,.i .u64 (u:Int)),(7,.i .i64 (i:Int))],[],[]⟩) (fun y=>s.length - y.1.1) ⟨(0,0),⟨by omega,Nat.le_refl _⟩,by first | rfl | (rw [htl]; done),by simp⟩ (wk ?_) ?_
  ·repeat' (first | exact trivial | rfl | ((conv=>whnf); refine And.intro ?_ ?_))
  rintro ⟨⟨i,u⟩,⟨hi,hfi⟩,hd,hu⟩
  have hi:i≤s.length:=hi
  have hfi:0≤i:=hfi
  have hd:dgs 0 (s)=dgs u (s.drop i):=hd
  have hu:u < 10 ^ (i - 0):=hu
  by_cases hlt:i < s.length
  ·obtain ⟨c2,hc2⟩:∃ c2,s[i]?=some c2:=⟨_,List.getElem?_eq_getElem hlt⟩
   have hst:=dgs_step (n:=u) hc2
   have hcl:=c2.toNat_lt
   by_cases hg:48≤c2.toNat∧c2.toNat≤57
   ·rw [if_pos hg] at hst
    have hu1:u < 1000000000000000000:=Nat.lt_of_lt_of_le hu (Nat.pow_le_pow_right (by decide) (by omega:i - 0≤18))
    have hp:=pow_step (d:=c2.toNat - 48) hu (by omega)
    have hp2:u*10+(c2.toNat - 48) < 10 ^ (i+1 - 0):=by rw [show i+1 - 0=i - 0+1 by omega]; exact hp
    repeat' ((conv=>whnf); first | refine sgo ⟨tab_ok⟩ ?_|refine br_not ?_|refine br_t rfl ?_|refine br_f rfl ?_|refine br_t (by assumption) ?_|refine br_f (by assumption) ?_|refine br_t (decide_eq_true (by assumption)) ?_|refine br_f (decide_eq_false (by assumption)) ?_|refine br_t (beq_iff_eq.2 (by assumption)) ?_|refine br_f (beq_eq_false_iff_ne.2 (by assumption)) ?_|refine drA ⟨tab_ok⟩ [] ?_|refine kpt ?_|refine br_t (decide_eq_true (by omega)) ?_|refine br_f (decide_eq_false (by omega)) ?_|refine wr_i ?_|refine opP (pvLen (xs:=s) (by rfl) (by rfl) Tryz.underlying9) ?_|refine opP (pvIdx (xs:=s) (j:=i) (by rfl) (by rfl) (by rfl) rfl hc2 Tryz.underlying9) ?_|refine wr (show IntKind.u64.wrap ((u:Int)*10)=((u*10:Nat):Int) by rw [u64_wrap]; omega) ?_|refine wr (show IntKind.u8.wrap ((c2.toNat:Int) - 48)=((c2.toNat - 48:Nat):Int) by rw [u8_wrap]; omega) ?_|refine wr (show IntKind.u64.wrap ((c2.toNat - 48:Nat):Int)=((c2.toNat - 48:Nat):Int) by rw [u64_wrap]; omega) ?_|refine wr (show IntKind.u64.wrap (((u*10:Nat):Int)+((c2.toNat - 48:Nat):Int))=((u*10+(c2.toNat - 48):Nat):Int) by rw [u64_wrap]; omega) ?_|refine En.back ⟨(i+1,u*10+(c2.toNat - 48)),⟨by show i+1≤s.length; omega,by show 0≤i+1; omega⟩,hd.trans hst,hp2⟩ (wk ?_) ?_|refine fin_s ?_|refine fin_r ?_ ?_|refine fin_e ?_ ?_)
    all_goals first | (show s.length - (i+1) < s.length - i; omega)|skip
    all_goals (repeat' (first | exact trivial | rfl | ((conv=>whnf); refine And.intro ?_ ?_)))
   ·rw [if_neg hg] at hst
    have hno:numR s=none:=by unfold numR; rw [htl,if_neg hok,hd,hst]
    repeat' ((conv=>whnf); first | refine sgo ⟨tab_ok⟩ ?_|refine br_not ?_|refine br_t rfl ?_|refine br_f rfl ?_|refine br_t (by assumption) ?_|refine br_f (by assumption) ?_|refine br_t (decide_eq_true (by assumption)) ?_|refine br_f (decide_eq_false (by assumption)) ?_|refine br_t (beq_iff_eq.2 (by assumption)) ?_|refine br_f (beq_eq_false_iff_ne.2 (by assumption)) ?_|refine drA ⟨tab_ok⟩ [] ?_|refine kpt ?_|refine br_t (decide_eq_true (by omega)) ?_|refine br_f (decide_eq_false (by omega)) ?_|refine wr_i ?_|refine br_dec (fun hq=>?_) (fun hq=>?_)|refine opP (pvLen (xs:=s) (by rfl) (by rfl) Tryz.underlying9) ?_|refine opP (pvIdx (xs:=s) (j:=i) (by rfl) (by rfl) (by rfl) rfl hc2 Tryz.underlying9) ?_|refine fin_s ?_|refine fin_r ?_ ?_|refine fin_e ?_ ?_)
    all_goals (rw [hno]; rfl)
  ·have hu1:u < 10000000000000000000:=Nat.lt_of_lt_of_le hu (Nat.pow_le_pow_right (by decide) (by omega:i - 0≤19))
   have hend:=dgs_end (s:=s) (n:=u) (show s.length≤i by omega)
   have hde:=hd.trans hend
   by_cases hm:9223372036854775807 < u
   ·have hno:numR s=none:=by unfold numR; rw [htl,if_neg hok,hde,hneg]; show (if _ then none else _)=_; rw [if_pos (by unfold mostN; simp; omega)]
    repeat' ((conv=>whnf); first | refine sgo ⟨tab_ok⟩ ?_|refine br_not ?_|refine br_t rfl ?_|refine br_f rfl ?_|refine br_t (by assumption) ?_|refine br_f (by assumption) ?_|refine br_t (decide_eq_true (by assumption)) ?_|refine br_f (decide_eq_false (by assumption)) ?_|refine br_t (beq_iff_eq.2 (by assumption)) ?_|refine br_f (beq_eq_false_iff_ne.2 (by assumption)) ?_|refine drA ⟨tab_ok⟩ [] ?_|refine kpt ?_|refine br_t (decide_eq_true (by omega)) ?_|refine br_f (decide_eq_false (by omega)) ?_|refine wr_i ?_|refine opP (pvLen (xs:=s) (by rfl) (by rfl) Tryz.underlying9) ?_|refine fin_s ?_|refine fin_r ?_ ?_|refine fin_e ?_ ?_)
    all_goals (rw [hno]; rfl)
   ·have hyes:numR s=some ((u:Int)):=by unfold numR; rw [htl,if_neg hok,hde,hneg]; show (if _ then none else _)=_; rw [if_neg (by unfold mostN; simp; omega)]; rfl
    repeat' ((conv=>whnf); first | refine sgo ⟨tab_ok⟩ ?_|refine br_not ?_|refine br_t rfl ?_|refine br_f rfl ?_|refine br_t (by assumption) ?_|refine br_f (by assumption) ?_|refine br_t (decide_eq_true (by assumption)) ?_|refine br_f (decide_eq_false (by assumption)) ?_|refine br_t (beq_iff_eq.2 (by assumption)) ?_|refine br_f (beq_eq_false_iff_ne.2 (by assumption)) ?_|refine drA ⟨tab_ok⟩ [] ?_|refine kpt ?_|refine br_t (decide_eq_true (by omega)) ?_|refine br_f (decide_eq_false (by omega)) ?_|refine wr (show IntKind.i64.wrap (u:Int)=(u:Int) from wr64 _ (by omega) (by omega)) ?_|refine wr_i ?_|refine opP (pvLen (xs:=s) (by rfl) (by rfl) Tryz.underlying9) ?_|refine fin_s ?_|refine fin_r ?_ ?_|refine fin_e ?_ ?_)
    all_goals (rw [hyes]; rfl)
set_option maxHeartbeats 8000000 in
theorem numN {s:List UInt8} {c:UInt8} {r:List UInt8} (hs:s=c::r) (h45:c=45) (hl:s.length≤1000000) (w:World):Calls Tryz.prog 25 #[.string ⟨s.toArray⟩] w fun e w'=>e=.returned (nuA (numR s))∧Since w w':=by
 subst h45
 have hc0:s[0]?=some 45:=by rw [hs]; rfl
 have hlen:s.length=r.length+1:=by rw [hs]; rfl
 have hneg:negB s=true:=by rw [hs]; rfl
 have htl:tailB s=s.drop 1:=by unfold tailB; rw [if_pos hneg]
 have h45n:((45:UInt8).toNat:Int)=45:=rfl
 by_cases hr:r=[]
 ·subst hr
  have hl1:s.length=1:=by rw [hs]; rfl
  have hno:numR s=none:=by unfold numR; rw [if_pos (.inl (by rw [htl,hs]; rfl))]
  refine ent tab_ok [tx s] Tryz.func25 Tryz.ntmps25 rfl rfl ?_
  repeat' ((conv=>whnf); first | refine sgo ⟨tab_ok⟩ ?_|refine br_not ?_|refine br_t rfl ?_|refine br_f rfl ?_|refine br_t (by assumption) ?_|refine br_f (by assumption) ?_|refine br_t (decide_eq_true (by assumption)) ?_|refine br_f (decide_eq_false (by assumption)) ?_|refine br_t (beq_iff_eq.2 (by assumption)) ?_|refine br_f (beq_eq_false_iff_ne.2 (by assumption)) ?_|refine drA ⟨tab_ok⟩ [] ?_|refine kpt ?_|refine br_t (decide_eq_true (by omega)) ?_|refine br_f (decide_eq_false (by omega)) ?_|refine wr_i ?_|refine br_t (beq_iff_eq.2 (by omega)) ?_|refine br_f (beq_eq_false_iff_ne.2 (by omega)) ?_|refine opP (pvLen (xs:=s) (by rfl) (by rfl) Tryz.underlying9) ?_|refine opP (pvIdx (xs:=s) (j:=0) (by rfl) (by rfl) (by rfl) rfl hc0 Tryz.underlying9) ?_|refine fin_s ?_|refine fin_r ?_ ?_|refine fin_e ?_ ?_)
  all_goals (rw [hno]; rfl)
 have htne:s.drop 1≠[]:=by rw [hs]; exact hr
 obtain ⟨c1,hc1⟩:∃ c1,s[1]?=some c1:=⟨_,List.getElem?_eq_getElem (by have:=List.length_pos_iff.2 hr; omega)⟩
 have hr1:=List.length_pos_iff.2 hr
 have hhd:(s.drop 1).head?=some c1:=by rw [List.head?_drop]; exact hc1
 have hs48:((⟨s.toArray⟩:ByteArray).toList == (⟨[48].toArray⟩:ByteArray).toList)=false:=by rw [tl_eq,hs]; exact decide_eq_false (by simp)
 by_cases h19:19 < s.length - 1
 ·have hno:numR s=none:=by unfold numR; rw [if_pos (.inr (.inl (by rw [htl]; rw [List.length_drop]; omega)))]
  refine ent tab_ok [tx s] Tryz.func25 Tryz.ntmps25 rfl rfl ?_
  repeat' ((conv=>whnf); first | refine sgo ⟨tab_ok⟩ ?_|refine br_not ?_|refine br_t rfl ?_|refine br_f rfl ?_|refine br_t (by assumption) ?_|refine br_f (by assumption) ?_|refine br_t (decide_eq_true (by assumption)) ?_|refine br_f (decide_eq_false (by assumption)) ?_|refine br_t (beq_iff_eq.2 (by assumption)) ?_|refine br_f (beq_eq_false_iff_ne.2 (by assumption)) ?_|refine drA ⟨tab_ok⟩ [] ?_|refine kpt ?_|refine br_t (decide_eq_true (by omega)) ?_|refine br_f (decide_eq_false (by omega)) ?_|refine br_t (beq_iff_eq.2 (by omega)) ?_|refine br_f (beq_eq_false_iff_ne.2 (by omega)) ?_|refine wr_i ?_|refine opP (pvLen (xs:=s) (by rfl) (by rfl) Tryz.underlying9) ?_|refine opP (pvIdx (xs:=s) (j:=0) (by rfl) (by rfl) (by rfl) rfl hc0 Tryz.underlying9) ?_|refine opP (pvIdx (xs:=s) (j:=1) (by rfl) (by rfl) (by rfl) rfl hc1 Tryz.underlying9) ?_|refine fin_s ?_|refine fin_r ?_ ?_|refine fin_e ?_ ?_)
  all_goals (rw [hno]; rfl)
 by_cases h48:c1=48∧s≠[48]
 ·have hno:numR s=none:=by unfold numR; rw [if_pos (.inr (.inr ⟨by rw [htl,hhd,h48.1],h48.2⟩))]
  obtain ⟨rfl,hs1⟩:=h48
  refine ent tab_ok [tx s] Tryz.func25 Tryz.ntmps25 rfl rfl ?_
  repeat' ((conv=>whnf); first | refine sgo ⟨tab_ok⟩ ?_|refine br_not ?_|refine br_t rfl ?_|refine br_f rfl ?_|refine br_t (by assumption) ?_|refine br_f (by assumption) ?_|refine br_t (decide_eq_true (by assumption)) ?_|refine br_f (decide_eq_false (by assumption)) ?_|refine br_t (beq_iff_eq.2 (by assumption)) ?_|refine br_f (beq_eq_false_iff_ne.2 (by assumption)) ?_|refine drA ⟨tab_ok⟩ [] ?_|refine kpt ?_|refine br_t (decide_eq_true (by omega)) ?_|refine br_f (decide_eq_false (by omega)) ?_|refine br_t (beq_iff_eq.2 (by omega)) ?_|refine br_f (beq_eq_false_iff_ne.2 (by omega)) ?_|refine br_f hs48 ?_|refine br_t hs48 ?_|refine br_f (hs48.trans rfl) ?_|refine br_t (beq_iff_eq.2 (by omega)) ?_|refine br_f (beq_eq_false_iff_ne.2 (by omega)) ?_|refine wr_i ?_|refine opP (pvLen (xs:=s) (by rfl) (by rfl) Tryz.underlying9) ?_|refine opP (pvIdx (xs:=s) (j:=0) (by rfl) (by rfl) (by rfl) rfl hc0 Tryz.underlying9) ?_|refine opP (pvIdx (xs:=s) (j:=1) (by rfl) (by rfl) (by rfl) rfl hc1 Tryz.underlying9) ?_|refine fin_s ?_|refine fin_r ?_ ?_|refine fin_e ?_ ?_)
  all_goals (rw [hno]; rfl)
 have hok:¬ (s.drop 1=[]∨19 < (s.drop 1).length∨((s.drop 1).head?=some 48∧s≠[48])):=by
  rintro (h | h | ⟨h,h2⟩)
  ·exact htne h
  ·rw [List.length_drop] at h; omega
  ·rw [hhd] at h; injection h with h; exact h48 ⟨h,h2⟩
 have hlt0:1≤s.length:=by omega
 have hn48:((c1.toNat:Int) == 48)=false:=beq_eq_false_iff_ne.2 (fun h=>h48 ⟨UInt8.toNat_inj.1 (by show c1.toNat=48; omega),by rw [hs]; simp⟩)
 refine ent tab_ok [tx s] Tryz.func25 Tryz.ntmps25 rfl rfl ?_
 repeat' ((conv=>whnf); first | refine sgo ⟨tab_ok⟩ ?_|refine br_not ?_|refine br_t rfl ?_|refine br_f rfl ?_|refine br_t (by assumption) ?_|refine br_f (by assumption) ?_|refine br_t (decide_eq_true (by assumption)) ?_|refine br_f (decide_eq_false (by assumption)) ?_|refine br_t (beq_iff_eq.2 (by assumption)) ?_|refine br_f (beq_eq_false_iff_ne.2 (by assumption)) ?_|refine drA ⟨tab_ok⟩ [] ?_|refine kpt ?_|refine br_t (decide_eq_true (by omega)) ?_|refine br_f (decide_eq_false (by omega)) ?_|refine br_t (beq_iff_eq.2 (by omega)) ?_|refine br_f (beq_eq_false_iff_ne.2 (by omega)) ?_|refine br_t (beq_iff_eq.2 (by omega)) ?_|refine br_f (beq_eq_false_iff_ne.2 (by omega)) ?_|refine br_f hs48 ?_|refine br_f hn48 ?_|refine wr_i ?_|refine opP (pvLen (xs:=s) (by rfl) (by rfl) Tryz.underlying9) ?_|refine opP (pvIdx (xs:=s) (j:=0) (by rfl) (by rfl) (by rfl) rfl hc0 Tryz.underlying9) ?_|refine opP (pvIdx (xs:=s) (j:=1) (by rfl) (by rfl) (by rfl) rfl hc1 Tryz.underlying9) ?_|refine br_eq (fun hx=>?_) (fun hx=>?_)|refine fin_s ?_|refine fin_r ?_ ?_|refine fin_e ?_ ?_)
 all_goals
  conv=>whnf
  refine lp ⟨tab_ok⟩ (ι:={y:Nat×Nat // (y.1≤s.length∧1≤y.1)∧dgs 0 (s.drop 1)=dgs y.2 (s.drop y.1)∧y.2 < 10 ^ (y.1 - 1)}) (fun y=>match y with | ⟨(i,u),_⟩=>⟨[(0,tx s),(4,.i .i64 1),(5,.i .u64 9223372036854775808),(6,.i .u64 (u:Int)),(7,.i .i64 (i:Int))],[],[]⟩) (fun y=>s.length - y.1.1) ⟨(1,0),⟨by omega,Nat.le_refl _⟩,by first | rfl | (rw [htl]; done),by simp⟩ (wk ?_) ?_
  ·repeat' (first | exact trivial | rfl | ((conv=>whnf); refine And.intro ?_ ?_))
  rintro ⟨⟨i,u⟩,⟨hi,hfi⟩,hd,hu⟩
  have hi:i≤s.length:=hi
  have hfi:1≤i:=hfi
  have hd:dgs 0 (s.drop 1)=dgs u (s.drop i):=hd
  have hu:u < 10 ^ (i - 1):=hu
  by_cases hlt:i < s.length
  ·obtain ⟨c2,hc2⟩:∃ c2,s[i]?=some c2:=⟨_,List.getElem?_eq_getElem hlt⟩
   have hst:=dgs_step (n:=u) hc2
   have hcl:=c2.toNat_lt
   by_cases hg:48≤c2.toNat∧c2.toNat≤57
   ·rw [if_pos hg] at hst
    have hu1:u < 1000000000000000000:=Nat.lt_of_lt_of_le hu (Nat.pow_le_pow_right (by decide) (by omega:i - 1≤18))
    have hp:=pow_step (d:=c2.toNat - 48) hu (by omega)
    have hp2:u*10+(c2.toNat - 48) < 10 ^ (i+1 - 1):=by rw [show i+1 - 1=i - 1+1 by omega]; exact hp
    repeat' ((conv=>whnf); first | refine sgo ⟨tab_ok⟩ ?_|refine br_not ?_|refine br_t rfl ?_|refine br_f rfl ?_|refine br_t (by assumption) ?_|refine br_f (by assumption) ?_|refine br_t (decide_eq_true (by assumption)) ?_|refine br_f (decide_eq_false (by assumption)) ?_|refine br_t (beq_iff_eq.2 (by assumption)) ?_|refine br_f (beq_eq_false_iff_ne.2 (by assumption)) ?_|refine drA ⟨tab_ok⟩ [] ?_|refine kpt ?_|refine br_t (decide_eq_true (by omega)) ?_|refine br_f (decide_eq_false (by omega)) ?_|refine wr_i ?_|refine opP (pvLen (xs:=s) (by rfl) (by rfl) Tryz.underlying9) ?_|refine opP (pvIdx (xs:=s) (j:=i) (by rfl) (by rfl) (by rfl) rfl hc2 Tryz.underlying9) ?_|refine wr (show IntKind.u64.wrap ((u:Int)*10)=((u*10:Nat):Int) by rw [u64_wrap]; omega) ?_|refine wr (show IntKind.u8.wrap ((c2.toNat:Int) - 48)=((c2.toNat - 48:Nat):Int) by rw [u8_wrap]; omega) ?_|refine wr (show IntKind.u64.wrap ((c2.toNat - 48:Nat):Int)=((c2.toNat - 48:Nat):Int) by rw [u64_wrap]; omega) ?_|refine wr (show IntKind.u64.wrap (((u*10:Nat):Int)+((c2.toNat - 48:Nat):Int))=((u*10+(c2.toNat - 48):Nat):Int) by rw [u64_wrap]; omega) ?_|refine En.back ⟨(i+1,u*10+(c2.toNat - 48)),⟨by show i+1≤s.length; omega,by show 1≤i+1; omega⟩,hd.trans hst,hp2⟩ (wk ?_) ?_|refine fin_s ?_|refine fin_r ?_ ?_|refine fin_e ?_ ?_)
    all_goals first | (show s.length - (i+1) < s.length - i; omega)|skip
    all_goals (repeat' (first | exact trivial | rfl | ((conv=>whnf); refine And.intro ?_ ?_)))
   ·rw [if_neg hg] at hst
    have hno:numR s=none:=by unfold numR; rw [htl,if_neg hok,hd,hst]
    repeat' ((conv=>whnf); first | refine sgo ⟨tab_ok⟩ ?_|refine br_not ?_|refine br_t rfl ?_|refine br_f rfl ?_|refine br_t (by assumption) ?_|refine br_f (by assumption) ?_|refine br_t (decide_eq_true (by assumption)) ?_|refine br_f (decide_eq_false (by assumption)) ?_|refine br_t (beq_iff_eq.2 (by assumption)) ?_|refine br_f (beq_eq_false_iff_ne.2 (by assumption)) ?_|refine drA ⟨tab_ok⟩ [] ?_|refine kpt ?_|refine br_t (decide_eq_true (by omega)) ?_|refine br_f (decide_eq_false (by omega)) ?_|refine wr_i ?_|refine br_dec (fun hq=>?_) (fun hq=>?_)|refine opP (pvLen (xs:=s) (by rfl) (by rfl) Tryz.underlying9) ?_|refine opP (pvIdx (xs:=s) (j:=i) (by rfl) (by rfl) (by rfl) rfl hc2 Tryz.underlying9) ?_|refine fin_s ?_|refine fin_r ?_ ?_|refine fin_e ?_ ?_)
    all_goals (rw [hno]; rfl)
  ·have hu1:u < 10000000000000000000:=Nat.lt_of_lt_of_le hu (Nat.pow_le_pow_right (by decide) (by omega:i - 1≤19))
   have hend:=dgs_end (s:=s) (n:=u) (show s.length≤i by omega)
   have hde:=hd.trans hend
   have hu0:1≤u:=dgs_pos hde htne (fun h=>hok (.inr (.inr ⟨h,by rw [hs]; simp⟩)))
   by_cases hm:9223372036854775808 < u
   ·have hno:numR s=none:=by unfold numR; rw [htl,if_neg hok,hde,hneg]; show (if _ then none else _)=_; rw [if_pos (by unfold mostN; simp; omega)]
    repeat' ((conv=>whnf); first | refine sgo ⟨tab_ok⟩ ?_|refine br_not ?_|refine br_t rfl ?_|refine br_f rfl ?_|refine br_t (by assumption) ?_|refine br_f (by assumption) ?_|refine br_t (decide_eq_true (by assumption)) ?_|refine br_f (decide_eq_false (by assumption)) ?_|refine br_t (beq_iff_eq.2 (by assumption)) ?_|refine br_f (beq_eq_false_iff_ne.2 (by assumption)) ?_|refine drA ⟨tab_ok⟩ [] ?_|refine kpt ?_|refine br_t (decide_eq_true (by omega)) ?_|refine br_f (decide_eq_false (by omega)) ?_|refine wr_i ?_|refine opP (pvLen (xs:=s) (by rfl) (by rfl) Tryz.underlying9) ?_|refine fin_s ?_|refine fin_r ?_ ?_|refine fin_e ?_ ?_)
    all_goals (rw [hno]; rfl)
   ·have hyes:numR s=some (-(u:Int)):=by unfold numR; rw [htl,if_neg hok,hde,hneg]; show (if _ then none else _)=_; rw [if_neg (by unfold mostN; simp; omega)]; rfl
    repeat' ((conv=>whnf); first | refine sgo ⟨tab_ok⟩ ?_|refine br_not ?_|refine br_t rfl ?_|refine br_f rfl ?_|refine br_t (by assumption) ?_|refine br_f (by assumption) ?_|refine br_t (decide_eq_true (by assumption)) ?_|refine br_f (decide_eq_false (by assumption)) ?_|refine br_t (beq_iff_eq.2 (by assumption)) ?_|refine br_f (beq_eq_false_iff_ne.2 (by assumption)) ?_|refine drA ⟨tab_ok⟩ [] ?_|refine kpt ?_|refine br_t (decide_eq_true (by omega)) ?_|refine br_f (decide_eq_false (by omega)) ?_|refine wr (show IntKind.u64.wrap ((u:Int) - 1)=((u - 1:Nat):Int) by rw [u64_wrap]; omega) ?_|refine wr (show IntKind.i64.wrap ((u - 1:Nat):Int)=((u - 1:Nat):Int) by exact wr64 _ (by omega) (by omega)) ?_|refine wr (show IntKind.i64.wrap (0 - ((u - 1:Nat):Int)) = -((u - 1:Nat):Int) by rw [Int.zero_sub]; exact wr64 _ (by omega) (by omega)) ?_|refine wr (show IntKind.i64.wrap (-((u - 1:Nat):Int) - 1) = -(u:Int) by rw [show -((u - 1:Nat):Int) - 1 = -(u:Int) by omega]; exact wr64 _ (by omega) (by omega)) ?_|refine wr_i ?_|refine opP (pvLen (xs:=s) (by rfl) (by rfl) Tryz.underlying9) ?_|refine fin_s ?_|refine fin_r ?_ ?_|refine fin_e ?_ ?_)
    all_goals (rw [hyes]; rfl)
end Sw
namespace Sw
open Go.RowKit Ba Mem En Go.Proofs.YtnoehplnmdajnaaGreatDoor.Ty Gw
open Byt (BV isB)
open Co (Hold.ob)
open Sx
set_option maxRecDepth 100000
def hexI (zs:List Int):List UInt8:=hexL (zs.map Int.toNat)
theorem hexI_len (zs:List Int):(hexI zs).length=2*zs.length:=by unfold hexI; rw [hexL_len,List.length_map]
theorem hexI_0 (zs:List Int):hexI (zs.take 0)=[]:=by unfold hexI; simp [hexL]
theorem dig_1 {k:Nat} (h:k < 16):(dig16.drop k).take (k+1 - k)=[hxd k]:=by
 have:=hd_dig' h
 rw [drop_at this]
 have e:k+1 - k=1:=by omega
 rw [e]; rfl
theorem hex_next {zs:List Int} {i k:Nat} (h:zs[i]?=some (k:Int)):hexI (zs.take (i+1))=hexI (zs.take i)++[hxd (k / 16)]++[hxd (k % 16)]:=by
 unfold hexI
 rw [List.take_add_one,h,List.map_append]
 show hexL (_++[((k:Int)).toNat])=_
 rw [Int.toNat_natCast,hexL_add,List.append_assoc]; rfl
section
variable {X:Cx} {s:St} {o:Oper} {t:TypeId} {lo hi:Operand} {k:Nat} {I J:Int} {kk kk2:IntKind}
theorem pvDg (hk:k < 16) (ho:o.op=.slice t (.const (.string ⟨dig16.toArray⟩)) (some lo) (some hi) none) (h1:evO lo s.fr=some (.i kk I)) (h2:evO hi s.fr=some (.i kk2 J)) (hI:I=(k:Int)) (hJ:J=((k+1:Nat):Int)) (ht:X.P.underlying t=some .string):PV X o s (tx [hxd k]):=by
 have:=pvSl (X:=X) (s:=s) (xs:=dig16) k (k+1) ho rfl h1 h2 ⟨⟨hI,hJ⟩,by omega,by show k+1≤16; omega⟩ ht
 rw [dig_1 hk] at this
 exact this
end
theorem q16 {k:Nat} (h:k < 256):IntKind.u8.wrap ((k:Int).tdiv 16)=((k / 16:Nat):Int):=by
 have e:(k:Int).tdiv 16=((k / 16:Nat):Int):=rfl
 rw [e,u8_wrap]; omega
theorem a16 {k:Nat} (h:k < 16):IntKind.u8.wrap ((k:Int)+1)=((k+1:Nat):Int):=by rw [u8_wrap]; omega
attribute [local irreducible] Go.Calls hexI
set_option maxHeartbeats 4000000 in
theorem hexR {A:Option Addr} {n c:Nat} {zs:List Int} {w:World} (h:BV w A n zs) (hn:n≤1000000):Calls Tryz.prog 39 #[.slice A n c] w fun e w'=>e=.returned (.string ⟨(hexI zs).toArray⟩)∧Since w w':=by
 have hl:=h.1
 have hb:=h.2.2.1
 obtain ⟨g,off,hA⟩:∃ g off,0 < n→A=some ⟨g,off,none⟩:=by
  rcases Nat.eq_zero_or_pos n with h0 | h0
  ·exact ⟨0,0,fun h=>by omega⟩
  ·obtain ⟨b,o,e,_⟩:=h.addr (by omega)
   exact ⟨b,o,fun _=>e⟩
 refine entH tab_ok (hold_bv h) [.v (.slice A n c)] Tryz.func39 Tryz.ntmps39 rfl rfl ?_
 repeat' ((conv=>whnf); first | refine sgo ⟨tab_ok⟩ ?_|refine br_not ?_|refine br_t rfl ?_|refine br_f rfl ?_|refine br_t (by assumption) ?_|refine br_f (by assumption) ?_|refine br_t (decide_eq_true (by assumption)) ?_|refine br_f (decide_eq_false (by assumption)) ?_|refine br_t (beq_iff_eq.2 (by assumption)) ?_|refine br_f (beq_eq_false_iff_ne.2 (by assumption)) ?_|refine br_t (decide_eq_true (by omega)) ?_|refine br_f (decide_eq_false (by omega)) ?_|refine fin_s ?_|refine fin_r ?_ ?_|refine fin_e ?_ ?_)
 conv=>whnf
 refine lp ⟨tab_ok⟩ (ι:={y:Nat×List UInt8 // y.1≤n∧y.2=hexI (zs.take y.1)}) (fun y=>match y with | ⟨(i,x),_⟩=>⟨[(0,.v (.slice A n c)),(3,tx x),(4,.i .i64 (i:Int))],[],[bvO A n zs]⟩) (fun y=>n - y.1.1) ⟨(0,[]),Nat.zero_le _,(hexI_0 zs).symm⟩ (wk ?_) ?_
 ·repeat' (first | exact trivial | rfl | ((conv=>whnf); refine And.intro ?_ ?_))
 rintro ⟨⟨i,x⟩,hi,hx⟩
 have hi:i≤n:=hi
 have hx:x=hexI (zs.take i):=hx
 by_cases hlt:i < n
 ·obtain ⟨z,hz⟩:∃ z,zs[i]?=some z:=⟨_,List.getElem?_eq_getElem (by omega)⟩
  have hzb:isB z:=hb z (List.mem_of_getElem? hz)
  unfold isB at hzb
  obtain ⟨k,rfl⟩:∃ k:Nat,z=(k:Int):=⟨z.toNat,by omega⟩
  have hk:k < 256:=by omega
  have hA:=hA (by omega)
  subst hA
  have hnx:=hex_next hz
  rw [← hx] at hnx
  have hzd:zs.getD i 0=(k:Int):=by rw [List.getD_eq_getElem?_getD,hz]; rfl
  have hlen:x.length≤2000000:=by rw [hx,hexI_len,List.length_take]; omega
  repeat' ((conv=>whnf); first | refine sgo ⟨tab_ok⟩ ?_|refine br_not ?_|refine br_t rfl ?_|refine br_f rfl ?_|refine br_t (by assumption) ?_|refine br_f (by assumption) ?_|refine br_t (decide_eq_true (by assumption)) ?_|refine br_f (decide_eq_false (by assumption)) ?_|refine br_t (beq_iff_eq.2 (by assumption)) ?_|refine br_f (beq_eq_false_iff_ne.2 (by assumption)) ?_|refine drQ (id:=5) ⟨tab_ok⟩ ?_|refine drA ⟨tab_ok⟩ [] ?_|refine kpt ?_|refine br_t (decide_eq_true (by omega)) ?_|refine br_f (decide_eq_false (by omega)) ?_|refine cd (by first | decide | omega) ?_|refine wr (q16 hk) ?_|refine wr r16 ?_|refine wr (a16 (k:=k / 16) (by omega)) ?_|refine wr (a16 (k:=k % 16) (by omega)) ?_|refine wr_i ?_|refine quP (puiv ⟨tab_ok⟩ (by rfl) (by rfl) (by rfl) (by rfl) (by rfl) (by rfl) ⟨by omega,by omega⟩ ?_)|refine quxc (g:=g) (off:=off+i) (.i .u8 (k:Int)) (fun w1 hH=>bv_rng (Hold.ob hH (A:=bvO (some ⟨g,off,none⟩) n zs) 0 rfl) hlt hzd) ⟨tab_ok⟩ (by rfl) (by rfl) (by first | (simp only [Go.WideShapes.add_plain]; done)|(simp only [Go.WideShapes.add_plain]; rfl)|(simp [Go.WideShapes.add_plain]; done)) ?_|refine quP (puP (pvDg (k:=k / 16) (by omega) (by rfl) (by rfl) (by rfl) rfl rfl Tryz.underlying9) ?_)|refine quP (puP (pvDg (k:=k % 16) (by omega) (by rfl) (by rfl) (by rfl) rfl rfl Tryz.underlying9) ?_)|refine quP (puP (pvCat (xs:=x) (ys:=[hxd (k / 16)]) (by rfl) (by rfl) (by rfl) ⟨by omega,by show 0+1≤8388608; omega⟩) ?_)|refine quP (puP (pvCat (xs:=x++[hxd (k / 16)]) (ys:=[hxd (k % 16)]) (by rfl) (by rfl) (by rfl) ⟨by rw [List.length_append]; show _+(0+1)≤8388608; omega,by show 0+1≤8388608; omega⟩) ?_)|refine En.back ⟨(i+1,x++[hxd (k / 16)]++[hxd (k % 16)]),by show i+1≤n; omega,hnx.symm⟩ (wk ?_) ?_|refine fin_s ?_|refine fin_r ?_ ?_|refine fin_e ?_ ?_)
  all_goals first | (show n - (i+1) < n - i; omega)|skip
  all_goals (repeat' (first | exact trivial | rfl | ((conv=>whnf); refine And.intro ?_ ?_)))
 ·have e0:i=n:=by omega
  subst e0
  have e1:zs.take i=zs:=by rw [← hl]; exact List.take_length
  repeat' ((conv=>whnf); first | refine sgo ⟨tab_ok⟩ ?_|refine br_not ?_|refine br_t rfl ?_|refine br_f rfl ?_|refine br_t (by assumption) ?_|refine br_f (by assumption) ?_|refine br_t (decide_eq_true (by assumption)) ?_|refine br_f (decide_eq_false (by assumption)) ?_|refine br_t (beq_iff_eq.2 (by assumption)) ?_|refine br_f (beq_eq_false_iff_ne.2 (by assumption)) ?_|refine drA ⟨tab_ok⟩ [] ?_|refine kpt ?_|refine br_t (decide_eq_true (by omega)) ?_|refine br_f (decide_eq_false (by omega)) ?_|refine fin_s ?_|refine fin_r ?_ ?_|refine fin_e ?_ ?_)
  all_goals (rw [hx,e1]; rfl)
def dgR (c:UInt8):Int:=match hx c with
 | some d=>(d:Int)
 | none => -1
theorem no_next {k:Nat} {c d:UInt8} (hd:dig16[k]?=some d) (e:¬ d=c) (hno:∀ j,j < k→dig16[j]?≠some c) (j:Nat) (hj:j < k+1) (h:dig16[j]?=some c):False:=by
 rcases Nat.lt_or_ge j k with h1 | h1
 ·exact hno j h1 h
 ·have:j=k:=by omega
  subst this
  rw [hd] at h
  injection h with h
  exact e h
theorem digitR (c:UInt8) (w:World):Calls Tryz.prog 40 #[.int .u8 (c.toNat:Int)] w fun e w'=>e=.returned (.int .i64 (dgR c))∧Since w w':=by
 refine ent tab_ok [.i .u8 (c.toNat:Int)] Tryz.func40 Tryz.ntmps40 rfl rfl ?_
 repeat' ((conv=>whnf); first | refine sgo ⟨tab_ok⟩ ?_|refine br_not ?_|refine br_t rfl ?_|refine br_f rfl ?_|refine br_t (by assumption) ?_|refine br_f (by assumption) ?_|refine br_t (decide_eq_true (by assumption)) ?_|refine br_f (decide_eq_false (by assumption)) ?_|refine br_t (beq_iff_eq.2 (by assumption)) ?_|refine br_f (beq_eq_false_iff_ne.2 (by assumption)) ?_|refine br_t (decide_eq_true (by omega)) ?_|refine br_f (decide_eq_false (by omega)) ?_|refine fin_s ?_|refine fin_r ?_ ?_|refine fin_e ?_ ?_)
 conv=>whnf
 refine lp ⟨tab_ok⟩ (ι:={k:Nat // k≤16∧∀ j,j < k→dig16[j]?≠some c}) (fun y=>match y with | ⟨k,_⟩=>⟨[(0,.i .u8 (c.toNat:Int)),(3,.i .i64 (k:Int))],[],[]⟩) (fun y=>16 - y.1) ⟨0,by omega,fun j hj=>by omega⟩ (wk ?_) ?_
 ·repeat' (first | exact trivial | rfl | ((conv=>whnf); refine And.intro ?_ ?_))
 rintro ⟨k,hk,hno⟩
 by_cases hlt:k < 16
 ·obtain ⟨d,hd⟩:∃ d,dig16[k]?=some d:=⟨_,List.getElem?_eq_getElem (show k < 16 from hlt)⟩
  by_cases e:d=c
  ·subst e
   have e1:dgR d=(k:Int):=by unfold dgR; rw [hx_at' hd]
   repeat' ((conv=>whnf); first | refine sgo ⟨tab_ok⟩ ?_|refine br_not ?_|refine br_t rfl ?_|refine br_f rfl ?_|refine br_t (by assumption) ?_|refine br_f (by assumption) ?_|refine br_t (decide_eq_true (by assumption)) ?_|refine br_f (decide_eq_false (by assumption)) ?_|refine br_t (beq_iff_eq.2 (by assumption)) ?_|refine br_f (beq_eq_false_iff_ne.2 (by assumption)) ?_|refine drA ⟨tab_ok⟩ [] ?_|refine kpt ?_|refine br_t (decide_eq_true (by omega)) ?_|refine br_f (decide_eq_false (by omega)) ?_|refine opP (pvIdx (xs:=dig16) (j:=k) (by rfl) (by rfl) (by rfl) rfl hd Tryz.underlying9) ?_|refine br_t (beq_iff_eq.2 rfl) ?_|refine fin_s ?_|refine fin_r ?_ ?_|refine fin_e ?_ ?_)
   all_goals (rw [e1]; rfl)
  ·have hne:((d.toNat:Int) == (c.toNat:Int))=false:=beq_eq_false_iff_ne.2 (fun h=>e (UInt8.toNat_inj.1 (by omega)))
   repeat' ((conv=>whnf); first | refine sgo ⟨tab_ok⟩ ?_|refine br_not ?_|refine br_t rfl ?_|refine br_f rfl ?_|refine br_t (by assumption) ?_|refine br_f (by assumption) ?_|refine br_t (decide_eq_true (by assumption)) ?_|refine br_f (decide_eq_false (by assumption)) ?_|refine br_t (beq_iff_eq.2 (by assumption)) ?_|refine br_f (beq_eq_false_iff_ne.2 (by assumption)) ?_|refine drA ⟨tab_ok⟩ [] ?_|refine kpt ?_|refine br_t (decide_eq_true (by omega)) ?_|refine br_f (decide_eq_false (by omega)) ?_|refine opP (pvIdx (xs:=dig16) (j:=k) (by rfl) (by rfl) (by rfl) rfl hd Tryz.underlying9) ?_|refine br_f hne ?_|refine wr_i ?_|refine En.back ⟨k+1,by show k+1≤16; omega,fun j hj h=>no_next hd e hno j hj h⟩ (wk ?_) ?_|refine fin_s ?_|refine fin_r ?_ ?_|refine fin_e ?_ ?_)
   all_goals first | (show 16 - (k+1) < 16 - k; omega)|skip
   all_goals (repeat' (first | exact trivial | rfl | ((conv=>whnf); refine And.intro ?_ ?_)))
 ·have e1:dgR c = -1:=by unfold dgR; rw [hx_none (fun j hj=>hno j (by omega))]
  repeat' ((conv=>whnf); first | refine sgo ⟨tab_ok⟩ ?_|refine br_not ?_|refine br_t rfl ?_|refine br_f rfl ?_|refine br_t (by assumption) ?_|refine br_f (by assumption) ?_|refine br_t (decide_eq_true (by assumption)) ?_|refine br_f (decide_eq_false (by assumption)) ?_|refine br_t (beq_iff_eq.2 (by assumption)) ?_|refine br_f (beq_eq_false_iff_ne.2 (by assumption)) ?_|refine drA ⟨tab_ok⟩ [] ?_|refine kpt ?_|refine br_t (decide_eq_true (by omega)) ?_|refine br_f (decide_eq_false (by omega)) ?_|refine fin_s ?_|refine fin_r ?_ ?_|refine fin_e ?_ ?_)
  all_goals (rw [e1]; rfl)
end Sw
namespace Sw
open Go.RowKit Ba Mem En Go.Proofs.YtnoehplnmdajnaaGreatDoor.Ty Gw
open Co (Hold.ob)
open Sx
set_option maxRecDepth 100000
attribute [local irreducible] Go.Calls
theorem numberR (s:List UInt8) (hl:s.length≤1000000) (w:World):Calls Tryz.prog 25 #[.string ⟨s.toArray⟩] w fun e w'=>e=.returned (nuA (numR s))∧Since w w':=by
 cases s with
 | nil =>
  have hno:numR []=none:=rfl
  refine ent tab_ok [tx []] Tryz.func25 Tryz.ntmps25 rfl rfl ?_
  repeat' ((conv=>whnf); first | refine sgo ⟨tab_ok⟩ ?_|refine br_not ?_|refine br_t rfl ?_|refine br_f rfl ?_|refine br_t (by assumption) ?_|refine br_f (by assumption) ?_|refine br_t (decide_eq_true (by assumption)) ?_|refine br_f (decide_eq_false (by assumption)) ?_|refine br_t (beq_iff_eq.2 (by assumption)) ?_|refine br_f (beq_eq_false_iff_ne.2 (by assumption)) ?_|refine drA ⟨tab_ok⟩ [] ?_|refine kpt ?_|refine br_t (decide_eq_true (by omega)) ?_|refine br_f (decide_eq_false (by omega)) ?_|refine opP (pvLen (xs:=[]) (by rfl) (by rfl) Tryz.underlying9) ?_|refine wr_i ?_|refine fin_s ?_|refine fin_r ?_ ?_|refine fin_e ?_ ?_)
  all_goals (rw [hno]; rfl)
 | cons c r =>
  by_cases h:c=45
  ·exact numN rfl h hl w
  ·exact numP rfl h hl w
def lD (y:Option (List Nat)):List Nat:=match y with
 | some l=>l
 | none=>[]
def zsN (l:List Nat):List Int:=l.map Int.ofNat
theorem zsN_len (l:List Nat):(zsN l).length=l.length:=by simp [zsN]
theorem zsN_add (l:List Nat) (x:Nat):zsN (l++[x])=zsN l++[(x:Int)]:=by simp [zsN]
theorem dg_some {c:UInt8} {d:Nat} (h:hx c=some d):dgR c=(d:Int):=by unfold dgR; rw [h]
theorem dg_none {c:UInt8} (h:hx c=none):dgR c = -1:=by unfold dgR; rw [h]
structure ByI (s:List UInt8) (i:Nat) (out:List Nat):Prop where
 n:2*out.length+1=i
 le:i≤s.length
 v:hexV (s.drop 1)=(hexV (s.drop i)).map fun l=>out++l
theorem ByI.z {s:List UInt8} (h:1≤s.length):ByI s 1 []:=⟨rfl,h,by cases hexV (s.drop 1) <;> rfl⟩
theorem ByI.more {s:List UInt8} {i x y:Nat} {out:List Nat} {a b:UInt8} (h:ByI s i out) (ha:s[i]?=some a) (hb:s[i+1]?=some b) (h1:hx a=some x) (h2:hx b=some y):ByI s (i+2) (out++[x*16+y]):=by
 have hl:i+1 < s.length:=(List.getElem?_eq_some_iff.1 hb).1
 refine ⟨by have:=h.n; rw [List.length_append]; simp; omega,by omega, ?_⟩
 rw [h.v,hex_step ha hb h1 h2]
 cases hexV (s.drop (i+2)) with
 | none=>rfl
 | some l=>simp
theorem ByI.bad {s:List UInt8} {i:Nat} {out:List Nat} {a b:UInt8} (h:ByI s i out) (ha:s[i]?=some a) (hb:s[i+1]?=some b) (h1:hx a=none∨hx b=none):hexV (s.drop 1)=none:=by
 rw [h.v,hex_bad ha hb h1]; rfl
theorem ByI.end_ {s:List UInt8} {i:Nat} {out:List Nat} (h:ByI s i out) (hi:s.length≤i):hexV (s.drop 1)=some out:=by
 rw [h.v,hex_end hi]; simp
theorem dat_no {s:List UInt8} (h:s.length % 2≠1∨s.head?≠some 120):datV s=none:=by
 rw [datV_is]
 by_cases h0:s.head?=some 120
 ·rw [if_pos h0,hexV_digs]
  have hl:(s.drop 1).length=s.length - 1:=List.length_drop
  have h1:s.length≠0:=fun e=>by rw [List.length_eq_zero_iff.1 e] at h0; cases h0
  refine if_neg fun e=>?_
  rw [hl] at e
  rcases h with h | h
  ·omega
  ·exact h h0
 ·exact if_neg h0
theorem b16 {x y:Nat} (hx:x < 16) (hy:y < 16):IntKind.i64.wrap ((x:Int)*16)=((x*16:Nat):Int)∧IntKind.i64.wrap (((x*16:Nat):Int)+(y:Int))=((x*16+y:Nat):Int)∧IntKind.u8.wrap ((x*16+y:Nat):Int)=((x*16+y:Nat):Int) :=
 ⟨by rw [show (x:Int)*16=((x*16:Nat):Int) by omega]; exact wr64 _ (by omega) (by omega),by rw [show ((x*16:Nat):Int)+(y:Int)=((x*16+y:Nat):Int) by omega]; exact wr64 _ (by omega) (by omega),by rw [u8_wrap]; omega⟩
attribute [local irreducible] hexV dgR zsN
def byP (w:World) (y:Option (List Nat)) (e:Ending) (w':World):Prop:=∃ z:Option Addr×Nat,e=.returned (.tuple #[.slice z.1 (lD y).length z.2,.bool y.isSome])∧byteE.At w.heap.size z.1 (lD y).length z.2 (zsN (lD y)) w'∧Since w w'
theorem byP_no {w w':World} {e:Ending} {y:Option (List Nat)} (hy:y=none) (he:e=.returned (.tuple #[.slice none 0 0,.bool false])) (hs:Since w w'):byP w y e w':=by
 subst hy
 exact ⟨(none,0),he,by unfold zsN; exact Ek.nil _ _ _,hs⟩
theorem zsN_0:zsN []=[]:=by unfold zsN; rfl
theorem by_yes {w w':World} {e:Ending} {y:Option (List Nat)} {out:List Nat} {zs:List Int} {B:Option Addr} {cb:Nat} (hy:y=some out) (hz:zs=zsN out) (h:(rwO byteE w.heap.size B zs.length cb zs true).st w') (he:e=.returned (.tuple #[.slice B zs.length cb,.bool true])) (hs:Since w w'):byP w y e w':=by
 subst hy hz
 rw [zsN_len] at he h
 exact ⟨(B,cb),he,h,hs⟩
set_option maxHeartbeats 8000000 in
theorem bytesR (s:List UInt8) (hl:s.length≤1000000) (w:World):Calls Tryz.prog 27 #[.string ⟨s.toArray⟩] w (byP w (datV s)):=by
 by_cases hodd:s.length % 2=1
 ·obtain ⟨c,hc⟩:∃ c,s[0]?=some c:=⟨_,List.getElem?_eq_getElem (by omega)⟩
  have hhd:s.head?=some c:=by rw [List.head?_eq_getElem?]; exact hc
  have hm:(s.length:Int).tmod 2=1:=by
   have e:(s.length:Int).tmod 2=((s.length % 2:Nat):Int):=rfl
   rw [e,hodd]; rfl
  by_cases h120:c=120
  ·subst h120
   have hv:datV s=hexV (s.drop 1):=by rw [datV_is,if_pos hhd]
   rw [hv]
   refine entH tab_ok (Hold.addObj (Hold.nil _ tab [] _ w) (rwO byteE w.heap.size none 0 0 [] true) (Ek.nil _ _ _) (by intro _ g hg; cases hg) (by intro r hr; cases hr) (by intro A hA; cases hA)) [tx s] Tryz.func27 Tryz.ntmps27 rfl rfl ?_
   repeat' ((conv=>whnf); first | refine sgo ⟨tab_ok⟩ ?_|refine br_not ?_|refine br_t rfl ?_|refine br_f rfl ?_|refine br_t (by assumption) ?_|refine br_f (by assumption) ?_|refine br_t (decide_eq_true (by assumption)) ?_|refine br_f (decide_eq_false (by assumption)) ?_|refine br_t (beq_iff_eq.2 (by assumption)) ?_|refine br_f (beq_eq_false_iff_ne.2 (by assumption)) ?_|refine drA ⟨tab_ok⟩ [] ?_|refine kpt ?_|refine br_t (decide_eq_true (by omega)) ?_|refine br_f (decide_eq_false (by omega)) ?_|refine cd (by first | decide | omega) ?_|refine wr (show IntKind.i64.wrap ((s.length:Int).tmod 2)=1 by rw [hm]; rfl) ?_|refine opP (pvLen (xs:=s) (by rfl) (by rfl) Tryz.underlying9) ?_|refine opP (pvIdx (xs:=s) (j:=0) (by rfl) (by rfl) (by rfl) rfl hc Tryz.underlying9) ?_|refine fin_s ?_|refine fin_r ?_ ?_|refine fin_e ?_ ?_)
   conv=>whnf
   refine lp ⟨tab_ok⟩ (ι:={y:Nat×Option Addr×Nat×List Int // ∃ out,ByI s y.1 out∧y.2.2.2=zsN out}) (fun y=>match y with | ⟨(i,B,cb,zs),_⟩=>⟨[(0,tx s),(4,.v (.slice B zs.length cb)),(5,.i .i64 (i:Int))],[],[rwO byteE w.heap.size B zs.length cb zs true]⟩) (fun y=>s.length - y.1.1) ⟨(1,none,0,[]),[],ByI.z (by omega),zsN_0.symm⟩ (wk ?_) ?_
   ·repeat' (first | exact trivial | rfl | ((conv=>whnf); refine And.intro ?_ ?_))
   rintro ⟨⟨i,B,cb,zs⟩,out,hI,hzs⟩
   have hI:ByI s i out:=hI
   have hzs:zs=zsN out:=hzs
   have hin:=hI.n
   have hle:=hI.le
   have hzl:zs.length=out.length:=by rw [hzs,zsN_len]
   by_cases hlt:i < s.length
   ·obtain ⟨a,ha⟩:∃ a,s[i]?=some a:=⟨_,List.getElem?_eq_getElem hlt⟩
    obtain ⟨b,hb⟩:∃ b,s[i+1]?=some b:=⟨_,List.getElem?_eq_getElem (by omega)⟩
    obtain ⟨va,hva⟩:∃ v,dgR a=v:=⟨_,rfl⟩
    obtain ⟨vb,hvb⟩:∃ v,dgR b=v:=⟨_,rfl⟩
    have ca:∀ w,Calls Tryz.prog 40 #[.int .u8 (a.toNat:Int)] w fun e w'=>e=.returned (.int .i64 va)∧Since w w':=fun w=>by rw [← hva]; exact digitR a w
    have cb2:∀ w,Calls Tryz.prog 40 #[.int .u8 (b.toNat:Int)] w fun e w'=>e=.returned (.int .i64 vb)∧Since w w':=fun w=>by rw [← hvb]; exact digitR b w
    by_cases hbad:hx a=none∨hx b=none
    ·have hno:=hI.bad ha hb hbad
     have hneg:va = -1∨vb = -1:=hbad.imp (fun h=>by rw [← hva]; exact dg_none h) (fun h=>by rw [← hvb]; exact dg_none h)
     repeat' ((conv=>whnf); first | refine sgo ⟨tab_ok⟩ ?_|refine br_not ?_|refine br_t rfl ?_|refine br_f rfl ?_|refine br_t (by assumption) ?_|refine br_f (by assumption) ?_|refine br_t (decide_eq_true (by assumption)) ?_|refine br_f (decide_eq_false (by assumption)) ?_|refine br_t (beq_iff_eq.2 (by assumption)) ?_|refine br_f (beq_eq_false_iff_ne.2 (by assumption)) ?_|refine drA (id:=7) ⟨tab_ok⟩ [3,8] ?_|refine drA ⟨tab_ok⟩ [] ?_|refine kpt ?_|refine br_t (decide_eq_true (by omega)) ?_|refine br_f (decide_eq_false (by omega)) ?_|refine wr (show IntKind.i64.wrap ((i:Int)+1)=((i+1:Nat):Int) from wr64 _ (by omega) (by omega)) ?_|refine wr_i ?_|refine br_dec (fun hq=>?_) (fun hq=>?_)|refine opP (pvLen (xs:=s) (by rfl) (by rfl) Tryz.underlying9) ?_|refine puP (pvIdx (xs:=s) (j:=i) (by rfl) (by rfl) (by rfl) rfl ha Tryz.underlying9) ?_|refine puP (pvIdx (xs:=s) (j:=i+1) (by rfl) (by rfl) (by rfl) rfl hb Tryz.underlying9) ?_|refine callS (f:=40) (.i .i64 va) ca ?_|refine callS (f:=40) (.i .i64 vb) cb2 ?_|refine fin fun w' hH=>byP_no hno rfl hH.upd.since | refine fin_s ?_|refine fin_r ?_ ?_|refine fin_e ?_ ?_)
    ·obtain ⟨x,hxa⟩:∃ x,hx a=some x:=by cases h:hx a with | none=>exact absurd (.inl h) hbad | some x=>exact ⟨x,rfl⟩
     obtain ⟨y,hyb⟩:∃ y,hx b=some y:=by cases h:hx b with | none=>exact absurd (.inr h) hbad | some x=>exact ⟨x,rfl⟩
     have e1:va=(x:Int):=by rw [← hva]; exact dg_some hxa
     have e2:vb=(y:Int):=by rw [← hvb]; exact dg_some hyb
     subst e1 e2
     obtain ⟨q1,q2,q3⟩:=b16 (hx_lt hxa) (hx_lt hyb)
     have hmore:=hI.more ha hb hxa hyb
     repeat' ((conv=>whnf); first | refine sgo ⟨tab_ok⟩ ?_|refine br_not ?_|refine br_t rfl ?_|refine br_f rfl ?_|refine br_t (by assumption) ?_|refine br_f (by assumption) ?_|refine br_t (decide_eq_true (by assumption)) ?_|refine br_f (decide_eq_false (by assumption)) ?_|refine br_t (beq_iff_eq.2 (by assumption)) ?_|refine br_f (beq_eq_false_iff_ne.2 (by assumption)) ?_|refine drA (id:=7) ⟨tab_ok⟩ [3,8] ?_|refine drA ⟨tab_ok⟩ [] ?_|refine kpt ?_|refine br_t (decide_eq_true (by omega)) ?_|refine br_f (decide_eq_false (by omega)) ?_|refine wr q1 ?_|refine wr q2 ?_|refine wr q3 ?_|refine wr (show IntKind.i64.wrap ((i:Int)+1)=((i+1:Nat):Int) from wr64 _ (by omega) (by omega)) ?_|refine wr_i ?_|refine opP (pvLen (xs:=s) (by rfl) (by rfl) Tryz.underlying9) ?_|refine puP (pvIdx (xs:=s) (j:=i) (by rfl) (by rfl) (by rfl) rfl ha Tryz.underlying9) ?_|refine puP (pvIdx (xs:=s) (j:=i+1) (by rfl) (by rfl) (by rfl) rfl hb Tryz.underlying9) ?_|refine callS (f:=40) (.i .i64 (x:Int)) ca ?_|refine callS (f:=40) (.i .i64 (y:Int)) cb2 ?_|refine opbi (e:=5) ⟨tab_ok⟩ (.i .u8 ((x*16+y:Nat):Int)) (by rfl) (by rfl) ?_|intro gb | refine opap 0 0 (e:=5) (lo:=w.heap.size) (size:=1) (bytes:=1) (z:=.int .u8 0) (A:=rwO byteE w.heap.size B zs.length cb zs true) (vals:=rowsOf byteE.c zs) (cells:=[.int .u8 ((x*16+y:Nat):Int)]) (zs:=rowsOf byteE.c (zs++[((x*16+y:Nat):Int)])) (n2:=(zs++[((x*16+y:Nat):Int)]).length) (fun A2 c2=>rwO byteE w.heap.size A2 (zs++[((x*16+y:Nat):Int)]).length c2 (zs++[((x*16+y:Nat):Int)]) true) (by rfl) (by rfl) (by rfl) (by rfl) rfl rfl (fun w h=>h) (fun A' c' w h=>h) (fun _ _=>rfl) (by rfl) (by rfl) (by rfl) (by rfl) Tryz.underlying38 (by kernel_rfl) rfl (by decide) (by decide) (by intro u hu; simp at hu; rcases hu with rfl; rfl) (by omega) (fun w hH=>hH.upd.size) (by rw [List.length_append]; rfl) (by rw [rowsOf_append]; rfl) (fun A2 c2=>?_)|refine En.back ⟨(i+2,A2,c2,zs++[((x*16+y:Nat):Int)]),_,hmore,by show _=zsN _; rw [zsN_add,hzs]⟩ (wkd ?_) ?_|refine fin_s ?_|refine fin_r ?_ ?_|refine fin_e ?_ ?_)
     all_goals first | (show s.length - (i+2) < s.length - i; omega)|skip
     all_goals (repeat' (first | exact trivial | rfl | ((conv=>whnf); refine And.intro ?_ ?_)))
   ·have hyes:=hI.end_ (by omega)
    repeat' ((conv=>whnf); first | refine sgo ⟨tab_ok⟩ ?_|refine br_not ?_|refine br_t rfl ?_|refine br_f rfl ?_|refine br_t (by assumption) ?_|refine br_f (by assumption) ?_|refine br_t (decide_eq_true (by assumption)) ?_|refine br_f (decide_eq_false (by assumption)) ?_|refine br_t (beq_iff_eq.2 (by assumption)) ?_|refine br_f (beq_eq_false_iff_ne.2 (by assumption)) ?_|refine drA ⟨tab_ok⟩ [] ?_|refine kpt ?_|refine br_t (decide_eq_true (by omega)) ?_|refine br_f (decide_eq_false (by omega)) ?_|refine opP (pvLen (xs:=s) (by rfl) (by rfl) Tryz.underlying9) ?_|refine fin fun w' hH=>by_yes hyes hzs (Hold.ob hH (A:=rwO byteE w.heap.size B zs.length cb zs true) 0 rfl) rfl hH.upd.since | refine fin_s ?_|refine fin_r ?_ ?_|refine fin_e ?_ ?_)
  ·have hno:datV s=none:=dat_no (.inr (by rw [hhd]; intro h; injection h with h; exact h120 h))
   have hne:((c.toNat:Int) == 120)=false:=beq_eq_false_iff_ne.2 <| fun h=>h120 (UInt8.toNat_inj.1 (by show c.toNat=120; omega))
   refine ent tab_ok [tx s] Tryz.func27 Tryz.ntmps27 rfl rfl ?_
   repeat' ((conv=>whnf); first | refine sgo ⟨tab_ok⟩ ?_|refine br_not ?_|refine br_t rfl ?_|refine br_f rfl ?_|refine br_t (by assumption) ?_|refine br_f (by assumption) ?_|refine br_t (decide_eq_true (by assumption)) ?_|refine br_f (decide_eq_false (by assumption)) ?_|refine br_t (beq_iff_eq.2 (by assumption)) ?_|refine br_f (beq_eq_false_iff_ne.2 (by assumption)) ?_|refine drA ⟨tab_ok⟩ [] ?_|refine kpt ?_|refine br_t (decide_eq_true (by omega)) ?_|refine br_f (decide_eq_false (by omega)) ?_|refine cd (by first | decide | omega) ?_|refine br_f hne ?_|refine wr (show IntKind.i64.wrap ((s.length:Int).tmod 2)=1 by rw [hm]; rfl) ?_|refine opP (pvLen (xs:=s) (by rfl) (by rfl) Tryz.underlying9) ?_|refine opP (pvIdx (xs:=s) (j:=0) (by rfl) (by rfl) (by rfl) rfl hc Tryz.underlying9) ?_|refine fin fun w' hH=>byP_no hno rfl hH.upd.since | refine fin_s ?_|refine fin_r ?_ ?_|refine fin_e ?_ ?_)
 ·have hno:datV s=none:=dat_no (.inl hodd)
  have hm:(s.length:Int).tmod 2=0:=by
   have e:(s.length:Int).tmod 2=((s.length % 2:Nat):Int):=rfl
   rw [e,show s.length % 2=0 by omega]; rfl
  have hm1:(s.length:Int).tmod 2≠1:=by rw [hm]; decide
  refine ent tab_ok [tx s] Tryz.func27 Tryz.ntmps27 rfl rfl ?_
  repeat' ((conv=>whnf); first | refine sgo ⟨tab_ok⟩ ?_|refine br_not ?_|refine br_t rfl ?_|refine br_f rfl ?_|refine br_t (by assumption) ?_|refine br_f (by assumption) ?_|refine br_t (decide_eq_true (by assumption)) ?_|refine br_f (decide_eq_false (by assumption)) ?_|refine br_t (beq_iff_eq.2 (by assumption)) ?_|refine br_f (beq_eq_false_iff_ne.2 (by assumption)) ?_|refine drA ⟨tab_ok⟩ [] ?_|refine kpt ?_|refine br_t (decide_eq_true (by omega)) ?_|refine br_f (decide_eq_false (by omega)) ?_|refine cd (by first | decide | omega) ?_|refine wr (show IntKind.i64.wrap ((s.length:Int).tmod 2)=0 by rw [hm]; rfl) ?_|refine opP (pvLen (xs:=s) (by rfl) (by rfl) Tryz.underlying9) ?_|refine fin fun w' hH=>byP_no hno rfl hH.upd.since | refine fin_s ?_|refine fin_r ?_ ?_|refine fin_e ?_ ?_)
end Sw
end Go.Proofs.YtnoehplnmdajnaaGreatDoor
namespace Go.Proofs
open Go.Shelf
def Tryz.lays166_ren:Go.Shelf.Ren:=⟨fun | 166=>47 | 240=>69 | 276=>100 | n=>n,fun | 70=>43 | 9=>9 | 3=>3 | 75=>108 | 0=>0 | 72=>45 | 37=>38 | 4=>4 | 164=>181 | 80=>50 | 5=>5 | n=>n,fun | n=>n⟩
theorem Tryz.lays166:Go.Proofs.Lays.n166 Tryz.prog Tryz.lays166_ren:={
 mixed:=by kernel_rfl
 f166:=Tryz.func47.trans (congrArg some (by kernel_rfl))
 f240:=Tryz.func69.trans (congrArg some (by kernel_rfl))
 f276:=Tryz.func100.trans (congrArg some (by kernel_rfl))
 t0:=Tryz.underlying0
 a0:=Tryz.isAgg0
 z0:=Tryz.sizeOf0
 v0:=Tryz.zeroValue0
 t3:=Tryz.underlying3
 a3:=Tryz.isAgg3
 z3:=Tryz.sizeOf3
 v3:=Tryz.zeroValue3
 t4:=Tryz.underlying4
 a4:=Tryz.isAgg4
 z4:=Tryz.sizeOf4
 v4:=Tryz.zeroValue4
 t9:=Tryz.underlying9
 a9:=Tryz.isAgg9
 z9:=Tryz.sizeOf9
 v9:=Tryz.zeroValue9
 t20:=Tryz.underlying20
 a20:=Tryz.isAgg20
 z20:=Tryz.sizeOf20
 v20:=Tryz.zeroValue20
 t37:=Tryz.underlying38
 a37:=Tryz.isAgg38
 z37:=Tryz.sizeOf38
 v37:=Tryz.zeroValue38
 t70:=Tryz.underlying43
 a70:=Tryz.isAgg43
 z70:=Tryz.sizeOf43
 v70:=Tryz.zeroValue43
 t72:=Tryz.underlying45
 a72:=Tryz.isAgg45
 z72:=Tryz.sizeOf45
 v72:=Tryz.zeroValue45
 t75:=Tryz.underlying108
 a75:=Tryz.isAgg108
 z75:=Tryz.sizeOf108
 v75:=Tryz.zeroValue108
 t164:=Tryz.underlying181
 a164:=Tryz.isAgg181
 z164:=Tryz.sizeOf181
 v164:=Tryz.zeroValue181 }
theorem Tryz.Builder_Extra_166:Builder.Extra Tryz.prog Tryz.lays166_ren:={
 sizeBuilder:=by kernel_rfl
 liesBuilder:=by kernel_rfl
 t5:=Tryz.underlying5
 a5:=Tryz.isAgg5
 z5:=Tryz.sizeOf5
 v5:=Tryz.zeroValue5
 infoByte:=by kernel_rfl
 cellsByte:=by kernel_rfl
 sizeByte:=by kernel_rfl
 neB5:=by decide }
def Tryz.lays167_ren:Go.Shelf.Ren:=⟨fun | 167=>46 | 240=>69 | 276=>100 | n=>n,fun | 70=>43 | 5=>5 | 75=>108 | 0=>0 | 72=>45 | 37=>38 | 4=>4 | 164=>181 | 80=>50 | 9=>9 | n=>n,fun | n=>n⟩
theorem Tryz.lays167:Go.Proofs.Lays.n167 Tryz.prog Tryz.lays167_ren:={
 mixed:=by kernel_rfl
 f167:=Tryz.func46.trans (congrArg some (by kernel_rfl))
 f240:=Tryz.func69.trans (congrArg some (by kernel_rfl))
 f276:=Tryz.func100.trans (congrArg some (by kernel_rfl))
 t0:=Tryz.underlying0
 a0:=Tryz.isAgg0
 z0:=Tryz.sizeOf0
 v0:=Tryz.zeroValue0
 t4:=Tryz.underlying4
 a4:=Tryz.isAgg4
 z4:=Tryz.sizeOf4
 v4:=Tryz.zeroValue4
 t5:=Tryz.underlying5
 a5:=Tryz.isAgg5
 z5:=Tryz.sizeOf5
 v5:=Tryz.zeroValue5
 t9:=Tryz.underlying9
 a9:=Tryz.isAgg9
 z9:=Tryz.sizeOf9
 v9:=Tryz.zeroValue9
 t20:=Tryz.underlying20
 a20:=Tryz.isAgg20
 z20:=Tryz.sizeOf20
 v20:=Tryz.zeroValue20
 t37:=Tryz.underlying38
 a37:=Tryz.isAgg38
 z37:=Tryz.sizeOf38
 v37:=Tryz.zeroValue38
 t70:=Tryz.underlying43
 a70:=Tryz.isAgg43
 z70:=Tryz.sizeOf43
 v70:=Tryz.zeroValue43
 t72:=Tryz.underlying45
 a72:=Tryz.isAgg45
 z72:=Tryz.sizeOf45
 v72:=Tryz.zeroValue45
 t75:=Tryz.underlying108
 a75:=Tryz.isAgg108
 z75:=Tryz.sizeOf108
 v75:=Tryz.zeroValue108
 t164:=Tryz.underlying181
 a164:=Tryz.isAgg181
 z164:=Tryz.sizeOf181
 v164:=Tryz.zeroValue181 }
theorem Tryz.Builder_Extra_167:Builder.Extra Tryz.prog Tryz.lays167_ren:={
 sizeBuilder:=by kernel_rfl
 liesBuilder:=by kernel_rfl
 t5:=Tryz.underlying5
 a5:=Tryz.isAgg5
 z5:=Tryz.sizeOf5
 v5:=Tryz.zeroValue5
 infoByte:=by kernel_rfl
 cellsByte:=by kernel_rfl
 sizeByte:=by kernel_rfl
 neB5:=by decide }
def Tryz.lays169_ren:Go.Shelf.Ren:=⟨fun | 169=>17 | n=>n,fun | 70=>43 | 9=>9 | 0=>0 | 72=>45 | 37=>38 | 127=>75 | 3=>3 | 5=>5 | n=>n,fun | n=>n⟩
theorem Tryz.lays169:Go.Proofs.Lays.n169 Tryz.prog Tryz.lays169_ren:={
 mixed:=by kernel_rfl
 f169:=Tryz.func17.trans (congrArg some (by kernel_rfl))
 t0:=Tryz.underlying0
 a0:=Tryz.isAgg0
 z0:=Tryz.sizeOf0
 v0:=Tryz.zeroValue0
 t3:=Tryz.underlying3
 a3:=Tryz.isAgg3
 z3:=Tryz.sizeOf3
 v3:=Tryz.zeroValue3
 t9:=Tryz.underlying9
 a9:=Tryz.isAgg9
 z9:=Tryz.sizeOf9
 v9:=Tryz.zeroValue9
 t37:=Tryz.underlying38
 a37:=Tryz.isAgg38
 z37:=Tryz.sizeOf38
 v37:=Tryz.zeroValue38
 t70:=Tryz.underlying43
 a70:=Tryz.isAgg43
 z70:=Tryz.sizeOf43
 v70:=Tryz.zeroValue43
 t72:=Tryz.underlying45
 a72:=Tryz.isAgg45
 z72:=Tryz.sizeOf45
 v72:=Tryz.zeroValue45
 t127:=Tryz.underlying75
 a127:=Tryz.isAgg75
 z127:=Tryz.sizeOf75
 v127:=Tryz.zeroValue75 }
theorem Tryz.Builder_Extra_169:Builder.Extra Tryz.prog Tryz.lays169_ren:={
 sizeBuilder:=by kernel_rfl
 liesBuilder:=by kernel_rfl
 t5:=Tryz.underlying5
 a5:=Tryz.isAgg5
 z5:=Tryz.sizeOf5
 v5:=Tryz.zeroValue5
 infoByte:=by kernel_rfl
 cellsByte:=by kernel_rfl
 sizeByte:=by kernel_rfl
 neB5:=by decide }
def Tryz.lays137_ren:Go.Shelf.Ren:=⟨fun | 137=>14 | 217=>28 | 266=>41 | n=>n,fun | 9=>9 | 5=>5 | 3=>3 | n=>n,fun | n=>n⟩
theorem Tryz.lays137:Go.Proofs.Lays.n137 Tryz.prog Tryz.lays137_ren:={
 mixed:=by kernel_rfl
 f137:=Tryz.func14.trans (congrArg some (by kernel_rfl))
 f217:=Tryz.func28.trans (congrArg some (by kernel_rfl))
 f266:=Tryz.func41.trans (congrArg some (by kernel_rfl))
 t3:=Tryz.underlying3
 a3:=Tryz.isAgg3
 z3:=Tryz.sizeOf3
 v3:=Tryz.zeroValue3
 t5:=Tryz.underlying5
 a5:=Tryz.isAgg5
 z5:=Tryz.sizeOf5
 v5:=Tryz.zeroValue5
 t9:=Tryz.underlying9
 a9:=Tryz.isAgg9
 z9:=Tryz.sizeOf9
 v9:=Tryz.zeroValue9 }
def Tryz.lays104_ren:Go.Shelf.Ren:=⟨fun | 104=>42 | 211=>64 | 207=>93 | n=>n,fun | 9=>9 | 4=>4 | 24=>104 | 3=>3 | n=>n,fun | n=>n⟩
theorem Tryz.lays104:Go.Proofs.Lays.n104 Tryz.prog Tryz.lays104_ren:={
 mixed:=by kernel_rfl
 f104:=Tryz.func42.trans (congrArg some (by kernel_rfl))
 f207:=Tryz.func93.trans (congrArg some (by kernel_rfl))
 f211:=Tryz.func64.trans (congrArg some (by kernel_rfl))
 t3:=Tryz.underlying3
 a3:=Tryz.isAgg3
 z3:=Tryz.sizeOf3
 v3:=Tryz.zeroValue3
 t4:=Tryz.underlying4
 a4:=Tryz.isAgg4
 z4:=Tryz.sizeOf4
 v4:=Tryz.zeroValue4
 t9:=Tryz.underlying9
 a9:=Tryz.isAgg9
 z9:=Tryz.sizeOf9
 v9:=Tryz.zeroValue9
 t24:=Tryz.underlying104
 a24:=Tryz.isAgg104
 z24:=Tryz.sizeOf104
 v24:=Tryz.zeroValue104 }
def Tryz.lays103_ren:Go.Shelf.Ren:=⟨fun | 103=>67 | 210=>99 | 206=>149 | n=>n,fun | 9=>9 | 4=>4 | 24=>104 | 3=>3 | n=>n,fun | n=>n⟩
theorem Tryz.lays103:Go.Proofs.Lays.n103 Tryz.prog Tryz.lays103_ren:={
 mixed:=by kernel_rfl
 f103:=Tryz.func67.trans (congrArg some (by kernel_rfl))
 f206:=Tryz.func149.trans (congrArg some (by kernel_rfl))
 f210:=Tryz.func99.trans (congrArg some (by kernel_rfl))
 t3:=Tryz.underlying3
 a3:=Tryz.isAgg3
 z3:=Tryz.sizeOf3
 v3:=Tryz.zeroValue3
 t4:=Tryz.underlying4
 a4:=Tryz.isAgg4
 z4:=Tryz.sizeOf4
 v4:=Tryz.zeroValue4
 t9:=Tryz.underlying9
 a9:=Tryz.isAgg9
 z9:=Tryz.sizeOf9
 v9:=Tryz.zeroValue9
 t24:=Tryz.underlying104
 a24:=Tryz.isAgg104
 z24:=Tryz.sizeOf104
 v24:=Tryz.zeroValue104 }
def Tryz.laysM146_ren:Go.Shelf.Ren:=⟨fun | 146=>43 | 221=>65 | 268=>94 | 138=>95 | 143=>96 | 195=>140 | 197=>141 | 218=>142 | 219=>143 | 260=>197 | 217=>28 | 225=>198 | 224=>199 | 267=>200 | 266=>41 | 314=>245 | n=>n,fun | 9=>9 | 31=>62 | 3=>3 | 4=>4 | 0=>0 | 105=>226 | 21=>21 | 5=>5 | 46=>121 | 119=>305 | 139=>308 | 138=>307 | 146=>240 | 51=>239 | n=>n,fun | 1=>0 | 3=>4 | 4=>5 | n=>n⟩
theorem Tryz.laysM146:Go.Proofs.LaysM.n146 Tryz.prog Tryz.laysM146_ren:={
 mixed:=by kernel_rfl
 f138:=Tryz.func95.trans (congrArg some (by kernel_rfl))
 f143:=Tryz.func96.trans (congrArg some (by kernel_rfl))
 f146:=Tryz.func43.trans (congrArg some (by kernel_rfl))
 f195:=Tryz.func140.trans (congrArg some (by kernel_rfl))
 f197:=Tryz.func141.trans (congrArg some (by kernel_rfl))
 f217:=Tryz.func28.trans (congrArg some (by kernel_rfl))
 f218:=Tryz.func142.trans (congrArg some (by kernel_rfl))
 f219:=Tryz.func143.trans (congrArg some (by kernel_rfl))
 f221:=Tryz.func65.trans (congrArg some (by kernel_rfl))
 f224:=Tryz.func199.trans (congrArg some (by kernel_rfl))
 f225:=Tryz.func198.trans (congrArg some (by kernel_rfl))
 f260:=Tryz.func197.trans (congrArg some (by kernel_rfl))
 f266:=Tryz.func41.trans (congrArg some (by kernel_rfl))
 f267:=Tryz.func200.trans (congrArg some (by kernel_rfl))
 f268:=Tryz.func94.trans (congrArg some (by kernel_rfl))
 f314:=Tryz.func245.trans (congrArg some (by kernel_rfl))
 t0:=Tryz.underlying0
 a0:=Tryz.isAgg0
 z0:=Tryz.sizeOf0
 v0:=Tryz.zeroValue0
 t3:=Tryz.underlying3
 a3:=Tryz.isAgg3
 z3:=Tryz.sizeOf3
 v3:=Tryz.zeroValue3
 t4:=Tryz.underlying4
 a4:=Tryz.isAgg4
 z4:=Tryz.sizeOf4
 v4:=Tryz.zeroValue4
 t5:=Tryz.underlying5
 a5:=Tryz.isAgg5
 z5:=Tryz.sizeOf5
 v5:=Tryz.zeroValue5
 t9:=Tryz.underlying9
 a9:=Tryz.isAgg9
 z9:=Tryz.sizeOf9
 v9:=Tryz.zeroValue9
 t21:=Tryz.underlying21
 a21:=Tryz.isAgg21
 z21:=Tryz.sizeOf21
 v21:=Tryz.zeroValue21
 t31:=Tryz.underlying62
 a31:=Tryz.isAgg62
 z31:=Tryz.sizeOf62
 v31:=Tryz.zeroValue62
 t46:=Tryz.underlying121
 a46:=Tryz.isAgg121
 z46:=Tryz.sizeOf121
 v46:=Tryz.zeroValue121
 t51:=Tryz.underlying239
 a51:=Tryz.isAgg239
 z51:=Tryz.sizeOf239
 v51:=Tryz.zeroValue239
 t105:=Tryz.underlying226
 a105:=Tryz.isAgg226
 z105:=Tryz.sizeOf226
 v105:=Tryz.zeroValue226
 t119:=Tryz.underlying305
 a119:=Tryz.isAgg305
 z119:=Tryz.sizeOf305
 t138:=Tryz.underlying307
 a138:=Tryz.isAgg307
 z138:=Tryz.sizeOf307
 v138:=Tryz.zeroValue307
 t139:=Tryz.underlying308
 a139:=Tryz.isAgg308
 z139:=Tryz.sizeOf308
 v139:=Tryz.zeroValue308
 t146:=Tryz.underlying240
 a146:=Tryz.isAgg240
 z146:=Tryz.sizeOf240
 v146:=Tryz.zeroValue240
 g1:=by kernel_rfl
 g3:=by kernel_rfl
 g4:=by kernel_rfl
 i0:=by kernel_rfl
 i3:=by kernel_rfl
 i4:=by kernel_rfl
 i5:=by kernel_rfl
 i9:=by kernel_rfl
 i21:=by kernel_rfl
 i31:=by kernel_rfl
 i46:=by kernel_rfl
 i51:=by kernel_rfl
 i105:=by kernel_rfl
 i138:=by kernel_rfl
 i139:=by kernel_rfl
 i146:=by kernel_rfl
 m1:=by kernel_rfl
 s1_3:=fun w h=>Go.Proofs.cell_of_shapedOpen_int (zero:=#[.int .i64 0]) (t:=3) h (of_decide_eq_true (by kernel_rfl)) (by kernel_rfl) rfl (by kernel_rfl) (by kernel_rfl) Tryz.underlying3
 m3:=by kernel_rfl
 m4:=by kernel_rfl }
def Tryz.laysM171_ren:Go.Shelf.Ren:=⟨fun | 171=>48 | 243=>70 | 246=>101 | 283=>150 | 284=>151 | 285=>152 | 286=>153 | 129=>179 | 317=>204 | 318=>205 | 319=>206 | 320=>207 | 337=>248 | 338=>249 | n=>n,fun | 3=>3 | 9=>9 | 2=>2 | 4=>4 | 171=>234 | 0=>0 | 53=>102 | 37=>38 | 5=>5 | 173=>237 | 212=>273 | 51=>239 | 20=>20 | 213=>274 | 46=>121 | 232=>339 | 233=>340 | n=>n,fun | 17=>3 | 18=>6 | 19=>7 | n=>n⟩
theorem Tryz.laysM171:Go.Proofs.LaysM.n171 Tryz.prog Tryz.laysM171_ren:={
 mixed:=by kernel_rfl
 f129:=Tryz.func179.trans (congrArg some (by kernel_rfl))
 f171:=Tryz.func48.trans (congrArg some (by kernel_rfl))
 f243:=Tryz.func70.trans (congrArg some (by kernel_rfl))
 f246:=Tryz.func101.trans (congrArg some (by kernel_rfl))
 f283:=Tryz.func150.trans (congrArg some (by kernel_rfl))
 f284:=Tryz.func151.trans (congrArg some (by kernel_rfl))
 f285:=Tryz.func152.trans (congrArg some (by kernel_rfl))
 f286:=Tryz.func153.trans (congrArg some (by kernel_rfl))
 f317:=Tryz.func204.trans (congrArg some (by kernel_rfl))
 f318:=Tryz.func205.trans (congrArg some (by kernel_rfl))
 f319:=Tryz.func206.trans (congrArg some (by kernel_rfl))
 f320:=Tryz.func207.trans (congrArg some (by kernel_rfl))
 f337:=Tryz.func248.trans (congrArg some (by kernel_rfl))
 f338:=Tryz.func249.trans (congrArg some (by kernel_rfl))
 t0:=Tryz.underlying0
 a0:=Tryz.isAgg0
 z0:=Tryz.sizeOf0
 v0:=Tryz.zeroValue0
 t2:=Tryz.underlying2
 a2:=Tryz.isAgg2
 z2:=Tryz.sizeOf2
 v2:=Tryz.zeroValue2
 t3:=Tryz.underlying3
 a3:=Tryz.isAgg3
 z3:=Tryz.sizeOf3
 v3:=Tryz.zeroValue3
 t4:=Tryz.underlying4
 a4:=Tryz.isAgg4
 z4:=Tryz.sizeOf4
 v4:=Tryz.zeroValue4
 t5:=Tryz.underlying5
 a5:=Tryz.isAgg5
 z5:=Tryz.sizeOf5
 v5:=Tryz.zeroValue5
 t9:=Tryz.underlying9
 a9:=Tryz.isAgg9
 z9:=Tryz.sizeOf9
 v9:=Tryz.zeroValue9
 t20:=Tryz.underlying20
 a20:=Tryz.isAgg20
 z20:=Tryz.sizeOf20
 v20:=Tryz.zeroValue20
 t37:=Tryz.underlying38
 a37:=Tryz.isAgg38
 z37:=Tryz.sizeOf38
 v37:=Tryz.zeroValue38
 t46:=Tryz.underlying121
 a46:=Tryz.isAgg121
 z46:=Tryz.sizeOf121
 v46:=Tryz.zeroValue121
 t51:=Tryz.underlying239
 a51:=Tryz.isAgg239
 z51:=Tryz.sizeOf239
 v51:=Tryz.zeroValue239
 t53:=Tryz.underlying102
 a53:=Tryz.isAgg102
 z53:=Tryz.sizeOf102
 v53:=Tryz.zeroValue102
 t171:=Tryz.underlying234
 a171:=Tryz.isAgg234
 z171:=Tryz.sizeOf234
 v171:=Tryz.zeroValue234
 t173:=Tryz.underlying237
 a173:=Tryz.isAgg237
 z173:=Tryz.sizeOf237
 v173:=Tryz.zeroValue237
 t212:=Tryz.underlying273
 a212:=Tryz.isAgg273
 z212:=Tryz.sizeOf273
 v212:=Tryz.zeroValue273
 t213:=Tryz.underlying274
 a213:=Tryz.isAgg274
 z213:=Tryz.sizeOf274
 t232:=Tryz.underlying339
 a232:=Tryz.isAgg339
 z232:=Tryz.sizeOf339
 v232:=Tryz.zeroValue339
 t233:=Tryz.underlying340
 a233:=Tryz.isAgg340
 z233:=Tryz.sizeOf340
 v233:=Tryz.zeroValue340
 g17:=by kernel_rfl
 g18:=by kernel_rfl
 g19:=by kernel_rfl
 i0:=by kernel_rfl
 i2:=by kernel_rfl
 i3:=by kernel_rfl
 i4:=by kernel_rfl
 i5:=by kernel_rfl
 i9:=by kernel_rfl
 i20:=by kernel_rfl
 i37:=by kernel_rfl
 i46:=by kernel_rfl
 i51:=by kernel_rfl
 i53:=by kernel_rfl
 i171:=by kernel_rfl
 i173:=by kernel_rfl
 i212:=by kernel_rfl
 i232:=by kernel_rfl
 i233:=by kernel_rfl
 m17:=by kernel_rfl
 m18:=by kernel_rfl
 m19:=by kernel_rfl }
def Tryz.laysC172_ren:Go.Shelf.Ren:=⟨fun | 172=>66 | 244=>97 | 245=>98 | 247=>144 | 279=>145 | 280=>146 | 281=>147 | 282=>148 | 287=>201 | 316=>202 | 171=>48 | 205=>203 | 321=>246 | 322=>247 | 243=>70 | 246=>101 | 283=>150 | 284=>151 | 285=>152 | 286=>153 | 129=>179 | 317=>204 | 318=>205 | 319=>206 | 320=>207 | 337=>248 | 338=>249 | n=>n,fun | 9=>9 | 3=>3 | 75=>108 | 76=>110 | 4=>4 | 5=>5 | 167=>228 | 37=>38 | 0=>0 | 85=>229 | 2=>2 | 168=>231 | 53=>102 | 175=>267 | 46=>121 | 210=>270 | 127=>75 | 145=>313 | 143=>311 | 21=>21 | 171=>234 | 173=>237 | 212=>273 | 51=>239 | 20=>20 | 213=>274 | 232=>339 | 233=>340 | 80=>50 | n=>n,fun | 15=>1 | 16=>2 | 17=>3 | 18=>6 | 19=>7 | n=>n⟩
theorem Tryz.laysC172:Go.Proofs.LaysC.n172 Tryz.prog Tryz.laysC172_ren:={
 mixed:=by kernel_rfl
 f129:=Tryz.func179.trans (congrArg some (by kernel_rfl))
 f171:=Tryz.func48.trans (congrArg some (by kernel_rfl))
 f172:=Tryz.func66.trans (congrArg some (by kernel_rfl))
 f205:=Tryz.func203.trans (congrArg some (by kernel_rfl))
 f243:=Tryz.func70.trans (congrArg some (by kernel_rfl))
 f244:=Tryz.func97.trans (congrArg some (by kernel_rfl))
 f245:=Tryz.func98.trans (congrArg some (by kernel_rfl))
 f246:=Tryz.func101.trans (congrArg some (by kernel_rfl))
 f247:=Tryz.func144.trans (congrArg some (by kernel_rfl))
 f279:=Tryz.func145.trans (congrArg some (by kernel_rfl))
 f280:=Tryz.func146.trans (congrArg some (by kernel_rfl))
 f281:=Tryz.func147.trans (congrArg some (by kernel_rfl))
 f282:=Tryz.func148.trans (congrArg some (by kernel_rfl))
 f283:=Tryz.func150.trans (congrArg some (by kernel_rfl))
 f284:=Tryz.func151.trans (congrArg some (by kernel_rfl))
 f285:=Tryz.func152.trans (congrArg some (by kernel_rfl))
 f286:=Tryz.func153.trans (congrArg some (by kernel_rfl))
 f287:=Tryz.func201.trans (congrArg some (by kernel_rfl))
 f316:=Tryz.func202.trans (congrArg some (by kernel_rfl))
 f317:=Tryz.func204.trans (congrArg some (by kernel_rfl))
 f318:=Tryz.func205.trans (congrArg some (by kernel_rfl))
 f319:=Tryz.func206.trans (congrArg some (by kernel_rfl))
 f320:=Tryz.func207.trans (congrArg some (by kernel_rfl))
 f321:=Tryz.func246.trans (congrArg some (by kernel_rfl))
 f322:=Tryz.func247.trans (congrArg some (by kernel_rfl))
 f337:=Tryz.func248.trans (congrArg some (by kernel_rfl))
 f338:=Tryz.func249.trans (congrArg some (by kernel_rfl))
 t0:=Tryz.underlying0
 a0:=Tryz.isAgg0
 z0:=Tryz.sizeOf0
 v0:=Tryz.zeroValue0
 t2:=Tryz.underlying2
 a2:=Tryz.isAgg2
 z2:=Tryz.sizeOf2
 v2:=Tryz.zeroValue2
 t3:=Tryz.underlying3
 a3:=Tryz.isAgg3
 z3:=Tryz.sizeOf3
 v3:=Tryz.zeroValue3
 t4:=Tryz.underlying4
 a4:=Tryz.isAgg4
 z4:=Tryz.sizeOf4
 v4:=Tryz.zeroValue4
 t5:=Tryz.underlying5
 a5:=Tryz.isAgg5
 z5:=Tryz.sizeOf5
 v5:=Tryz.zeroValue5
 t9:=Tryz.underlying9
 a9:=Tryz.isAgg9
 z9:=Tryz.sizeOf9
 v9:=Tryz.zeroValue9
 t20:=Tryz.underlying20
 a20:=Tryz.isAgg20
 z20:=Tryz.sizeOf20
 v20:=Tryz.zeroValue20
 t21:=Tryz.underlying21
 a21:=Tryz.isAgg21
 z21:=Tryz.sizeOf21
 v21:=Tryz.zeroValue21
 t37:=Tryz.underlying38
 a37:=Tryz.isAgg38
 z37:=Tryz.sizeOf38
 v37:=Tryz.zeroValue38
 t46:=Tryz.underlying121
 a46:=Tryz.isAgg121
 z46:=Tryz.sizeOf121
 v46:=Tryz.zeroValue121
 t51:=Tryz.underlying239
 a51:=Tryz.isAgg239
 z51:=Tryz.sizeOf239
 v51:=Tryz.zeroValue239
 t53:=Tryz.underlying102
 a53:=Tryz.isAgg102
 z53:=Tryz.sizeOf102
 v53:=Tryz.zeroValue102
 t75:=Tryz.underlying108
 a75:=Tryz.isAgg108
 z75:=Tryz.sizeOf108
 v75:=Tryz.zeroValue108
 t76:=Tryz.underlying110
 a76:=Tryz.isAgg110
 z76:=Tryz.sizeOf110
 v76:=Tryz.zeroValue110
 t85:=Tryz.underlying229
 a85:=Tryz.isAgg229
 z85:=Tryz.sizeOf229
 v85:=Tryz.zeroValue229
 t127:=Tryz.underlying75
 a127:=Tryz.isAgg75
 z127:=Tryz.sizeOf75
 v127:=Tryz.zeroValue75
 t143:=Tryz.underlying311
 a143:=Tryz.isAgg311
 z143:=Tryz.sizeOf311
 v143:=Tryz.zeroValue311
 t145:=Tryz.underlying313
 a145:=Tryz.isAgg313
 z145:=Tryz.sizeOf313
 v145:=Tryz.zeroValue313
 t167:=Tryz.underlying228
 a167:=Tryz.isAgg228
 z167:=Tryz.sizeOf228
 v167:=Tryz.zeroValue228
 t168:=Tryz.underlying231
 a168:=Tryz.isAgg231
 z168:=Tryz.sizeOf231
 v168:=Tryz.zeroValue231
 t171:=Tryz.underlying234
 a171:=Tryz.isAgg234
 z171:=Tryz.sizeOf234
 v171:=Tryz.zeroValue234
 t173:=Tryz.underlying237
 a173:=Tryz.isAgg237
 z173:=Tryz.sizeOf237
 v173:=Tryz.zeroValue237
 t175:=Tryz.underlying267
 a175:=Tryz.isAgg267
 z175:=Tryz.sizeOf267
 v175:=Tryz.zeroValue267
 t210:=Tryz.underlying270
 a210:=Tryz.isAgg270
 z210:=Tryz.sizeOf270
 v210:=Tryz.zeroValue270
 t212:=Tryz.underlying273
 a212:=Tryz.isAgg273
 z212:=Tryz.sizeOf273
 v212:=Tryz.zeroValue273
 t213:=Tryz.underlying274
 a213:=Tryz.isAgg274
 z213:=Tryz.sizeOf274
 t232:=Tryz.underlying339
 a232:=Tryz.isAgg339
 z232:=Tryz.sizeOf339
 v232:=Tryz.zeroValue339
 t233:=Tryz.underlying340
 a233:=Tryz.isAgg340
 z233:=Tryz.sizeOf340
 v233:=Tryz.zeroValue340
 g15:=by kernel_rfl
 g16:=by kernel_rfl
 g17:=by kernel_rfl
 g18:=by kernel_rfl
 g19:=by kernel_rfl
 t80:=Tryz.underlying50
 a80:=Tryz.isAgg50
 z80:=Tryz.sizeOf50
 v80:=Tryz.zeroValue50
 i0:=by kernel_rfl
 i2:=by kernel_rfl
 i3:=by kernel_rfl
 i4:=by kernel_rfl
 i5:=by kernel_rfl
 i9:=by kernel_rfl
 i20:=by kernel_rfl
 i21:=by kernel_rfl
 i37:=by kernel_rfl
 i46:=by kernel_rfl
 i51:=by kernel_rfl
 i53:=by kernel_rfl
 i75:=by kernel_rfl
 i76:=by kernel_rfl
 i80:=by kernel_rfl
 i85:=by kernel_rfl
 i127:=by kernel_rfl
 i143:=by kernel_rfl
 i145:=by kernel_rfl
 i167:=by kernel_rfl
 i168:=by kernel_rfl
 i171:=by kernel_rfl
 i173:=by kernel_rfl
 i175:=by kernel_rfl
 i210:=by kernel_rfl
 i212:=by kernel_rfl
 i232:=by kernel_rfl
 i233:=by kernel_rfl
 m15:=by kernel_rfl
 m16:=by kernel_rfl
 m17:=by kernel_rfl
 m18:=by kernel_rfl
 m19:=by kernel_rfl
 c0:=by kernel_rfl
 c2:=by kernel_rfl
 c3:=by kernel_rfl
 c4:=by kernel_rfl
 c5:=by kernel_rfl
 c9:=by kernel_rfl
 c20:=by kernel_rfl
 c21:=by kernel_rfl
 c37:=by kernel_rfl
 c46:=by kernel_rfl
 c51:=by kernel_rfl
 c53:=by kernel_rfl
 c75:=by kernel_rfl
 c76:=by kernel_rfl
 c80:=by kernel_rfl
 c85:=by kernel_rfl
 c127:=by kernel_rfl
 c143:=by kernel_rfl
 c145:=by kernel_rfl
 c167:=by kernel_rfl
 c168:=by kernel_rfl
 c171:=by kernel_rfl
 c173:=by kernel_rfl
 c175:=by kernel_rfl
 c210:=by kernel_rfl
 c212:=by kernel_rfl
 c213:=by kernel_rfl
 c232:=by kernel_rfl
 c233:=by kernel_rfl }
end Go.Proofs
namespace Go.Proofs.YtnoehplnmdajnaaGreatDoor
namespace En
open Go.RowKit Ba Mem
section
variable {X:Cx} {m:List Row} {ob:List Asr} {w w':World} {s:St}
end
end En
namespace Gw
open Go.RowKit Ba Mem En Go.Proofs.YtnoehplnmdajnaaGreatDoor.Ty
open Go (Lib.byteCells)
set_option maxRecDepth 100000
section
variable {B b:Nat} {A:Option Addr} {bs:List UInt8} {w w':World} {T:List Nat}
end
theorem itoaC (n:Int) (h0 : -9223372036854775808≤n) (h1:n≤9223372036854775807) (w:World) (htab:Lib.TabIs Tryz.prog w "internal/strconv.uint64pow10" .u64 Lib.pow10Tab):Calls Tryz.prog 48 #[.int .i64 n] w fun e w'=>e=.returned (.string ⟨(Lib.itoa n).toArray⟩)∧Since w w':=by
 refine (Go.Proofs.Any.strconv_Itoa Tryz.laysM171 n h0 h1 w htab).mono ?_
 rintro e w' ⟨rfl,k,os,rfl⟩
 exact ⟨rfl,Lib.below_grow w.heap.size w (Nat.le_refl _) k os⟩
end Gw
namespace Gw
open Go.RowKit Ba Mem En Go.Proofs.YtnoehplnmdajnaaGreatDoor.Ty
set_option maxRecDepth 100000
section
variable {X:Cx} {m:List Row} {ob:List Asr} {w w':World} {s:St}
variable {o:Oper} {K:St→Prop}
end
end Gw
namespace Sp
open Go.RowKit Ba Mem En Go.Proofs.YtnoehplnmdajnaaGreatDoor.Ty Gw
open Co (Hold.ob)
open Sx Sw
open Go.Lib (itoa)
set_option maxRecDepth 100000
def g1:Nat:=Tryz.laysM146_ren.g 1
def g15:Nat:=Tryz.laysC172_ren.g 15
def g16:Nat:=Tryz.laysC172_ren.g 16
def pw:String := "internal/strconv.uint64pow10"
def errAt (w:World) (g:Nat):Prop:=∃ v,w.cell? ⟨g,0,none⟩=some v∧(v=.nilIface∨∃ t p,v=.iface t p)
structure GkS (w:World):Prop where
 m:∃ m,w.cell? ⟨g1,0,none⟩=some (.int .i64 m)
 p:Lib.TabIs Tryz.prog w pw .u64 Lib.pow10Tab
 e:errAt w g15
 r:errAt w g16
noncomputable def pwF:List Nat:=match Tryz.prog.globalNamed pw with
 | some k=>[k]
 | none=>[]
theorem cell_up {T:List Nat} {w w':World} {g:Nat} {v:Value} (u:Upd T w w') (hT:g∉T) (h:w.cell? ⟨g,0,none⟩=some v):w'.cell? ⟨g,0,none⟩=some v:=upd_cell u (World.block_lt_of_cell? _ _ h) hT h
theorem tab_up2 {T:List Nat} {w w':World} (u:Upd T w w') (hT:∀ k∈pwF,k∉T) (h:Lib.TabIs Tryz.prog w pw .u64 Lib.pow10Tab):Lib.TabIs Tryz.prog w' pw .u64 Lib.pow10Tab:=by
 unfold Lib.TabIs World.var? at h ⊢
 cases hg:Tryz.prog.globalNamed pw with
 | none=>simp [hg] at h
 | some g =>
  simp only [hg,Option.bind_some] at h ⊢
  have hlt:g < w.heap.size:=by
   rcases Nat.lt_or_ge g w.heap.size with h' | h'
   ·exact h'
   ·simp [Array.getElem?_eq_none h'] at h
  rw [u.block g hlt (hT g (by unfold pwF; rw [hg]; exact List.mem_singleton.2 rfl))]
  exact h
theorem GkS.up {T:List Nat} {w w':World} (u:Upd T w w') (hT:∀ g∈[g1,g15,g16]++pwF,g∉T) (h:GkS w):GkS w':=by
 obtain ⟨⟨m,hm⟩,h2,⟨v,h3,h4⟩,⟨v',h5,h6⟩⟩:=h
 exact ⟨⟨m,cell_up u (hT _ (by simp)) hm⟩,tab_up2 u (fun k hk=>hT k (List.mem_append.2 (.inr hk))) h2,⟨v,cell_up u (hT _ (by simp)) h3,h4⟩,⟨v',cell_up u (hT _ (by simp)) h5,h6⟩⟩
theorem GkS.lt {w:World} (h:GkS w):∀ g∈[g1,g15,g16]++pwF,g < w.heap.size:=by
 obtain ⟨⟨m,hm⟩,h2,⟨v,h3,h4⟩,⟨v',h5,h6⟩⟩:=h
 intro g hg
 rcases List.mem_append.1 hg with hg | hg
 ·simp only [List.mem_cons,List.not_mem_nil,or_false] at hg
  rcases hg with rfl | rfl | rfl
  ·exact World.block_lt_of_cell? _ _ hm
  ·exact World.block_lt_of_cell? _ _ h3
  ·exact World.block_lt_of_cell? _ _ h5
 ·unfold pwF at hg
  cases hk:Tryz.prog.globalNamed pw with
  | none=>rw [hk] at hg; cases hg
  | some k =>
   rw [hk] at hg
   rw [List.mem_singleton.1 hg]
   unfold Lib.TabIs World.var? at h2
   simp only [hk,Option.bind_some] at h2
   rcases Nat.lt_or_ge k w.heap.size with h' | h'
   ·exact h'
   ·simp [Array.getElem?_eq_none h'] at h2
noncomputable def gkO:Asr:=⟨[g1,g15,g16]++pwF,false,GkS,fun u hd h=>h.up u hd,fun h=>h.lt⟩
theorem hold_gk {nt:Nat} {w:World} (h:GkS w):Hold ⟨Tryz.prog,tab,[],w,nt,[]⟩ [] [gkO] w :=
 Hold.addObj (Hold.nil _ tab [] _ w) gkO h (by intro k; cases k) (by intro r hr; cases hr) (by intro A hA; cases hA)
theorem atoiY {s:List UInt8} {n:Int} {w:World} (hl:s.length≤1000000) (h:Lib.atoiAll s=.ok n):Calls Tryz.prog 66 #[.string ⟨s.toArray⟩] w fun e w'=>e=.returned (.tuple #[.int .i64 n,.nilIface])∧Since w w':=by
 refine (Go.Proofs.Any.strconv_Atoi_ok Tryz.laysC172 ⟨s.toArray⟩ (by rw [tx_size]; omega) n h w).mono ?_
 rintro e w' ⟨rfl,h | ⟨t,h⟩⟩
 ·exact ⟨rfl,h ▸ Since.refl _⟩
 ·exact ⟨rfl,by rw [h]; exact Lib.bytesWorld_below w _ t⟩
def erV (N:Nat):Value:=.iface 231 (.pointer (some ⟨N,0,none⟩))
theorem atoiN {s:List UInt8} {w:World} (hl:s.length≤1000000) (hg:GkS w) (h:∀ n,Lib.atoiAll s≠.ok n):Calls Tryz.prog 66 #[.string ⟨s.toArray⟩] w fun e w'=>∃ y:Int×Nat,e=.returned (.tuple #[.int .i64 y.1,erV y.2])∧Since w w':=by
 obtain ⟨v,h3,h4⟩:=hg.e
 obtain ⟨v',h5,h6⟩:=hg.r
 cases hq:Lib.atoiAll s with
 | ok n=>exact absurd hq (h n)
 | range =>
  refine (Go.Proofs.Any.strconv_Atoi_range Tryz.laysC172 ⟨s.toArray⟩ (by rw [tx_size]; omega) hq v' w h5 h6).mono ?_
  rintro e w' ⟨N,rfl,_,_,hb⟩
  exact ⟨(_,N),rfl,hb⟩
 | _ =>
  refine (Go.Proofs.Any.strconv_Atoi_syntax Tryz.laysC172 ⟨s.toArray⟩ (by rw [tx_size]; omega) hq v w h3 h4).mono ?_
  rintro e w' ⟨N,rfl,_,_,hb⟩
  exact ⟨(0,N),rfl,hb⟩
end Sp
namespace Sh
open Go.RowKit Ba Mem En Go.Proofs.YtnoehplnmdajnaaGreatDoor.Ty Gw
open Co (Hold.ob)
open Sx Sw Sp
open Go.Lib (itoa)
set_option maxRecDepth 100000
section
variable {b:Nat} {A:Option Addr} {bs:List UInt8} {w:World}
theorem byteO (c:UInt8) (k:Int) (hk:(c.toNat:Int)=k) (h:WrS b A bs w) (hlen:bs.length+1≤1000000):Calls Tryz.prog 46 #[me b,.int .u8 k] w fun e w'=>∃ A':Option Addr,e=.returned .nilIface∧WrS b A' (bs++[c]) w'∧Upd (b::blkOf A) w w'∧∀ g∈b::blkOf A',g∈b::blkOf A∨w.heap.size≤g:=by
 subst hk
 refine (wByte c h hlen).mono ?_
 rintro e w' ⟨rfl,A',h1⟩
 exact ⟨A',rfl,h1⟩
theorem textO (l:List UInt8) (h:WrS b A bs w) (hlen:bs.length+l.length≤1000000):Calls Tryz.prog 47 #[me b,.string ⟨l.toArray⟩] w fun e w'=>∃ A':Option Addr,e=.returned (.tuple #[.int .i64 (l.length:Int),.nilIface])∧WrS b A' (bs++l) w'∧Upd (b::blkOf A) w w'∧∀ g∈b::blkOf A',g∈b::blkOf A∨w.heap.size≤g:=by
 refine (wStr l h hlen).mono ?_
 rintro e w' ⟨rfl,A',h1⟩
 exact ⟨A',rfl,h1⟩
end
section
variable {X:Cx} {s:St} {o:Oper} {t:TypeId} {x:Operand} {k b:Nat} {y:Ty} {q:Nat×Nat×Bool}
theorem add0 (h:q.1=0):(⟨b,0,none⟩:Addr).add q.1=⟨b,0,none⟩:=by rw [h]; rfl
theorem opf0 (hX:X.Ok) {K:St→Prop} (ho:o.op=.fieldAddr t x k) (hx:evO x s.fr=some (.v (me b))) (hy:tyO t X.tab=some y) (hq:y.flds[k]?=some q) (h0:q.1=0) (h:put X.n o.dst (.v (me b)) s K):OpVC X o s K:=opfv hX ho hx hy hq (by rw [add0 h0]; exact h)
theorem puf0 (hX:X.Ok) {K:SV→Prop} (ho:o.op=.fieldAddr t x k) (hx:evO x s.fr=some (.v (me b))) (hy:tyO t X.tab=some y) (hq:y.flds[k]?=some q) (h0:q.1=0) (h:K (.v (me b))):PuVC X o s K:=pufv hX ho hx hy hq (by rw [add0 h0]; exact h)
end
inductive Wd where
 | nu (z:Int)
 | tx (l:List UInt8)
def Wd.v:Wd→Value
 | .nu z=>.iface 3 (.int .i64 z)
 | .tx l=>.iface 9 (.string ⟨l.toArray⟩)
def Wd.t:Wd→List UInt8
 | .nu z=>itoa z
 | .tx l=>l
def Wd.ok:Wd→Prop
 | .nu z=>n64 z
 | .tx _=>True
instance:Inhabited Wd:=⟨.nu 0⟩
def wdE:Ek Wd:=⟨20,1,fun x=>[x.v],fun _=>rfl,fun a u hu=>by
 rw [List.mem_singleton] at hu; subst hu; cases a <;> rfl⟩
def said (ws:Nat→Wd):Nat→List UInt8
 | 0=>[]
 | i+1=>said ws i++((if i=0 then [] else [32])++(ws i).t)
theorem said_le (ws:Nat→Wd) {i:Nat}:∀ {n:Nat},i≤n→(said ws i).length≤(said ws n).length
 | 0,h=>by rw [Nat.le_zero.1 h]; exact Nat.le_refl _
 | n+1,h=>by
  rcases Nat.lt_or_ge i (n+1) with h1 | h1
  ·have:=said_le ws (i:=i) (n:=n) (by omega)
   show _≤(said ws n++_).length
   rw [List.length_append]; omega
  ·rw [show i=n+1 by omega]; exact Nat.le_refl _
theorem said_next (ws:Nat→Wd) (i:Nat):said ws (i+1)=said ws i++((if i=0 then [] else [32])++(ws i).t):=rfl
def far (F:List Nat) (b:Nat) (A:Option Addr):Prop:=∀ g∈F,g∉b::blkOf A
theorem hold_ln {a:Option Addr} {n nt b:Nat} {A:Option Addr} {bs:List UInt8} {ws:Nat→Wd} {w:World} (hg:GkS w) (hr:wdE.Rd a n ws w) (h:WrS b A bs w) (d1:far gkO.F b A) (d2:far (rdF a n) b A):Hold ⟨Tryz.prog,tab,b::blkOf A,w,nt,[]⟩ [] [gkO,rdO wdE a n ws,wrO b A bs] w:=by
 refine Hold.addObj (Hold.addObj (Hold.addObj (Hold.nil _ tab (b::blkOf A) _ w) gkO hg (by intro k; cases k) (by intro r hr; cases hr) (by intro A hA; cases hA)) (rdO wdE a n ws) hr (by intro k; cases k) (by intro r hr; cases hr) ?_) (wrO b A bs) h (fun _ g hg=>.inl hg) (by intro r hr; cases hr) ?_
 ·intro C hC hw
  have hC:C∈[gkO]:=hC
  rw [List.mem_singleton] at hC; subst hC
  rcases hw with h | h <;> cases h
 ·intro C hC _
  have hC:C∈[gkO,rdO wdE a n ws]:=hC
  simp only [List.mem_cons,List.not_mem_nil,or_false] at hC
  rcases hC with rfl | rfl
  ·exact d1
  ·exact d2
attribute [local irreducible] Go.Calls itoa said n64
set_option maxHeartbeats 8000000 in
theorem lineW {a:Option Addr} {n c b:Nat} {A:Option Addr} {bs:List UInt8} {ws:Nat→Wd} {w:World} (hg:GkS w) (hr:wdE.Rd a n ws w) (h:WrS b A bs w) (d1:far gkO.F b A) (d2:far (rdF a n) b A) (hn:n≤100) (hok:∀ i,i < n→(ws i).ok) (hL:bs.length+(said ws n).length+1≤1000000) :
  Calls Tryz.prog 31 #[me b,.slice a n c] w fun e w'=>∃ A':Option Addr,e=.returned (.tuple #[])∧WrS b A' (bs++said ws n++[10]) w'∧Upd (b::blkOf A) w w'∧∀ g∈b::blkOf A',g∈b::blkOf A∨w.heap.size≤g:=by
 obtain ⟨g,off,hA⟩:=Ek.rd_addr hr
 refine entH tab_ok (hold_ln hg hr h d1 d2) [.v (me b),.v (.slice a n c)] Tryz.func31 Tryz.ntmps31 rfl rfl ?_
 repeat' ((conv=>whnf); first | refine sgo ⟨tab_ok⟩ ?_|refine br_not ?_|refine br_t rfl ?_|refine br_f rfl ?_|refine br_t (by assumption) ?_|refine br_f (by assumption) ?_|refine br_t (decide_eq_true (by assumption)) ?_|refine br_f (decide_eq_false (by assumption)) ?_|refine br_t (beq_iff_eq.2 (by assumption)) ?_|refine br_f (beq_eq_false_iff_ne.2 (by assumption)) ?_|refine drA ⟨tab_ok⟩ [] ?_|refine kpt ?_|refine br_t (decide_eq_true (by omega)) ?_|refine br_f (decide_eq_false (by omega)) ?_|refine fin_s ?_|refine fin_r ?_ ?_|refine fin_e ?_ ?_)
 conv=>whnf
 refine lp ⟨tab_ok⟩ (ι:={y:Nat×Option Addr×List UInt8 // y.1≤n∧y.2.2=bs++said ws y.1}) (fun y=>match y with | ⟨(i,B,x),_⟩=>⟨[(0,.v (me b)),(8,.v (.slice a n c)),(9,.i .i64 (n:Int)),(10,.i .i64 (i:Int))],[],[gkO,rdO wdE a n ws,wrO b B x]⟩) (fun y=>n - y.1.1) ⟨(0,A,bs),Nat.zero_le _,by simp [said]⟩ (wk ?_) ?_
 ·repeat' (first | exact trivial | rfl | ((conv=>whnf); refine And.intro ?_ ?_))
 rintro ⟨⟨i,B,x⟩,hi0,hx0⟩
 have hi:i≤n:=hi0
 have hx:x=bs++said ws i:=hx0
 have hle:=said_le ws hi
 have hxl:x.length=bs.length+(said ws i).length:=by rw [hx,List.length_append]
 by_cases hlt:i < n
 ·have hA:=hA (by omega)
  subst hA
  have hle2:=said_le ws (show i+1≤n from hlt)
  have hsl:(said ws (i+1)).length=(said ws i).length+((if i=0 then [] else [32])++(ws i).t).length:=by
   rw [said_next,List.length_append]
  have hnx:bs++said ws (i+1)=x++((if i=0 then [] else [32])++(ws i).t):=by
   rw [hx,said_next,List.append_assoc]
  have hoki:=hok i hlt
  rcases hwi:ws i with z | l
  ·rw [hwi] at hnx hoki hsl
   have hz:n64 z:=hoki
   have hz2 : -9223372036854775808≤z∧z≤9223372036854775807:=by unfold n64 at hz; exact hz
   by_cases h0:i=0
   ·rw [if_pos h0] at hnx hsl
    have hsl2:(said ws (i+1)).length=(said ws i).length+(itoa z).length:=hsl
    repeat' ((conv=>whnf); first | refine sgo ⟨tab_ok⟩ ?_|refine br_not ?_|refine br_t rfl ?_|refine br_f rfl ?_|refine br_t (by assumption) ?_|refine br_f (by assumption) ?_|refine br_t (decide_eq_true (by assumption)) ?_|refine br_f (decide_eq_false (by assumption)) ?_|refine br_t (beq_iff_eq.2 (by assumption)) ?_|refine br_f (beq_eq_false_iff_ne.2 (by assumption)) ?_|refine drA ⟨tab_ok⟩ [] ?_|refine kpt ?_|refine br_t (decide_eq_true (by omega)) ?_|refine br_f (decide_eq_false (by omega)) ?_|refine wr_i ?_|refine punv (by rfl) (by rfl) ?_|refine puf0 ⟨tab_ok⟩ (by rfl) (by rfl) (by rfl) (by rfl) (by rfl) ?_|refine opnv (by rfl) (by rfl) ?_|refine opf0 ⟨tab_ok⟩ (by rfl) (by rfl) (by rfl) (by rfl) (by rfl) ?_|refine opiv ⟨tab_ok⟩ (by rfl) (by rfl) (by rfl) (by rfl) (by rfl) (by rfl) ⟨by omega,by omega⟩ ?_|refine opxc (g:=g) (off:=off+i*1) (.v (.iface 3 (.int .i64 z))) (fun w1 hH=>by have h:=Ek.rd_rng (Hold.ob hH (A:=rdO wdE (some ⟨g,off,none⟩) n ws) 1 rfl) hlt; rw [hwi] at h; exact h) ⟨tab_ok⟩ (by rfl) (by rfl) (by first | (simp only [Go.WideShapes.add_plain]; done)|(simp only [Go.WideShapes.add_plain]; rfl)) ?_|refine callO (f:=46) 2 (A:=wrO b B x) (fun _:Option Addr=>.v .nilIface) (fun B1=>wrO b B1 (x++[32])) (fun w1 hH hA=>byteO 32 32 (by decide) hA (by omega)) (fun B1=>?_)|refine opP (pvTa (aT:=3) (.t [.i .i64 z,.b true]) (by rfl) (by rfl) (fun w=>by kernel_rfl)) ?_|refine callH (f:=48) (tx (itoa z)) (fun w1 hH=>itoaC z hz2.1 hz2.2 w1 (Hold.ob hH (A:=gkO) 0 rfl).p) ?_|refine callO (f:=47) 2 (A:=wrO b B x) (fun _:Option Addr=>.t [.i .i64 ((itoa z).length:Int),.v .nilIface]) (fun B2=>wrO b B2 (x++itoa z)) (fun w1 hH hA=>textO (itoa z) hA (by first | omega | (simp only [List.length_append,List.length_cons,List.length_nil]; omega))) (fun B2=>?_)|refine En.back ⟨(i+1,B2,x++itoa z),by show i+1≤n; omega,hnx.symm⟩ (wkd ?_) ?_|refine fin_s ?_|refine fin_r ?_ ?_|refine fin_e ?_ ?_)
    all_goals first | (show n - (i+1) < n - i; omega)|skip
    all_goals (repeat' (first | exact trivial | rfl | ((conv=>whnf); refine And.intro ?_ ?_)))
   ·rw [if_neg h0] at hnx hsl
    have hsl2:(said ws (i+1)).length=(said ws i).length+(itoa z).length+1:=by rw [hsl,List.length_append]; show _+(1+_)=_; rw [show (Wd.nu z).t=itoa z from rfl]; omega
    repeat' ((conv=>whnf); first | refine sgo ⟨tab_ok⟩ ?_|refine br_not ?_|refine br_t rfl ?_|refine br_f rfl ?_|refine br_t (by assumption) ?_|refine br_f (by assumption) ?_|refine br_t (decide_eq_true (by assumption)) ?_|refine br_f (decide_eq_false (by assumption)) ?_|refine br_t (beq_iff_eq.2 (by assumption)) ?_|refine br_f (beq_eq_false_iff_ne.2 (by assumption)) ?_|refine drA ⟨tab_ok⟩ [] ?_|refine kpt ?_|refine br_t (decide_eq_true (by omega)) ?_|refine br_f (decide_eq_false (by omega)) ?_|refine wr_i ?_|refine punv (by rfl) (by rfl) ?_|refine puf0 ⟨tab_ok⟩ (by rfl) (by rfl) (by rfl) (by rfl) (by rfl) ?_|refine opnv (by rfl) (by rfl) ?_|refine opf0 ⟨tab_ok⟩ (by rfl) (by rfl) (by rfl) (by rfl) (by rfl) ?_|refine opiv ⟨tab_ok⟩ (by rfl) (by rfl) (by rfl) (by rfl) (by rfl) (by rfl) ⟨by omega,by omega⟩ ?_|refine opxc (g:=g) (off:=off+i*1) (.v (.iface 3 (.int .i64 z))) (fun w1 hH=>by have h:=Ek.rd_rng (Hold.ob hH (A:=rdO wdE (some ⟨g,off,none⟩) n ws) 1 rfl) hlt; rw [hwi] at h; exact h) ⟨tab_ok⟩ (by rfl) (by rfl) (by first | (simp only [Go.WideShapes.add_plain]; done)|(simp only [Go.WideShapes.add_plain]; rfl)) ?_|refine callO (f:=46) 2 (A:=wrO b B x) (fun _:Option Addr=>.v .nilIface) (fun B1=>wrO b B1 (x++[32])) (fun w1 hH hA=>byteO 32 32 (by decide) hA (by omega)) (fun B1=>?_)|refine opP (pvTa (aT:=3) (.t [.i .i64 z,.b true]) (by rfl) (by rfl) (fun w=>by kernel_rfl)) ?_|refine callH (f:=48) (tx (itoa z)) (fun w1 hH=>itoaC z hz2.1 hz2.2 w1 (Hold.ob hH (A:=gkO) 0 rfl).p) ?_|refine callO (f:=47) 2 (A:=wrO b B1 (x++[32])) (fun _:Option Addr=>.t [.i .i64 ((itoa z).length:Int),.v .nilIface]) (fun B2=>wrO b B2 ((x++[32])++itoa z)) (fun w1 hH hA=>textO (itoa z) hA (by first | omega | (simp only [List.length_append,List.length_cons,List.length_nil]; omega))) (fun B2=>?_)|refine En.back ⟨(i+1,B2,(x++[32])++itoa z),by show i+1≤n; omega,by rw [List.append_assoc]; exact hnx.symm⟩ (wkd ?_) ?_|refine fin_s ?_|refine fin_r ?_ ?_|refine fin_e ?_ ?_)
    all_goals first | (show n - (i+1) < n - i; omega)|skip
    all_goals (repeat' (first | exact trivial | rfl | ((conv=>whnf); refine And.intro ?_ ?_)))
  ·rw [hwi] at hnx hoki hsl
   by_cases h0:i=0
   ·rw [if_pos h0] at hnx hsl
    have hsl2:(said ws (i+1)).length=(said ws i).length+(l).length:=hsl
    repeat' ((conv=>whnf); first | refine sgo ⟨tab_ok⟩ ?_|refine br_not ?_|refine br_t rfl ?_|refine br_f rfl ?_|refine br_t (by assumption) ?_|refine br_f (by assumption) ?_|refine br_t (decide_eq_true (by assumption)) ?_|refine br_f (decide_eq_false (by assumption)) ?_|refine br_t (beq_iff_eq.2 (by assumption)) ?_|refine br_f (beq_eq_false_iff_ne.2 (by assumption)) ?_|refine drA ⟨tab_ok⟩ [] ?_|refine kpt ?_|refine br_t (decide_eq_true (by omega)) ?_|refine br_f (decide_eq_false (by omega)) ?_|refine wr_i ?_|refine punv (by rfl) (by rfl) ?_|refine puf0 ⟨tab_ok⟩ (by rfl) (by rfl) (by rfl) (by rfl) (by rfl) ?_|refine opnv (by rfl) (by rfl) ?_|refine opf0 ⟨tab_ok⟩ (by rfl) (by rfl) (by rfl) (by rfl) (by rfl) ?_|refine opiv ⟨tab_ok⟩ (by rfl) (by rfl) (by rfl) (by rfl) (by rfl) (by rfl) ⟨by omega,by omega⟩ ?_|refine opxc (g:=g) (off:=off+i*1) (.v (.iface 9 (.string ⟨l.toArray⟩))) (fun w1 hH=>by have h:=Ek.rd_rng (Hold.ob hH (A:=rdO wdE (some ⟨g,off,none⟩) n ws) 1 rfl) hlt; rw [hwi] at h; exact h) ⟨tab_ok⟩ (by rfl) (by rfl) (by first | (simp only [Go.WideShapes.add_plain]; done)|(simp only [Go.WideShapes.add_plain]; rfl)) ?_|refine callO (f:=46) 2 (A:=wrO b B x) (fun _:Option Addr=>.v .nilIface) (fun B1=>wrO b B1 (x++[32])) (fun w1 hH hA=>byteO 32 32 (by decide) hA (by omega)) (fun B1=>?_)|refine opP (pvTa (aT:=3) (.t [.i .i64 0,.b false]) (by rfl) (by rfl) (fun w=>by kernel_rfl)) ?_|refine puP (pvTa (aT:=9) (tx l) (by rfl) (by rfl) (fun w=>by kernel_rfl)) ?_|refine callO (f:=47) 2 (A:=wrO b B x) (fun _:Option Addr=>.t [.i .i64 ((l).length:Int),.v .nilIface]) (fun B2=>wrO b B2 (x++l)) (fun w1 hH hA=>textO (l) hA (by first | omega | (simp only [List.length_append,List.length_cons,List.length_nil]; omega))) (fun B2=>?_)|refine En.back ⟨(i+1,B2,x++l),by show i+1≤n; omega,hnx.symm⟩ (wkd ?_) ?_|refine fin_s ?_|refine fin_r ?_ ?_|refine fin_e ?_ ?_)
    all_goals first | (show n - (i+1) < n - i; omega)|skip
    all_goals (repeat' (first | exact trivial | rfl | ((conv=>whnf); refine And.intro ?_ ?_)))
   ·rw [if_neg h0] at hnx hsl
    have hsl2:(said ws (i+1)).length=(said ws i).length+(l).length+1:=by rw [hsl,List.length_append]; show _+(1+_)=_; rw [show (Wd.tx l).t=l from rfl]; omega
    repeat' ((conv=>whnf); first | refine sgo ⟨tab_ok⟩ ?_|refine br_not ?_|refine br_t rfl ?_|refine br_f rfl ?_|refine br_t (by assumption) ?_|refine br_f (by assumption) ?_|refine br_t (decide_eq_true (by assumption)) ?_|refine br_f (decide_eq_false (by assumption)) ?_|refine br_t (beq_iff_eq.2 (by assumption)) ?_|refine br_f (beq_eq_false_iff_ne.2 (by assumption)) ?_|refine drA ⟨tab_ok⟩ [] ?_|refine kpt ?_|refine br_t (decide_eq_true (by omega)) ?_|refine br_f (decide_eq_false (by omega)) ?_|refine wr_i ?_|refine punv (by rfl) (by rfl) ?_|refine puf0 ⟨tab_ok⟩ (by rfl) (by rfl) (by rfl) (by rfl) (by rfl) ?_|refine opnv (by rfl) (by rfl) ?_|refine opf0 ⟨tab_ok⟩ (by rfl) (by rfl) (by rfl) (by rfl) (by rfl) ?_|refine opiv ⟨tab_ok⟩ (by rfl) (by rfl) (by rfl) (by rfl) (by rfl) (by rfl) ⟨by omega,by omega⟩ ?_|refine opxc (g:=g) (off:=off+i*1) (.v (.iface 9 (.string ⟨l.toArray⟩))) (fun w1 hH=>by have h:=Ek.rd_rng (Hold.ob hH (A:=rdO wdE (some ⟨g,off,none⟩) n ws) 1 rfl) hlt; rw [hwi] at h; exact h) ⟨tab_ok⟩ (by rfl) (by rfl) (by first | (simp only [Go.WideShapes.add_plain]; done)|(simp only [Go.WideShapes.add_plain]; rfl)) ?_|refine callO (f:=46) 2 (A:=wrO b B x) (fun _:Option Addr=>.v .nilIface) (fun B1=>wrO b B1 (x++[32])) (fun w1 hH hA=>byteO 32 32 (by decide) hA (by omega)) (fun B1=>?_)|refine opP (pvTa (aT:=3) (.t [.i .i64 0,.b false]) (by rfl) (by rfl) (fun w=>by kernel_rfl)) ?_|refine puP (pvTa (aT:=9) (tx l) (by rfl) (by rfl) (fun w=>by kernel_rfl)) ?_|refine callO (f:=47) 2 (A:=wrO b B1 (x++[32])) (fun _:Option Addr=>.t [.i .i64 ((l).length:Int),.v .nilIface]) (fun B2=>wrO b B2 ((x++[32])++l)) (fun w1 hH hA=>textO (l) hA (by first | omega | (simp only [List.length_append,List.length_cons,List.length_nil]; omega))) (fun B2=>?_)|refine En.back ⟨(i+1,B2,(x++[32])++l),by show i+1≤n; omega,by rw [List.append_assoc]; exact hnx.symm⟩ (wkd ?_) ?_|refine fin_s ?_|refine fin_r ?_ ?_|refine fin_e ?_ ?_)
    all_goals first | (show n - (i+1) < n - i; omega)|skip
    all_goals (repeat' (first | exact trivial | rfl | ((conv=>whnf); refine And.intro ?_ ?_)))
 ·have e0:i=n:=by omega
  subst e0
  repeat' ((conv=>whnf); first | refine sgo ⟨tab_ok⟩ ?_|refine br_not ?_|refine br_t rfl ?_|refine br_f rfl ?_|refine br_t (by assumption) ?_|refine br_f (by assumption) ?_|refine br_t (decide_eq_true (by assumption)) ?_|refine br_f (decide_eq_false (by assumption)) ?_|refine br_t (beq_iff_eq.2 (by assumption)) ?_|refine br_f (beq_eq_false_iff_ne.2 (by assumption)) ?_|refine drA ⟨tab_ok⟩ [] ?_|refine kpt ?_|refine br_t (decide_eq_true (by omega)) ?_|refine br_f (decide_eq_false (by omega)) ?_|refine punv (by rfl) (by rfl) ?_|refine puf0 ⟨tab_ok⟩ (by rfl) (by rfl) (by rfl) (by rfl) (by rfl) ?_|refine opnv (by rfl) (by rfl) ?_|refine opf0 ⟨tab_ok⟩ (by rfl) (by rfl) (by rfl) (by rfl) (by rfl) ?_|refine callO (f:=46) 2 (A:=wrO b B x) (fun _:Option Addr=>.v .nilIface) (fun B1=>wrO b B1 (x++[10])) (fun w1 hH hA=>byteO 10 10 (by decide) hA (by omega)) (fun B1=>?_)|refine fin fun w' hH=>⟨B1,rfl,hx ▸ Hold.ob hH (A:=wrO b B1 (x++[10])) 2 rfl,hH.upd,fun g hg=>hH.own _ (List.mem_of_getElem? (i:=2) rfl) rfl g hg⟩|refine fin_s ?_|refine fin_r ?_ ?_|refine fin_e ?_ ?_)
end Sh
namespace Sh
open Go.RowKit Ba Mem En Go.Proofs.YtnoehplnmdajnaaGreatDoor.Ty Gw
open Co (Hold.ob)
open Sx Sw Sp
open Go.Lib (itoa)
set_option maxRecDepth 100000
def told (l:List Wd):List UInt8:=said (fun i=>l.getD i default) l.length++[10]
theorem rd_ls {α:Type} [Inhabited α] {E:Ek α} {lo n c:Nat} {A:Option Addr} {ls:List α} {w:World} (h:E.At lo A n c ls w) (hl:ls.length=n):E.Rd A n (fun i=>ls.getD i default) w:=by
 rcases Nat.eq_zero_or_pos n with h0 | h0
 ·exact .inl h0
 ·obtain ⟨g,hA⟩:=Ek.addr h
  have hA:=hA h0
  subst hA
  refine .inr ⟨g,0,rfl,own_lt h g (List.mem_singleton.2 rfl),fun i hi j v hj=>?_⟩
  obtain ⟨x,hx⟩:∃ x,ls[i]?=some x:=⟨_,List.getElem?_eq_getElem (by omega)⟩
  have hd:ls.getD i default=x:=by rw [List.getD_eq_getElem?_getD,hx]; rfl
  have hj:(E.c (ls.getD i default))[j]?=some v:=hj
  rw [hd] at hj
  exact Ek.rng h hx j v hj
theorem rdF_sub {a:Option Addr} {n:Nat}:∀ g∈rdF a n,g∈blkOf a:=fun g hg=>by
 cases n with
 | zero=>cases hg
 | succ n=>exact hg
theorem apart {X:Cx} {m:List Row} {ob:List Asr} {w:World} (h:Hold X m ob w) {A C:Asr} (i j:Nat) (hi:ob[i]?=some A) (hj:ob[j]?=some C) (hne:i≠j) (hw:A.rw=true∨C.rw=true):∀ g∈A.F,g∉C.F:=pair_at (R:=DisR) (fun _ _ h=>h.symm) h.dis hi hj hne hw
theorem lineA {A0:Option Addr} {lo n c b:Nat} {A:Option Addr} {bs:List UInt8} {ls:List Wd} {w:World} (hg:GkS w) (hr:wdE.At lo A0 n c ls w) (hl:ls.length=n) (h:WrS b A bs w) (d1:far gkO.F b A) (d2:far (blkOf A0) b A) (hn:n≤100) (hok:∀ x∈ls,x.ok) (hL:bs.length+(told ls).length≤1000000) :
  Calls Tryz.prog 31 #[me b,.slice A0 n c] w fun e w'=>∃ A':Option Addr,e=.returned (.tuple #[])∧WrS b A' (bs++told ls) w'∧Upd (b::blkOf A) w w'∧∀ g∈b::blkOf A',g∈b::blkOf A∨w.heap.size≤g:=by
 have ht:told ls=said (fun i=>ls.getD i default) n++[10]:=by rw [← hl]; rfl
 rw [ht] at hL ⊢
 rw [← List.append_assoc]
 rw [List.length_append] at hL
 refine lineW hg (rd_ls hr hl) h d1 (fun g hg=>d2 g (rdF_sub g hg)) hn (fun i hi=>?_) (by simp only [List.length_cons,List.length_nil] at hL; omega)
 have hx:ls[i]?=some ls[i]:=List.getElem?_eq_getElem (by omega)
 show (ls.getD i default).ok
 rw [List.getD_eq_getElem?_getD,hx]
 exact hok _ (List.getElem_mem _)
theorem rows_wd:∀ l:List Wd,rowsOf wdE.c l=l.map Wd.v
 | []=>rfl
 | x::r=>by show [x.v]++rowsOf wdE.c r=_; rw [rows_wd r]; rfl
theorem rd_reads {a:Option Addr} {n:Nat} {ws:Nat→Wd} {w:World} (h:wdE.Rd a n ws w):Reads w w.heap.size 1 a n (((List.range n).map ws).map Wd.v):=by
 refine ⟨by simp,fun h0=>?_⟩
 rcases h with h | ⟨b,off,rfl,hb,hc⟩
 ·omega
 ·refine ⟨⟨b,off,none⟩,rfl,hb,fun j v hj=>?_⟩
  have hjn:j < n:=by have:=(List.getElem?_eq_some_iff.1 hj).1; simpa using this
  have hv:v=(ws j).v:=by
   rw [List.getElem?_map,List.getElem?_map,List.getElem?_range hjn] at hj
   injection hj with hj; exact hj.symm
  subst hv
  have:=hc j hjn 0 (ws j).v rfl
  rw [Go.WideShapes.add_plain]
  simpa [wdE] using this
abbrev tI:TypeId:=20
theorem uI:Tryz.prog.underlying 71=some (.slice tI):=Tryz.underlying71
def errT:List UInt8:=[101,114,114,111,114]
def faultL (err:Int) (n:Nat) (ws:Nat→Wd):List Wd:=[.tx errT,.nu err]++(List.range n).map ws
theorem faultL_len (err:Int) (n:Nat) (ws:Nat→Wd):(faultL err n ws).length=2+n:=by simp [faultL]; omega
attribute [local irreducible] Go.Calls told n64
set_option maxHeartbeats 8000000 in
theorem faultW {a:Option Addr} {n c b:Nat} {A:Option Addr} {bs:List UInt8} {ws:Nat→Wd} {err:Int} {w:World} (hg:GkS w) (hr:wdE.Rd a n ws w) (h:WrS b A bs w) (d1:far gkO.F b A) (d2:far (rdF a n) b A) (hn:n≤10) (he:n64 err) (hok:∀ i,i < n→(ws i).ok) (hL:bs.length+(told (faultL err n ws)).length≤1000000) :
  Calls Tryz.prog 16 #[me b,.int .i64 err,.slice a n c] w fun e w'=>∃ A':Option Addr,e=.returned (.tuple #[])∧WrS b A' (bs++told (faultL err n ws)) w'∧Upd (b::blkOf A) w w'∧∀ g∈b::blkOf A',g∈b::blkOf A∨w.heap.size≤g:=by
 have hlen:=faultL_len err n ws
 have hoks:∀ x∈faultL err n ws,x.ok:=by
  intro x hx
  unfold faultL at hx
  rcases List.mem_append.1 hx with hx | hx
  ·simp only [List.mem_cons,List.not_mem_nil,or_false] at hx
   rcases hx with rfl | rfl
   ·trivial
   ·exact he
  ·obtain ⟨i,hi,rfl⟩:=List.mem_map.1 hx
   exact hok i (List.mem_range.1 hi)
 refine entH tab_ok (hold_ln hg hr h d1 d2) [.v (me b),.i .i64 err,.v (.slice a n c)] Tryz.func16 Tryz.ntmps16 rfl rfl ?_
 repeat' ((conv=>whnf); first | refine sgo ⟨tab_ok⟩ ?_|refine br_not ?_|refine br_t rfl ?_|refine br_f rfl ?_|refine br_t (by assumption) ?_|refine br_f (by assumption) ?_|refine br_t (decide_eq_true (by assumption)) ?_|refine br_f (decide_eq_false (by assumption)) ?_|refine br_t (beq_iff_eq.2 (by assumption)) ?_|refine br_f (beq_eq_false_iff_ne.2 (by assumption)) ?_|refine drA ⟨tab_ok⟩ [] ?_|refine kpt ?_|refine br_t (decide_eq_true (by omega)) ?_|refine br_f (decide_eq_false (by omega)) ?_|refine opP (pvMk (by rfl) (by rfl) (by kernel_rfl)) ?_|refine opbo ⟨tab_ok⟩ wdE [.tx errT,.nu err] [.tmp 7,.tmp 9] [.v (.iface 9 (.string ⟨errT.toArray⟩)),.v (.iface 3 (.int .i64 err))] (by rfl) (by rfl) (by rfl) (by rfl) rfl (fun g0=>?_)|refine opapo 3 1 (e:=tI) (lo:=w.heap.size) (size:=1) (bytes:=16) (z:=.nilIface) (A:=rwO wdE w.heap.size (some ⟨g0,0,none⟩) 2 2 [.tx errT,.nu err] true) (C:=rdO wdE a n ws) (vals:=rowsOf wdE.c [.tx errT,.nu err]) (cells:=((List.range n).map ws).map Wd.v) (zs:=rowsOf wdE.c (faultL err n ws)) (n2:=2+n) (fun A2 c2=>rwO wdE w.heap.size A2 (2+n) c2 (faultL err n ws) true) (by rfl) (by rfl) (by rfl) (by rfl) rfl rfl (fun w h=>h) (fun A' c' w h=>h) (fun _ _=>rfl) (by rfl) (fun w h=>rd_reads h) uI (by kernel_rfl) rfl (by decide) (by decide) (by intro u hu; obtain ⟨x,_,rfl⟩:=List.mem_map.1 hu; cases x <;> rfl) (by omega) (fun w hH=>hH.upd.size) rfl (by rw [rows_wd,rows_wd,← List.map_append]; rfl) (fun A2 c2=>?_)|refine callO (f:=31) 2 (A:=wrO b A bs) (fun _:Option Addr=>.t []) (fun B1=>wrO b B1 (bs++told (faultL err n ws))) (fun w1 hH hA=>lineA (Hold.ob hH (A:=gkO) 0 rfl) (Hold.ob hH (A:=rwO wdE w.heap.size A2 (2+n) c2 (faultL err n ws) true) 3 rfl) hlen hA (apart hH 0 2 rfl rfl (by decide) (.inr rfl)) (apart hH 3 2 rfl rfl (by decide) (.inr rfl)) (by omega) hoks hL) (fun B1=>?_)|refine fin fun w' hH=>⟨B1,rfl,Hold.ob hH (A:=wrO b B1 (bs++told (faultL err n ws))) 2 rfl,hH.upd,fun g hg=>hH.own _ (List.mem_of_getElem? (i:=2) rfl) rfl g hg⟩|refine fin_s ?_|refine fin_r ?_ ?_|refine fin_e ?_ ?_)
end Sh
end Go.Proofs.YtnoehplnmdajnaaGreatDoor
