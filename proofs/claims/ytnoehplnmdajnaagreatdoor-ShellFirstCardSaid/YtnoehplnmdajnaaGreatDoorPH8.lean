/-
  Wanted: part 8.
  No condition.
-/
import Derived.Test.YtnoehplnmdajnaaGreatDoorPH7
import Derived.Test.YtnoehplnmdajnaaGreatDoorPH5
import Derived.Test.YtnoehplnmdajnaaGreatDoorProg
import Derived.Test.YtnoehplnmdajnaaGreatDoorPH1
import Derived.Test.YtnoehplnmdajnaaGreatDoorPH3
import Derived.Test.YtnoehplnmdajnaaGreatDoorPH4
import Derived.Maps.OwnSet
import Derived.Test.YtnoehplnmdajnaaGreatDoorRows
import Derived.Test.YtnoehplnmdajnaaGreatDoorPH0
import Derived.Deep.Slices
import Derived.WalkKit
import Derived.Laws.BitsAllLaws
import Derived.WalkLawsBesides
import Derived.IntWalk
import Derived.Lib.Hide
import Derived.Lib.SlBytesConst
import Derived.Deep.WholeRow
import Derived.Lib.Strings
import Derived.Test.YtnoehplnmdajnaaGreatDoorPH2
import Derived.Defers
set_option linter.all false
namespace Go.Proofs.YtnoehplnmdajnaaGreatDoor
namespace Sp
open Go.RowKit Ba Mem En Go.Proofs.YtnoehplnmdajnaaGreatDoor.Ty Gw Rn
open Co (Hold.ob)
open Sx Sw
set_option maxRecDepth 100000
def tbO (B:Nat) (s:List UInt8):Asr:=⟨[B],true,fun w=>bx w B s,fun u hd h=>u.blk h (hd B (List.mem_singleton.2 rfl)),fun h g hg=>by rw [List.mem_singleton] at hg; subst hg; exact Blk.lt h⟩
theorem hold_I0 {w W:World} {b2 b3 b4 b5 b6 B n:Nat} {s:List UInt8} (h:Hold ⟨Tryz.prog,tab,[],w,n,[]⟩ (rowsI b2 b3 b4 b5 b6 none 0 0 0) [gkO,tbO B s] W):Hold ⟨Tryz.prog,tab,[],w,n,[]⟩ (rowsI b2 b3 b4 b5 b6 none 0 0 0) (obI w.heap.size [] none 0 B) W:=by
 have m0:gkO∈[gkO,tbO B s]:=List.mem_cons_self ..
 have m1:tbO B s∈[gkO,tbO B s]:=List.mem_cons_of_mem _ (List.mem_cons_self ..)
 have h0:Hold ⟨Tryz.prog,tab,[],w,n,[]⟩ (rowsI b2 b3 b4 b5 b6 none 0 0 0) [gkO] W:=⟨h.upd,h.row,h.wf,h.ne,fun C hC=>h.obj C (by rw [List.mem_singleton.1 hC]; exact m0),fun C hC=>h.far C (by rw [List.mem_singleton.1 hC]; exact m0),fun C hC=>h.own C (by rw [List.mem_singleton.1 hC]; exact m0),List.pairwise_singleton _ _⟩
 have h1:=Hold.addObj h0 (rwO stepE w.heap.size none 0 0 [] true) (Ek.nil _ _ _) (by intro _ g hg; cases hg) (by intro r _ _ hg; cases hg) (by intro A _ _ g _ hg; cases hg)
 have h2:=Hold.addObj h1 (ddO w.heap.size []) (DdAt.nil _ _) (by intro _ g hg; cases hg) (by intro r _ _ hg; cases hg) (by intro A _ _ g _ hg; cases hg)
 refine Hold.addObj h2 (bxO B) (Blk.lt (h.obj _ m1)) (by intro h; cases h) (fun r hr hl hg=>?_) (fun A hA hw=>?_)
 ·obtain ⟨j,hj⟩:=List.getElem?_of_mem hr
  exact h.far _ m1 j r hj hl hg
 ·rcases List.mem_append.1 hA with hA | hA
  ·rcases List.mem_append.1 hA with hA | hA
   ·rw [List.mem_singleton.1 hA] at hw; rcases hw with h | h <;> cases h
   ·rw [List.mem_singleton.1 hA]; intro g hg; cases hg
  ·rw [List.mem_singleton.1 hA]; intro g hg; cases hg
theorem obI_up {lo c B:Nat} {os:List StepD} {A:Option Addr} {T:List Nat} {W W':World} (h:∀ C∈obI lo os A c B,C.st W) (u:Upd T W W') (hT:∀ g∈T,NC W g):∀ C∈obI lo os A c B,C.st W':=fun C hC=>by
 have hC2:=hC
 unfold obI at hC
 simp only [List.mem_cons,List.not_mem_nil,or_false] at hC
 rcases hC with rfl | rfl | rfl | rfl
 ·exact gkO.up u (fun g hg h3=>gk_cl W g (h _ hC2) hg (hT g h3)) (h _ hC2)
 ·exact Asr.up _ u (fun g hg h3=>rw_cl W g (h _ hC2) hg (hT g h3)) (h _ hC2)
 ·exact Asr.up _ u (fun g hg h3=>dd_cl W g (h _ hC2) hg (hT g h3)) (h _ hC2)
 ·exact Nat.lt_of_lt_of_le (h _ hC2) u.size
theorem hold_X {w W0 W:World} {b2 b3 b4 b5 b6 n:Nat} {k:Int} {ob:List Asr} (h:Hold ⟨Tryz.prog,tab,[],w,n,[]⟩ (rowsI b2 b3 b4 b5 b6 none 0 0 0) ob W0) (hu:Upd [] w W) (k2:Blk W b2 25 #[.slice none 0 0]) (k3:Blk W b3 3 #[.int .i64 k]) (k4:Blk W b4 26 #[.int .i64 8]):Hold ⟨Tryz.prog,tab,[],w,n,[]⟩ [⟨b2,25,true,0,[],[.v (.slice none 0 0)],[],true⟩,⟨b3,3,true,0,[],[.i .i64 k],[],true⟩,⟨b4,26,true,0,[],[.i .i64 8],[],true⟩] [] W:=by
 have e23:b2≠b3:=h.ne 0 1 _ _ rfl rfl rfl rfl (by decide)
 have e24:b2≠b4:=h.ne 0 2 _ _ rfl rfl rfl rfl (by decide)
 have e34:b3≠b4:=h.ne 1 2 _ _ rfl rfl rfl rfl (by decide)
 have l2:=(h.wf 0 _ rfl rfl).2.2 rfl
 have l3:=(h.wf 1 _ rfl rfl).2.2 rfl
 have l4:=(h.wf 2 _ rfl rfl).2.2 rfl
 refine ⟨hu, ?_, ?_, ?_,(by intro A hA; cases hA),(by intro A hA; cases hA),(by intro A hA; cases hA),List.Pairwise.nil⟩
 ·rintro (_ | _ | _|j) r hj hl
  ·cases hj; exact k2
  ·cases hj; exact k3
  ·cases hj; exact k4
  ·simp at hj
 ·rintro (_ | _ | _|j) r hj hl
  ·cases hj; exact ⟨rfl,rfl,fun _=>l2⟩
  ·cases hj; exact ⟨rfl,rfl,fun _=>l3⟩
  ·cases hj; exact ⟨rfl,rfl,fun _=>l4⟩
  ·simp at hj
 ·rintro (_ | _ | _|i) (_ | _ | _|j) r q hi hj _ _ hij <;> simp at hi hj <;> (try subst hi) <;> (try subst hj) <;> first
   | exact absurd rfl hij
   | assumption
   | exact Ne.symm (by assumption)
theorem don {X:Cx} {v:Env} {pre:List Ln} {s:St} {os:List StepD} {A:Option Addr} {c:Nat} {ob2:List Asr} (hH:∀ w,Hold X s.m s.ob w→Hold X s.m ob2 w) (hok:okL_ pre os) (hw:Wk X ⟨s.fr,s.m,ob2⟩ ⟨[],rowsI v.b2 v.b3 v.b4 v.b5 v.b6 A os.length c pre.length,obI v.w.heap.size os A c v.B⟩):Don X v pre s:=⟨⟨os,A,c,hok,⟨fun a w hR=>hw.out a w ⟨hR.ds,hR.sz,hR.fr,hH w hR.h⟩⟩⟩⟩
theorem err {X:Cx} {v:Env} {pre:List Ln} {s:St} (h:∀ w,Hold X s.m s.ob w→(∃ (p:List Ln) (x:Ln) (os:List StepD),pre=p++[x]∧okL_ p os∧lineQ x.1=none)∧Blk w v.b2 25 #[.slice none 0 0]∧Blk w v.b3 3 #[.int .i64 (pre.length:Int)]∧Blk w v.b4 26 #[.int .i64 8]):Err X v pre s:=⟨h⟩
attribute [local irreducible] Go.Calls goE lineQ readV zsN
set_option maxHeartbeats 8000000 in
theorem parseP (s:List UInt8) (hs:s.length≤200000) {w:World} (hg:GkS w):Calls Tryz.prog 18 #[.string ⟨s.toArray⟩] w (rdP w (rdT 0 [] s)):=by
 refine entW (N:=2) (hold_gk hg) [tx s] Tryz.func18 Tryz.ntmps18 rfl rfl ?_
 repeat' ((conv=>whnf); first | refine sgo ⟨tab_ok⟩ ?_|refine br_not ?_|refine br_t rfl ?_|refine br_f rfl ?_|refine br_t (by assumption) ?_|refine br_f (by assumption) ?_|refine br_t (decide_eq_true (by assumption)) ?_|refine br_f (decide_eq_false (by assumption)) ?_|refine br_t (beq_iff_eq.2 (by assumption)) ?_|refine br_f (beq_eq_false_iff_ne.2 (by assumption)) ?_|refine wreg ⟨tab_ok⟩ ?_|refine drA ⟨tab_ok⟩ [] ?_|refine kpt ?_|refine br_t (decide_eq_true (by omega)) ?_|refine br_f (decide_eq_false (by omega)) ?_|refine fin_s ?_|refine fin_r ?_ ?_|refine fin_e ?_ ?_)
 conv=>whnf
 intro b2
 repeat' ((conv=>whnf); first | refine sgo ⟨tab_ok⟩ ?_|refine br_not ?_|refine br_t rfl ?_|refine br_f rfl ?_|refine br_t (by assumption) ?_|refine br_f (by assumption) ?_|refine br_t (decide_eq_true (by assumption)) ?_|refine br_f (decide_eq_false (by assumption)) ?_|refine br_t (beq_iff_eq.2 (by assumption)) ?_|refine br_f (beq_eq_false_iff_ne.2 (by assumption)) ?_|refine wreg ⟨tab_ok⟩ ?_|refine drA ⟨tab_ok⟩ [] ?_|refine kpt ?_|refine br_t (decide_eq_true (by omega)) ?_|refine br_f (decide_eq_false (by omega)) ?_|refine fin_s ?_|refine fin_r ?_ ?_|refine fin_e ?_ ?_)
 conv=>whnf
 intro b3
 repeat' ((conv=>whnf); first | refine sgo ⟨tab_ok⟩ ?_|refine br_not ?_|refine br_t rfl ?_|refine br_f rfl ?_|refine br_t (by assumption) ?_|refine br_f (by assumption) ?_|refine br_t (decide_eq_true (by assumption)) ?_|refine br_f (decide_eq_false (by assumption)) ?_|refine br_t (beq_iff_eq.2 (by assumption)) ?_|refine br_f (beq_eq_false_iff_ne.2 (by assumption)) ?_|refine wreg ⟨tab_ok⟩ ?_|refine drA ⟨tab_ok⟩ [] ?_|refine kpt ?_|refine br_t (decide_eq_true (by omega)) ?_|refine br_f (decide_eq_false (by omega)) ?_|refine fin_s ?_|refine fin_r ?_ ?_|refine fin_e ?_ ?_)
 conv=>whnf
 intro b4
 repeat' ((conv=>whnf); first | refine sgo ⟨tab_ok⟩ ?_|refine br_not ?_|refine br_t rfl ?_|refine br_f rfl ?_|refine br_t (by assumption) ?_|refine br_f (by assumption) ?_|refine br_t (decide_eq_true (by assumption)) ?_|refine br_f (decide_eq_false (by assumption)) ?_|refine br_t (beq_iff_eq.2 (by assumption)) ?_|refine br_f (beq_eq_false_iff_ne.2 (by assumption)) ?_|refine wreg ⟨tab_ok⟩ ?_|refine drA ⟨tab_ok⟩ [] ?_|refine kpt ?_|refine br_t (decide_eq_true (by omega)) ?_|refine br_f (decide_eq_false (by omega)) ?_|refine fin_s ?_|refine fin_r ?_ ?_|refine fin_e ?_ ?_)
 conv=>whnf
 intro b5
 repeat' ((conv=>whnf); first | refine sgo ⟨tab_ok⟩ ?_|refine br_not ?_|refine br_t rfl ?_|refine br_f rfl ?_|refine br_t (by assumption) ?_|refine br_f (by assumption) ?_|refine br_t (decide_eq_true (by assumption)) ?_|refine br_f (decide_eq_false (by assumption)) ?_|refine br_t (beq_iff_eq.2 (by assumption)) ?_|refine br_f (beq_eq_false_iff_ne.2 (by assumption)) ?_|refine wreg ⟨tab_ok⟩ ?_|refine drA ⟨tab_ok⟩ [] ?_|refine kpt ?_|refine br_t (decide_eq_true (by omega)) ?_|refine br_f (decide_eq_false (by omega)) ?_|refine fin_s ?_|refine fin_r ?_ ?_|refine fin_e ?_ ?_)
 conv=>whnf
 intro b6
 repeat' ((conv=>whnf); first | refine sgo ⟨tab_ok⟩ ?_|refine br_not ?_|refine br_t rfl ?_|refine br_f rfl ?_|refine br_t (by assumption) ?_|refine br_f (by assumption) ?_|refine br_t (decide_eq_true (by assumption)) ?_|refine br_f (decide_eq_false (by assumption)) ?_|refine br_t (beq_iff_eq.2 (by assumption)) ?_|refine br_f (beq_eq_false_iff_ne.2 (by assumption)) ?_|refine wreg ⟨tab_ok⟩ ?_|refine wsq ?_|refine drA ⟨tab_ok⟩ [] ?_|refine kpt ?_|refine br_t (decide_eq_true (by omega)) ?_|refine br_f (decide_eq_false (by omega)) ?_|refine callN (f:=32) (ι:=Nat) (fun B=>.v (lnF B)) (fun B=>tbO B s) (fun w1 hH=>(linesC s w1).mono (by rintro e w' ⟨B,rfl,h1,h2,h3⟩; exact ⟨B,rfl,h2,h3,by intro g hg; rw [List.mem_singleton.1 hg]; exact h1⟩)) (fun B=>?_)|refine fin_s ?_|refine fin_r ?_ ?_|refine fin_e ?_ ?_)
 conv=>whnf
 refine ⟨fun a W0 hR=>wpIn_block ?_⟩
 have hH:=hR.h
 have m1:tbO B s∈[gkO,tbO B s]:=List.mem_cons_of_mem _ (List.mem_cons_self ..)
 have hBB:B∈(tbO B s).F:=List.mem_singleton.2 rfl
 have hB0:w.heap.size≤B:=(hH.own _ m1 rfl B hBB).resolve_left (by intro h; cases h)
 have hbx:bx W0 B s:=hH.obj _ m1
 have hsz:w.heap.size≤W0.heap.size:=hH.upd.size
 have n2:b2≠B:=fun e=>hH.far _ m1 0 _ rfl rfl (by rw [← e] at hBB ⊢; exact hBB)
 have n3:b3≠B:=fun e=>hH.far _ m1 1 _ rfl rfl (by rw [← e] at hBB ⊢; exact hBB)
 have n4:b4≠B:=fun e=>hH.far _ m1 2 _ rfl rfl (by rw [← e] at hBB ⊢; exact hBB)
 have hI0:=hold_I0 hH
 refine rangeB (n:=0) (gf:=49) (lb:=#[.pointer (some ⟨B,0,none⟩)]) (evO_of hR.fr (x:=.tmp 10) (v:=.v (lnF B)) rfl).2 (entC (by kernel_rfl)) (linesP s B W0 hbx hs) (Blk.lt hbx) rfl (PaI ⟨w,b2,b3,b4,b5,b6,B,32⟩) (PaX ⟨w,b2,b3,b4,b5,b6,B,32⟩) (PaI.own hsz hB0 hg) (PaX.own hsz hB0 n2 n3 n4) ⟨[],none,0,⟨rfl,okZ.nil⟩,hI0⟩ (fun x=>rdA a 11 7 (lnV x)) (fun l x W K hK=>assign_of rfl rfl rfl (by rw [hR.sz]; show 11 < 32; decide) hK) ?body ?done ?stop
 case body =>
  rintro l pre x W ⟨os,A,c,h1,hHW⟩ hlt
  have hle:=(lnE_sum _ s (Nat.le_refl _)).1
  have hpl:pre.length < 200000:=by omega
  have hol:=okL_len h1
  have hlo:w.heap.size≤W.heap.size:=hHW.upd.size
  have hnum:IntKind.i64.wrap ((pre.length:Int)+1)=(((pre++[x]).length:Nat):Int):=by
   rw [List.length_append,show (pre.length:Int)+1=((pre.length + [x].length:Nat):Int) by simp]
   exact wr64 _ (by omega) (by simp; omega)
  refine round_of (X:=⟨Tryz.prog,tab,fpt (rowsI b2 b3 b4 b5 b6 A os.length c pre.length) (obI w.heap.size os A c B),W,32,[]⟩) (s:=⟨[(2,.p 0 0),(3,.p 1 0),(4,.p 2 0),(5,.p 3 0),(6,.p 4 0),(7,tx x.1)],rowsI b2 b3 b4 b5 b6 A os.length c pre.length,obI w.heap.size os A c B⟩) (K:=RdK _ ⟨w,b2,b3,b4,b5,b6,B,32⟩ (pre++[x])) ?_ ⟨rfl,by simp [rdA,hR.sz], ?_,hHW.into⟩ (round_end hHW)
  rotate_left
  ·have e:∀ k,k≠11→k≠7→(rdA a 11 7 (lnV x)).tmps[k]?=a.tmps[k]?:=fun k h1 h2=>by
    unfold rdA
    rw [Array.getElem?_setIfInBounds_ne (Ne.symm h2),Array.getElem?_setIfInBounds_ne (Ne.symm h1)]
   have e7:(rdA a 11 7 (lnV x)).tmps[7]?=some (lnV x):=by
    unfold rdA
    rw [Array.getElem?_setIfInBounds_self_of_lt]
    rw [Array.size_setIfInBounds,hR.sz]; show 7 < 32; decide
   refine FrOk.cons rfl ?_ (FrOk.cons rfl ?_ (FrOk.cons rfl ?_ (FrOk.cons rfl ?_ (FrOk.cons rfl ?_ (FrOk.cons rfl e7 FrOk.nil)))))
   ·rw [e 2 (by decide) (by decide)]; exact (hR.fr 2 (.p 0 0) rfl).2
   ·rw [e 3 (by decide) (by decide)]; exact (hR.fr 3 (.p 1 0) rfl).2
   ·rw [e 4 (by decide) (by decide)]; exact (hR.fr 4 (.p 2 0) rfl).2
   ·rw [e 5 (by decide) (by decide)]; exact (hR.fr 5 (.p 3 0) rfl).2
   ·rw [e 6 (by decide) (by decide)]; exact (hR.fr 6 (.p 4 0) rfl).2
  obtain ⟨xl,hx20⟩:=x
  have hgs:=readS xl
  refine runI_of ⟨tab_ok⟩ (by kernel_rfl) ?_
  cases hv:readV kS xl with
  | none =>
   have hbad:lineQ xl=none:=by rw [hv] at hgs; exact hgs
   have hv2:readV (plS.map (·.1)) xl=none:=hv
   repeat' ((conv=>whnf); first | refine sgo ⟨tab_ok⟩ ?_|refine br_not ?_|refine br_t rfl ?_|refine br_f rfl ?_|refine br_t (by assumption) ?_|refine br_f (by assumption) ?_|refine br_t (decide_eq_true (by assumption)) ?_|refine br_f (decide_eq_false (by assumption)) ?_|refine br_t (beq_iff_eq.2 (by assumption)) ?_|refine br_f (beq_eq_false_iff_ne.2 (by assumption)) ?_|refine sgoI ⟨tab_ok⟩ ?_|refine drI ⟨tab_ok⟩ [] ?_|refine kpt ?_|refine br_t (decide_eq_true (by omega)) ?_|refine br_f (decide_eq_false (by omega)) ?_|refine wr hnum ?_|refine pufv ⟨tab_ok⟩ (by rfl) (by rfl) (by rfl) (by rfl) ?_|refine opP (pvMkE (v':=.pointer (some ⟨b8,_,none⟩)) (by rfl) (by rfl) (by kernel_rfl) (by first | (simp only [Go.WideShapes.add_plain,den]; done)|rfl)) ?_|refine opbo ⟨tab_ok⟩ (plE b8) plS [.tmp 16,.tmp 18,.tmp 20,.tmp 22] [.v (.iface 61 (.pointer (some ⟨b8,0,none⟩))),.v (.iface 61 (.pointer (some ⟨b8,1,none⟩))),.v (.iface 61 (.pointer (some ⟨b8,2,none⟩))),.v (.iface 79 (.pointer (some ⟨b8,3,none⟩)))] (by rfl) (by rfl) (by rfl) (by rfl) rfl (fun g=>?_)|refine fin_s ?_|refine fin_r ?_ ?_|refine fin_e ?_ ?_)
   conv=>whnf
   intro b8
   repeat' ((conv=>whnf); first | refine sgo ⟨tab_ok⟩ ?_|refine br_not ?_|refine br_t rfl ?_|refine br_f rfl ?_|refine br_t (by assumption) ?_|refine br_f (by assumption) ?_|refine br_t (decide_eq_true (by assumption)) ?_|refine br_f (decide_eq_false (by assumption)) ?_|refine br_t (beq_iff_eq.2 (by assumption)) ?_|refine br_f (beq_eq_false_iff_ne.2 (by assumption)) ?_|refine sgoI ⟨tab_ok⟩ ?_|refine drI ⟨tab_ok⟩ [] ?_|refine kpt ?_|refine br_t (decide_eq_true (by omega)) ?_|refine br_f (decide_eq_false (by omega)) ?_|refine wr hnum ?_|refine pufv ⟨tab_ok⟩ (by rfl) (by rfl) (by rfl) (by rfl) ?_|refine opP (pvMkE (v':=.pointer (some ⟨b8,_,none⟩)) (by rfl) (by rfl) (by kernel_rfl) (by first | (simp only [Go.WideShapes.add_plain,den]; done)|rfl)) ?_|refine opbo ⟨tab_ok⟩ (plE b8) plS [.tmp 16,.tmp 18,.tmp 20,.tmp 22] [.v (.iface 61 (.pointer (some ⟨b8,0,none⟩))),.v (.iface 61 (.pointer (some ⟨b8,1,none⟩))),.v (.iface 61 (.pointer (some ⟨b8,2,none⟩))),.v (.iface 79 (.pointer (some ⟨b8,3,none⟩)))] (by rfl) (by rfl) (by rfl) (by rfl) rfl (fun g=>?_)|refine rowX (f:=29) 5 (plO w.heap.size b8 40 [] [.int .i64 0,.int .i64 0,.int .i64 0,.slice none 0 0]) (by rfl) (by rfl) (by rfl) (fun w h=>⟨h,by intro x hx; cases hx⟩) (by rfl) ?_|refine callO (f:=29) 5 (A:=plO w.heap.size b8 40 [] [.int .i64 0,.int .i64 0,.int .i64 0,.slice none 0 0]) (ι:=Unit) (fun _=>.b false) (fun _=>nilO) (fun w1 hH _=>(readH hH 5 4 (lo:=w.heap.size) (b:=b8) (T:=40) (rest:=[.int .i64 0,.int .i64 0,.int .i64 0,.slice none 0 0]) (g:=g) (n:=4) (c:=4) (pls:=plS) (by rfl) (by rfl) (by rfl) xl (by omega) rfl plS_at rfl (by decide) (by decide)).mono (by rw [hv2]; rintro e w' ⟨rfl,h2,_⟩; exact ⟨(),rfl,trivial,h2,by intro g hg; cases hg⟩)) (fun _=>?_)|refine err fun w' hH=>⟨⟨pre,_,os,rfl,h1,hbad⟩,hH.row 0 _ rfl rfl,hH.row 1 _ rfl rfl,hH.row 2 _ rfl rfl⟩|refine fin_s ?_|refine fin_r ?_ ?_|refine fin_e ?_ ?_)
  | some ys =>
   rw [hv] at hgs
   obtain ⟨y,hys,hy⟩:=hgs
   subst hys
   have hv2:readV (plS.map (·.1)) xl=some [.n y.k,.n y.a,.n y.b,.d y.d]:=hv
   repeat' ((conv=>whnf); first | refine sgo ⟨tab_ok⟩ ?_|refine br_not ?_|refine br_t rfl ?_|refine br_f rfl ?_|refine br_t (by assumption) ?_|refine br_f (by assumption) ?_|refine br_t (decide_eq_true (by assumption)) ?_|refine br_f (decide_eq_false (by assumption)) ?_|refine br_t (beq_iff_eq.2 (by assumption)) ?_|refine br_f (beq_eq_false_iff_ne.2 (by assumption)) ?_|refine sgoI ⟨tab_ok⟩ ?_|refine drI ⟨tab_ok⟩ [] ?_|refine kpt ?_|refine br_t (decide_eq_true (by omega)) ?_|refine br_f (decide_eq_false (by omega)) ?_|refine wr hnum ?_|refine pufv ⟨tab_ok⟩ (by rfl) (by rfl) (by rfl) (by rfl) ?_|refine opP (pvMkE (v':=.pointer (some ⟨b8,_,none⟩)) (by rfl) (by rfl) (by kernel_rfl) (by first | (simp only [Go.WideShapes.add_plain,den]; done)|rfl)) ?_|refine opbo ⟨tab_ok⟩ (plE b8) plS [.tmp 16,.tmp 18,.tmp 20,.tmp 22] [.v (.iface 61 (.pointer (some ⟨b8,0,none⟩))),.v (.iface 61 (.pointer (some ⟨b8,1,none⟩))),.v (.iface 61 (.pointer (some ⟨b8,2,none⟩))),.v (.iface 79 (.pointer (some ⟨b8,3,none⟩)))] (by rfl) (by rfl) (by rfl) (by rfl) rfl (fun g=>?_)|refine fin_s ?_|refine fin_r ?_ ?_|refine fin_e ?_ ?_)
   conv=>whnf
   intro b8
   repeat' ((conv=>whnf); first | refine sgo ⟨tab_ok⟩ ?_|refine br_not ?_|refine br_t rfl ?_|refine br_f rfl ?_|refine br_t (by assumption) ?_|refine br_f (by assumption) ?_|refine br_t (decide_eq_true (by assumption)) ?_|refine br_f (decide_eq_false (by assumption)) ?_|refine br_t (beq_iff_eq.2 (by assumption)) ?_|refine br_f (beq_eq_false_iff_ne.2 (by assumption)) ?_|refine sgoI ⟨tab_ok⟩ ?_|refine drI ⟨tab_ok⟩ [] ?_|refine kpt ?_|refine br_t (decide_eq_true (by omega)) ?_|refine br_f (decide_eq_false (by omega)) ?_|refine wr hnum ?_|refine pufv ⟨tab_ok⟩ (by rfl) (by rfl) (by rfl) (by rfl) ?_|refine opP (pvMkE (v':=.pointer (some ⟨b8,_,none⟩)) (by rfl) (by rfl) (by kernel_rfl) (by first | (simp only [Go.WideShapes.add_plain,den]; done)|rfl)) ?_|refine opbo ⟨tab_ok⟩ (plE b8) plS [.tmp 16,.tmp 18,.tmp 20,.tmp 22] [.v (.iface 61 (.pointer (some ⟨b8,0,none⟩))),.v (.iface 61 (.pointer (some ⟨b8,1,none⟩))),.v (.iface 61 (.pointer (some ⟨b8,2,none⟩))),.v (.iface 79 (.pointer (some ⟨b8,3,none⟩)))] (by rfl) (by rfl) (by rfl) (by rfl) rfl (fun g=>?_)|refine rowX (f:=29) 5 (plO w.heap.size b8 40 [] [.int .i64 0,.int .i64 0,.int .i64 0,.slice none 0 0]) (by rfl) (by rfl) (by rfl) (fun w h=>⟨h,by intro x hx; cases hx⟩) (by rfl) ?_|refine callO (f:=29) 5 (A:=plO w.heap.size b8 40 [] [.int .i64 0,.int .i64 0,.int .i64 0,.slice none 0 0]) (ι:=Option Addr×Nat) (fun _=>.b true) (fun z=>plO w.heap.size b8 40 (pwZ y z) []) (fun w1 hH _=>(readH hH 5 4 (lo:=w.heap.size) (b:=b8) (T:=40) (rest:=[.int .i64 0,.int .i64 0,.int .i64 0,.slice none 0 0]) (g:=g) (n:=4) (c:=4) (pls:=plS) (by rfl) (by rfl) (by rfl) xl (by omega) rfl plS_at rfl (by decide) (by decide)).mono (by rw [hv2]; rintro e w' ⟨rfl,h2,h3⟩; obtain ⟨vs,p1,p2⟩:=h3 _ rfl; obtain ⟨z,rfl⟩:=pws_st p1; exact ⟨z,rfl,PlAt.base p2 (Nat.le_trans hlo hH.upd.size),h2,fun g hg=>(pl_low p2 (Nat.le_refl _) g hg).imp (fun e=>by rw [e]; exact pl_mem.2 (.inl rfl)) id⟩)) (fun z=>?_)|refine opixp (j:=5) (q:=0) (r:=⟨b8,40,false,0,[],[.i .i64 0,.i .i64 0,.i .i64 0,.v (.slice none 0 0)],[],true⟩) [.i .i64 y.k,.i .i64 y.a,.i .i64 y.b,.v (.slice z.1 (zsN y.d).length z.2)] (by rfl) (fun w1 hH=>pl_all (Hold.ob hH (A:=plO w.heap.size b8 40 (pwZ y z) []) 5 rfl)) ⟨tab_ok⟩ (by rfl) (by rfl) ?_ (by rfl) (by rfl)|refine opb1 (e:=40) ⟨tab_ok⟩ [.i .i64 y.k,.i .i64 y.a,.i .i64 y.b,.v (.slice z.1 (zsN y.d).length z.2)] (by rfl) (by rfl) ?_|intro gb | refine opap 1 6 (e:=40) (lo:=w.heap.size) (size:=4) (bytes:=48) (z:=.agg #[.int .i64 0,.int .i64 0,.int .i64 0,.slice none 0 0]) (A:=rwO stepE w.heap.size A os.length c os true) (vals:=rowsOf stepE.c os) (cells:=stepC (stZ y z)) (zs:=rowsOf stepE.c (os++[stZ y z])) (n2:=(os++[stZ y z]).length) (fun A2 c2=>rwO stepE w.heap.size A2 (os++[stZ y z]).length c2 (os++[stZ y z]) true) (by rfl) (by rfl) (by rfl) (by rfl) rfl rfl (fun w h=>h) (fun A' c' w h=>h) (fun _ _=>rfl) (by rfl) (by rfl) (by rfl) (by rfl) Tryz.underlying25 (by kernel_rfl) rfl (by decide) (by decide) (by intro u hu; exact stepE.one (stZ y z) u hu) (by omega) (fun w1 hH=>Nat.le_trans hlo hH.upd.size) (by rw [List.length_append]; rfl) (by rw [rowsOf_append]; rfl) (fun A2 c2=>?_)|refine don (os:=os++[stZ y z]) (A:=A2) (c:=c2) (fun w h=>dd_in h 2 5 rfl rfl (by decide)) (okL_add h1 hy) (wkd ?_)|refine fin_s ?_|refine fin_r ?_ ?_|refine fin_e ?_ ?_)
   all_goals (repeat' (first | exact trivial | rfl | ((conv=>whnf); refine And.intro ?_ ?_)))
 case done =>
  rintro D xs W hlD hS ⟨os,A,c,h1,hHW⟩ hD
  have hyes:=rd_all_ok h1 hS
  show Code.wpIn Fence.wide 2 Tryz.prog _ _ _ _
  refine SmW.out (X:=⟨Tryz.prog,tab,fpt (rowsI b2 b3 b4 b5 b6 A os.length c xs.length) (obI w.heap.size os A c B),W,32,[{ target:=.collected D,args:=#[] }]⟩) (s:=⟨[(2,.p 0 0),(3,.p 1 0),(4,.p 2 0),(5,.p 3 0)],rowsI b2 b3 b4 b5 b6 A os.length c xs.length,obI w.heap.size os A c B⟩) ?_ _ W ⟨by show _::a.defers=_; rw [hR.ds],hR.sz,FrOk.cons rfl (hR.fr 2 (.p 0 0) rfl).2 (FrOk.cons rfl (hR.fr 3 (.p 1 0) rfl).2 (FrOk.cons rfl (hR.fr 4 (.p 2 0) rfl).2 (FrOk.cons rfl (hR.fr 5 (.p 3 0) rfl).2 FrOk.nil))),hHW.into⟩
  repeat' ((conv=>whnf); first | refine sgo ⟨tab_ok⟩ ?_|refine br_not ?_|refine br_t rfl ?_|refine br_f rfl ?_|refine br_t (by assumption) ?_|refine br_f (by assumption) ?_|refine br_t (decide_eq_true (by assumption)) ?_|refine br_f (decide_eq_false (by assumption)) ?_|refine br_t (beq_iff_eq.2 (by assumption)) ?_|refine br_f (beq_eq_false_iff_ne.2 (by assumption)) ?_|refine wreg ⟨tab_ok⟩ ?_|refine drA ⟨tab_ok⟩ [] ?_|refine kpt ?_|refine br_t (decide_eq_true (by omega)) ?_|refine br_f (decide_eq_false (by omega)) ?_|refine fin_s ?_|refine fin_r ?_ ?_|refine fin_e ?_ ?_)
  conv=>whnf
  refine wret fun a2 w2 hR2=>ret_of hHW obI_cl hD (Nat.le_trans hsz hlD) hR2 (fun W' u hn=>obI_up hR2.h.obj u (fun g hg=>by rw [List.mem_singleton.1 hg]; exact hn)) ⟨tab_ok⟩ ?_
  conv=>whnf
  refine fin fun w' hH=>rdP_yes hyes h1.2 rfl (Hold.ob hH (A:=rwO stepE w.heap.size A os.length c os true) 1 rfl) (Hold.ob hH (A:=ddO w.heap.size os) 2 rfl) hH.upd.since
 case stop =>
  rintro D pre W hlD ⟨r,hr⟩ ⟨hx,hu,k2,k3,k4⟩ hD
  obtain ⟨k,hk,hno⟩:=rd_err hx hr
  rw [hk] at k3
  refine wpIn_ret ?_
  have u:=upd_obj W D (.deferred none)
  have hn:NC W D:=⟨_,hD,rfl⟩
  have far:∀ {g:Nat} {t:TypeId} {cs:Array Value},Blk W g t cs→Blk (W.putObj D (.deferred none)) g t cs:=fun h=>u.blk h (fun hg=>nc_blk h (by rw [List.mem_singleton.1 hg]; exact hn))
  have h4:=hold_X hH (hu.comp u (fun g hg=>.inr (by rw [List.mem_singleton.1 hg]; exact Nat.le_trans hsz hlD))) (far k2) (far k3) (far k4)
  refine leaves_of (D:=D) (by show _::a.defers=_; rw [hR.ds]) hD (fin_of (X:=⟨Tryz.prog,tab,[],w,32,[]⟩) ⟨tab_ok⟩ rfl .ret _ _ ⟨⟨[(2,.p 0 0),(3,.p 1 0),(4,.p 2 0)],[⟨b2,25,true,0,[],[.v (.slice none 0 0)],[],true⟩,⟨b3,3,true,0,[],[.i .i64 ((k+1:Nat):Int)],[],true⟩,⟨b4,26,true,0,[],[.i .i64 8],[],true⟩],[]⟩,⟨rfl,hR.sz,FrOk.cons rfl (hR.fr 2 (.p 0 0) rfl).2 (FrOk.cons rfl (hR.fr 3 (.p 1 0) rfl).2 (FrOk.cons rfl (hR.fr 4 (.p 2 0) rfl).2 FrOk.nil)),h4⟩, ?_⟩)
  conv=>whnf
  refine fin fun w' hH=>rdP_no hno rfl hH.upd.since
end Sp
namespace Sh
open Go.RowKit Ba Mem En Go.Proofs.YtnoehplnmdajnaaGreatDoor.Ty Gw
open Co (Hold.ob)
open Sx Sw Sp
open Go.Lib (itoa)
set_option maxRecDepth 100000
section
variable {b:Nat} {A:Option Addr} {bs:List UInt8} {w:World} {err:Int}
def errL (err k:Int):List UInt8:=told [.tx errT,.nu err,.nu k]
def errN (err:Int):List UInt8:=told [.tx errT,.nu err]
theorem errL_is (err k:Int):errL err k=errT++32::(itoa err++32::(itoa k++[10])):=by simp [errL,told,said,Wd.t]
theorem errN_is (err:Int):errN err=errT++32::(itoa err++[10]):=by simp [errN,told,said,Wd.t]
theorem errL_len {err k:Int} (h1:n64 err) (h2:n64 k):(errL err k).length≤60:=by
 rw [errL_is]
 have:=ito_len h1; have:=ito_len h2
 simp only [List.length_append,List.length_cons,List.length_nil,errT]
 omega
theorem errN_len {err:Int} (h1:n64 err):(errN err).length≤60:=by
 rw [errN_is]
 have:=ito_len h1
 simp only [List.length_append,List.length_cons,List.length_nil,errT]
 omega
theorem faultA {lo g c:Nat} {k:Int} (hg:GkS w) (hr:wdE.At lo (some ⟨g,0,none⟩) 1 c [.nu k] w) (h:WrS b A bs w) (d1:far gkO.F b A) (d2:far [g] b A) (he:n64 err) (hk:n64 k) (hL:bs.length≤900000) :
  Calls Tryz.prog 16 #[me b,.int .i64 err,.slice (some ⟨g,0,none⟩) 1 c] w fun e w'=>∃ A':Option Addr,e=.returned (.tuple #[])∧WrS b A' (bs++errL err k) w'∧Upd (b::blkOf A) w w'∧∀ g∈b::blkOf A',g∈b::blkOf A∨w.heap.size≤g:=by
 have hle:=errL_len he hk
 have hok:∀ i,i < 1→([Wd.nu k].getD i default).ok:=by
  intro i hi
  cases Nat.lt_one_iff.1 hi
  exact hk
 exact faultW (ws:=fun i=>[Wd.nu k].getD i default) hg (rd_ls hr rfl) h d1 (fun q hq=>d2 q (rdF_sub q hq)) (by decide) he hok (by show bs.length+(errL err k).length≤_; omega)
theorem faultN (hg:GkS w) (h:WrS b A bs w) (d1:far gkO.F b A) (he:n64 err) (hL:bs.length≤900000) :
  Calls Tryz.prog 16 #[me b,.int .i64 err,.slice none 0 0] w fun e w'=>∃ A':Option Addr,e=.returned (.tuple #[])∧WrS b A' (bs++errN err) w'∧Upd (b::blkOf A) w w'∧∀ g∈b::blkOf A',g∈b::blkOf A∨w.heap.size≤g:=by
 have hle:=errN_len he
 exact faultW (a:=none) (n:=0) (c:=0) (ws:=fun _=>default) hg (.inl rfl) h d1 (fun q hq=>by cases hq) (by decide) he (fun i hi=>by omega) (by show bs.length+(errN err).length≤_; omega)
theorem textC (h:WrS b A bs w) (h0:bs≠[]):Calls Tryz.prog 17 #[me b] w fun e w'=>∃ _:Unit,e=.returned (.string ⟨bs.toArray⟩)∧(goneO (b::blkOf A)).st w'∧Upd (b::blkOf A) w w'∧∀ g∈b::blkOf A,g∈b::blkOf A∨w.heap.size≤g:=by
 have hlt:=h.lt
 refine (wText h h0).mono ?_
 rintro e w' ⟨rfl,h1⟩
 exact ⟨(),rfl,fun g hg=>Nat.lt_of_lt_of_le (hlt g hg) h1.size,h1,fun g hg=>.inl hg⟩
end
theorem hold_st {nt b:Nat} {A:Option Addr} {bs:List UInt8} {w:World} (hg:GkS w) (h:WrS b A bs w) (d1:far gkO.F b A):Hold ⟨Tryz.prog,tab,b::blkOf A,w,nt,[]⟩ [] [gkO,wrO b A bs] w:=by
 refine Hold.addObj (Hold.addObj (Hold.nil _ tab (b::blkOf A) _ w) gkO hg (by intro k; cases k) (by intro r hr; cases hr) (by intro A hA; cases hA)) (wrO b A bs) h (fun _ g hg=>.inl hg) (by intro r hr; cases hr) ?_
 intro C hC _
 have hC:C∈[gkO]:=hC
 rw [List.mem_singleton] at hC; subst hC
 exact d1
theorem rowW {X:Cx} {s:St} {f:FuncId} {vs:List SV} {K:SV→St→Prop} (j:Nat) {r:Row} (hr:s.m[j]?=some r) (hl:(r.live && r.rw)=true) (hrow:∀ m,rowA m r=#[.pointer none,.slice none 0 0]) (ht:r.t=tW) (hv:denL (s.m.set j { r with live:=false }) vs=denL s.m vs)
  (h:setR j (fun r K=>K { r with live:=false }) s.m fun m=>appO s.ob (wrO r.g none []) fun ob=>CallVC X f vs ⟨s.fr,m,ob⟩ K):CallVC X f vs s K:=by
 simp only [Bool.and_eq_true] at hl
 obtain ⟨r',hr',hs⟩:=setR_of h
 rw [hr] at hr'; cases hr'
 have hs:=appO_of hs
 refine ⟨hs.out.1,fun w hH=>?_⟩
 have hb:=hH.row j r hr hl.1
 rw [hrow,ht] at hb
 have hH2:=Hold.toObj hH (C:=wrO r.g none []) hr hl.1 hl.2 rfl ⟨.pointer none,0,.inl rfl,hb,⟨rfl,.inl ⟨rfl,rfl⟩⟩⟩
 have:=hs.out.2 w hH2
 rw [show denL (s.m.set j { r with live:=false }) vs=denL s.m vs from hv] at this
 refine this.mono ?_
 rintro e w' ⟨v,m',ob',h1,h2,h3,h4,h5⟩
 exact ⟨v,m',ob',h1,h2,(Ext.dead hr).trans h3,h4,h5⟩
def endN (s:List UInt8):Nat:=match nl s with
 | none=>0
 | some i=>i+1
theorem endN_le (s:List UInt8):endN s≤s.length:=by
 unfold endN
 cases h:nl s with
 | none=>exact Nat.zero_le _
 | some i=>exact nl_lt h
theorem ibE (s:List UInt8) (w:World):Calls Tryz.prog 14 #[.string ⟨s.toArray⟩,.int .u8 10] w fun e w'=>e=.returned (.int .i64 ((endN s:Int) - 1))∧w=w':=by
 refine (ibC s w).mono ?_
 rintro e w' ⟨rfl,rfl⟩
 refine ⟨?_,rfl⟩
 unfold endN
 cases h:nl s with
 | none=>rw [ib_none h]; rfl
 | some i=>rw [ib_some h]; simp
theorem se_18 (s:List UInt8):(seD (setV s)).length=18:=by
 cases h:setV s with
 | none=>rfl
 | some l=>exact set_18 h
attribute [local irreducible] Go.Calls told n64 errL errN
set_option maxHeartbeats 8000000 in
theorem stepW {b:Nat} {A:Option Addr} {bs:List UInt8} {err:Int} {w:World} (hg:GkS w) (h:WrS b A bs w) (d1:far gkO.F b A) (he:n64 err) (h0:err≠0) (hL:bs.length≤900000) :
  Calls Tryz.prog 20 #[me b,.slice none 0 0,.int .i64 err] w fun e w'=>∃ A':Option Addr,e=.returned (.tuple #[])∧WrS b A' (bs++errN err) w'∧Upd (b::blkOf A) w w'∧∀ g∈b::blkOf A',g∈b::blkOf A∨w.heap.size≤g:=by
 have h01:(err != 0)=true:=by simp [h0]
 refine entH tab_ok (hold_st hg h d1) [.v (me b),.v (.slice none 0 0),.i .i64 err] Tryz.func20 Tryz.ntmps20 rfl rfl ?_
 repeat' ((conv=>whnf); first | refine sgo ⟨tab_ok⟩ ?_|refine br_not ?_|refine br_t rfl ?_|refine br_f rfl ?_|refine br_t (by assumption) ?_|refine br_f (by assumption) ?_|refine br_t (decide_eq_true (by assumption)) ?_|refine br_f (decide_eq_false (by assumption)) ?_|refine br_t (beq_iff_eq.2 (by assumption)) ?_|refine br_f (beq_eq_false_iff_ne.2 (by assumption)) ?_|refine drA ⟨tab_ok⟩ [] ?_|refine kpt ?_|refine br_t (decide_eq_true (by omega)) ?_|refine br_f (decide_eq_false (by omega)) ?_|refine fin_s ?_|refine fin_r ?_ ?_|refine fin_e ?_ ?_)
 conv=>whnf
 refine lp ⟨tab_ok⟩ (ι:=Unit) (fun _=>⟨[(0,.v (me b)),(2,.i .i64 err),(8,.v (.slice none 0 0)),(9,.i .i64 0),(10,.i .i64 0)],[],[gkO,wrO b A bs]⟩) (fun _=>0) () (wk ?_) ?_
 ·repeat' (first | exact trivial | rfl | ((conv=>whnf); refine And.intro ?_ ?_))
 intro _
 repeat' ((conv=>whnf); first | refine sgo ⟨tab_ok⟩ ?_|refine br_not ?_|refine br_t rfl ?_|refine br_f rfl ?_|refine br_t (by assumption) ?_|refine br_f (by assumption) ?_|refine br_t (decide_eq_true (by assumption)) ?_|refine br_f (decide_eq_false (by assumption)) ?_|refine br_t (beq_iff_eq.2 (by assumption)) ?_|refine br_f (beq_eq_false_iff_ne.2 (by assumption)) ?_|refine drA ⟨tab_ok⟩ [] ?_|refine kpt ?_|refine br_t (decide_eq_true (by omega)) ?_|refine br_f (decide_eq_false (by omega)) ?_|refine br_t (by simp [h0]) ?_|refine callO (f:=16) 1 (A:=wrO b A bs) (fun _:Option Addr=>.t []) (fun B1=>wrO b B1 (bs++errN err)) (fun w1 hH hA=>faultN (Hold.ob hH (A:=gkO) 0 rfl) hA (apart hH 0 1 rfl rfl (by decide) (.inr rfl)) he hL) (fun B1=>?_)|refine fin fun w' hH=>⟨B1,rfl,Hold.ob hH (A:=wrO b B1 (bs++errN err)) 1 rfl,hH.upd,fun g hg=>hH.own _ (List.mem_of_getElem? (i:=1) rfl) rfl g hg⟩|refine fin_s ?_|refine fin_r ?_ ?_|refine fin_e ?_ ?_)
end Sh
namespace Sh
open Go.RowKit Ba Mem En Go.Proofs.YtnoehplnmdajnaaGreatDoor.Ty Gw
open Co (Hold.ob)
open Sx Sw Sp
open Go.Lib (itoa)
set_option maxRecDepth 100000
theorem errL_ne (a k:Int):errL a k≠[]:=by rw [errL_is]; unfold errT; simp
attribute [local irreducible] Go.Calls told n64 errL errN endN setV
set_option maxHeartbeats 16000000 in
theorem runF (s:List UInt8) (hs:s.length≤200000) (hv:setV (s.take (endN s))=none) {w:World} (hg:GkS w):Calls Tryz.prog 7 #[.string ⟨s.toArray⟩] w fun e w'=>e=.returned (.string ⟨(errL 8 1).toArray⟩)∧Since w w':=by
 have hel:=endN_le s
 have htl:(s.take (endN s)).length≤900000:=by rw [List.length_take]; omega
 obtain ⟨a0,a1,a2,a3,a4,a5,a6,a7,a8,a9,a10,a11,a12,a13,a14,a15,a16,a17,hq⟩:=at18 (se_18 (s.take (endN s)))
 have hset:∀ w:World,GkS w→Calls Tryz.prog 15 #[.string ⟨(s.take (endN s)).toArray⟩] w fun e w'=>e=.returned (.tuple #[.agg #[.int .i64 a0,.int .i64 a1,.int .i64 a2,.int .i64 a3,.int .i64 a4,.int .i64 a5,.int .i64 a6,.int .i64 a7,.int .i64 a8,.int .i64 a9,.int .i64 a10,.int .i64 a11,.int .i64 a12,.int .i64 a13,.int .i64 a14,.int .i64 a15,.int .i64 a16,.int .i64 a17],.bool false])∧Since w w':=fun w hg=>(setP _ htl hg).mono (by rintro e w' ⟨rfl,h⟩; rw [hq,hv]; exact ⟨rfl,h⟩)
 have h8:n64 8:=by unfold n64; decide
 have h1:n64 1:=by unfold n64; decide
 refine entH tab_ok (hold_gk hg) [tx s] Tryz.func7 Tryz.ntmps7 rfl rfl ?_
 repeat' ((conv=>whnf); first | refine sgo ⟨tab_ok⟩ ?_|refine br_not ?_|refine br_t rfl ?_|refine br_f rfl ?_|refine br_t (by assumption) ?_|refine br_f (by assumption) ?_|refine br_t (decide_eq_true (by assumption)) ?_|refine br_f (decide_eq_false (by assumption)) ?_|refine br_t (beq_iff_eq.2 (by assumption)) ?_|refine br_f (beq_eq_false_iff_ne.2 (by assumption)) ?_|refine drA ⟨tab_ok⟩ [] ?_|refine kpt ?_|refine br_t (decide_eq_true (by omega)) ?_|refine br_f (decide_eq_false (by omega)) ?_|refine fin_s ?_|refine fin_r ?_ ?_|refine fin_e ?_ ?_)
 conv=>whnf
 intro b0
 repeat' ((conv=>whnf); first | refine sgo ⟨tab_ok⟩ ?_|refine br_not ?_|refine br_t rfl ?_|refine br_f rfl ?_|refine br_t (by assumption) ?_|refine br_f (by assumption) ?_|refine br_t (decide_eq_true (by assumption)) ?_|refine br_f (decide_eq_false (by assumption)) ?_|refine br_t (beq_iff_eq.2 (by assumption)) ?_|refine br_f (beq_eq_false_iff_ne.2 (by assumption)) ?_|refine drA ⟨tab_ok⟩ [] ?_|refine kpt ?_|refine br_t (decide_eq_true (by omega)) ?_|refine br_f (decide_eq_false (by omega)) ?_|refine wr_i ?_|refine callQ (f:=14) (.i .i64 ((endN s:Int) - 1)) (fun w1=>ibE s w1) ?_|refine opP (pvSlH (xs:=s) (endN s) (by rfl) (by rfl) (by rfl) ⟨by omega,by omega⟩ Tryz.underlying9) ?_|refine callH (f:=15) (.t [.a [.i .i64 a0,.i .i64 a1,.i .i64 a2,.i .i64 a3,.i .i64 a4,.i .i64 a5,.i .i64 a6,.i .i64 a7,.i .i64 a8,.i .i64 a9,.i .i64 a10,.i .i64 a11,.i .i64 a12,.i .i64 a13,.i .i64 a14,.i .i64 a15,.i .i64 a16,.i .i64 a17],.b false]) (fun w1 hH=>hset w1 (Hold.ob hH (A:=gkO) 0 rfl)) ?_|refine fin_s ?_|refine fin_r ?_ ?_|refine fin_e ?_ ?_)
 conv=>whnf
 intro b1
 repeat' ((conv=>whnf); first | refine sgo ⟨tab_ok⟩ ?_|refine br_not ?_|refine br_t rfl ?_|refine br_f rfl ?_|refine br_t (by assumption) ?_|refine br_f (by assumption) ?_|refine br_t (decide_eq_true (by assumption)) ?_|refine br_f (decide_eq_false (by assumption)) ?_|refine br_t (beq_iff_eq.2 (by assumption)) ?_|refine br_f (beq_eq_false_iff_ne.2 (by assumption)) ?_|refine drA ⟨tab_ok⟩ [] ?_|refine kpt ?_|refine br_t (decide_eq_true (by omega)) ?_|refine br_f (decide_eq_false (by omega)) ?_|refine opP (pvMk (by rfl) (by rfl) (by kernel_rfl)) ?_|refine opbo ⟨tab_ok⟩ wdE [.nu 1] [.tmp 25] [.v (.iface 3 (.int .i64 1))] (by rfl) (by rfl) (by rfl) (by rfl) rfl (fun g0=>?_)|refine rowW (f:=16) 0 (by rfl) (by rfl) (fun _=>by rfl) (by rfl) (by rfl) ?_|refine callO (f:=16) 2 (A:=wrO b0 none []) (fun _:Option Addr=>.t []) (fun B1=>wrO b0 B1 (errL 8 1)) (fun w1 hH hA=>faultA (Hold.ob hH (A:=gkO) 0 rfl) (Hold.ob hH (A:=rwO wdE w.heap.size (some ⟨g0,0,none⟩) 1 1 [.nu 1] true) 1 rfl) hA (apart hH 0 2 rfl rfl (by decide) (.inr rfl)) (apart hH 1 2 rfl rfl (by decide) (.inr rfl)) h8 h1 (Nat.zero_le _)) (fun B1=>?_)|refine callO (f:=17) 2 (A:=wrO b0 B1 (errL 8 1)) (fun _:Unit=>tx (errL 8 1)) (fun _=>goneO (b0::blkOf B1)) (fun w1 hH hA=>textC hA (errL_ne 8 1)) (fun _=>?_)|refine fin_s ?_|refine fin_r ?_ ?_|refine fin_e ?_ ?_)
 all_goals rfl
theorem parseE (s:List UInt8) (hs:s.length≤200000) {m:Nat} (hv:rdT 0 [] s=([],m+1)) {w:World} (hg:GkS w):Calls Tryz.prog 18 #[.string ⟨s.toArray⟩] w fun e w'=>∃ z:Option Addr×Nat,e=.returned (.tuple #[.slice z.1 0 z.2,.int .i64 ((m+1:Nat):Int),.int .i64 8])∧nilO.st w'∧Since w w'∧∀ g∈nilO.F,w.heap.size≤g:=by
 refine (parseP s hs hg).mono ?_
 rintro e w' ⟨os,z,h1,h2,rfl,h4,h5,h6⟩
 rw [hv] at h1 ⊢
 have:os=[]:=List.map_eq_nil_iff.1 h1
 subst this
 exact ⟨z,by simp,trivial,h6,fun g hg=>by cases hg⟩
set_option maxHeartbeats 16000000 in
theorem runP (s:List UInt8) (hs:s.length≤200000) (hv:(setV (s.take (endN s))).isSome=true) {m:Nat} (hp:rdT 0 [] (s.drop (endN s))=([],m+1)) (hm:m≤1000000) {w:World} (hg:GkS w):Calls Tryz.prog 7 #[.string ⟨s.toArray⟩] w fun e w'=>e=.returned (.string ⟨(errL 8 ((m+1:Nat)+1:Int)).toArray⟩)∧Since w w':=by
 have hel:=endN_le s
 have htl:(s.take (endN s)).length≤900000:=by rw [List.length_take]; omega
 have hdl:(s.drop (endN s)).length≤200000:=by rw [List.length_drop]; omega
 obtain ⟨a0,a1,a2,a3,a4,a5,a6,a7,a8,a9,a10,a11,a12,a13,a14,a15,a16,a17,hq⟩:=at18 (se_18 (s.take (endN s)))
 have hset:∀ w:World,GkS w→Calls Tryz.prog 15 #[.string ⟨(s.take (endN s)).toArray⟩] w fun e w'=>e=.returned (.tuple #[.agg #[.int .i64 a0,.int .i64 a1,.int .i64 a2,.int .i64 a3,.int .i64 a4,.int .i64 a5,.int .i64 a6,.int .i64 a7,.int .i64 a8,.int .i64 a9,.int .i64 a10,.int .i64 a11,.int .i64 a12,.int .i64 a13,.int .i64 a14,.int .i64 a15,.int .i64 a16,.int .i64 a17],.bool true])∧Since w w':=fun w hg=>(setP _ htl hg).mono (by rintro e w' ⟨rfl,h⟩; rw [hq,hv]; exact ⟨rfl,h⟩)
 have h8:n64 8:=by unfold n64; decide
 have h1:n64 ((m+1:Nat)+1:Int):=by unfold n64; omega
 obtain ⟨q,hq2⟩:∃ q:Int,((m+1:Nat):Int)=q:=⟨_,rfl⟩
 have hpa:=fun (w:World) (hg:GkS w)=>parseE _ hdl hp hg
 rw [hq2] at hpa h1 ⊢
 have hqb:0≤q∧q≤2000000:=by omega
 refine entH tab_ok (hold_gk hg) [tx s] Tryz.func7 Tryz.ntmps7 rfl rfl ?_
 repeat' ((conv=>whnf); first | refine sgo ⟨tab_ok⟩ ?_|refine br_not ?_|refine br_t rfl ?_|refine br_f rfl ?_|refine br_t (by assumption) ?_|refine br_f (by assumption) ?_|refine br_t (decide_eq_true (by assumption)) ?_|refine br_f (decide_eq_false (by assumption)) ?_|refine br_t (beq_iff_eq.2 (by assumption)) ?_|refine br_f (beq_eq_false_iff_ne.2 (by assumption)) ?_|refine drA ⟨tab_ok⟩ [] ?_|refine kpt ?_|refine br_t (decide_eq_true (by omega)) ?_|refine br_f (decide_eq_false (by omega)) ?_|refine fin_s ?_|refine fin_r ?_ ?_|refine fin_e ?_ ?_)
 conv=>whnf
 intro b0
 repeat' ((conv=>whnf); first | refine sgo ⟨tab_ok⟩ ?_|refine br_not ?_|refine br_t rfl ?_|refine br_f rfl ?_|refine br_t (by assumption) ?_|refine br_f (by assumption) ?_|refine br_t (decide_eq_true (by assumption)) ?_|refine br_f (decide_eq_false (by assumption)) ?_|refine br_t (beq_iff_eq.2 (by assumption)) ?_|refine br_f (beq_eq_false_iff_ne.2 (by assumption)) ?_|refine drA ⟨tab_ok⟩ [] ?_|refine kpt ?_|refine br_t (decide_eq_true (by omega)) ?_|refine br_f (decide_eq_false (by omega)) ?_|refine wr_i ?_|refine callQ (f:=14) (.i .i64 ((endN s:Int) - 1)) (fun w1=>ibE s w1) ?_|refine opP (pvSlH (xs:=s) (endN s) (by rfl) (by rfl) (by rfl) ⟨by omega,by omega⟩ Tryz.underlying9) ?_|refine callH (f:=15) (.t [.a [.i .i64 a0,.i .i64 a1,.i .i64 a2,.i .i64 a3,.i .i64 a4,.i .i64 a5,.i .i64 a6,.i .i64 a7,.i .i64 a8,.i .i64 a9,.i .i64 a10,.i .i64 a11,.i .i64 a12,.i .i64 a13,.i .i64 a14,.i .i64 a15,.i .i64 a16,.i .i64 a17],.b true]) (fun w1 hH=>hset w1 (Hold.ob hH (A:=gkO) 0 rfl)) ?_|refine fin_s ?_|refine fin_r ?_ ?_|refine fin_e ?_ ?_)
 conv=>whnf
 intro b1
 repeat' ((conv=>whnf); first | refine sgo ⟨tab_ok⟩ ?_|refine br_not ?_|refine br_t rfl ?_|refine br_f rfl ?_|refine br_t (by assumption) ?_|refine br_f (by assumption) ?_|refine br_t (decide_eq_true (by assumption)) ?_|refine br_f (decide_eq_false (by assumption)) ?_|refine br_t (beq_iff_eq.2 (by assumption)) ?_|refine br_f (beq_eq_false_iff_ne.2 (by assumption)) ?_|refine drA ⟨tab_ok⟩ [] ?_|refine kpt ?_|refine br_t (decide_eq_true (by omega)) ?_|refine br_f (decide_eq_false (by omega)) ?_|refine wr_i ?_|refine opP (pvMk (by rfl) (by rfl) (by kernel_rfl)) ?_|refine opP (pvSlL (xs:=s) (endN s) (by rfl) (by rfl) (by rfl) ⟨by omega,by omega⟩ Tryz.underlying9) ?_|refine callN (f:=18) (ι:=Option Addr×Nat) (fun z=>.t [.v (.slice z.1 0 z.2),.i .i64 q,.i .i64 8]) (fun _=>nilO) (fun w1 hH=>hpa w1 (Hold.ob hH (A:=gkO) 0 rfl)) (fun z=>?_)|refine opbo ⟨tab_ok⟩ wdE [.nu (q+1)] [.tmp 43] [.v (.iface 3 (.int .i64 (q+1)))] (by rfl) (by rfl) (by rfl) (by rfl) rfl (fun g0=>?_)|refine rowW (f:=16) 0 (by rfl) (by rfl) (fun _=>by rfl) (by rfl) (by rfl) ?_|refine callO (f:=16) 3 (A:=wrO b0 none []) (fun _:Option Addr=>.t []) (fun B1=>wrO b0 B1 (errL 8 (q+1))) (fun w1 hH hA=>faultA (Hold.ob hH (A:=gkO) 0 rfl) (Hold.ob hH (A:=rwO wdE w.heap.size (some ⟨g0,0,none⟩) 1 1 [.nu (q+1)] true) 2 rfl) hA (apart hH 0 3 rfl rfl (by decide) (.inr rfl)) (apart hH 2 3 rfl rfl (by decide) (.inr rfl)) h8 h1 (Nat.zero_le _)) (fun B1=>?_)|refine callO (f:=17) 3 (A:=wrO b0 B1 (errL 8 (q+1))) (fun _:Unit=>tx (errL 8 (q+1))) (fun _=>goneO (b0::blkOf B1)) (fun w1 hH hA=>textC hA (errL_ne 8 (q+1))) (fun _=>?_)|refine fin_s ?_|refine fin_r ?_ ?_|refine fin_e ?_ ?_)
 all_goals rfl
end Sh
namespace CM
open Go.RowKit Ba Mem Go.Proofs.YtnoehplnmdajnaaGreatDoor.Ty
open Ri (MsgV)
set_option maxRecDepth 100000
attribute [local irreducible] Go.wpList
def msgC (m:MsgV):List Value:=[.int .i64 m.ki,.int .i64 m.a,.int .i64 m.b,.int .i64 m.c]
end CM
namespace Se
end Se
namespace Tw
open Go.RowKit Ba En Tm
set_option maxRecDepth 100000
attribute [local irreducible] Go.Calls
end Tw
namespace Se
open Go.RowKit Ba En
set_option maxRecDepth 100000
attribute [local irreducible] Go.Calls
end Se
namespace Ln
open Go.RowKit Ba Mem En Go.Proofs.YtnoehplnmdajnaaGreatDoor.Ty Tm Tw
open Ri (MsgV)
open Co (Hold.ob)
open CM (msgC)
set_option maxRecDepth 100000
attribute [local irreducible] Go.Calls
structure LkV where
 c:CfgV
 se:Int
 ep:Int
 sq:Int
 st:Int
 du:Int
 ak:Int
 an:Bool
 he:Int
def lkC (k:LkV) (sl:Value):Array Value:=#[.int .i64 k.c.ca,.int .i64 k.c.fl,.int .i64 k.c.ft,.int .i64 k.c.se,.int .i64 k.c.dr,.int .i64 k.c.dw,.int .i64 k.c.ho,.int .i64 k.c.re,.int .i64 k.c.yi,.int .i64 k.c.qu,.int .i64 k.c.qo,.int .i64 k.c.lo,.int .i64 k.c.sl,.int .i64 k.c.rt,.int .i64 k.c.cp,.int .i64 k.c.tr,.int .i64 k.c.de,.int .i64 k.c.wi,.int .i64 k.se,.int .i64 k.ep,sl,.int .i64 k.sq,.int .i64 k.st,.int .i64 k.du,.int .i64 k.ak,.bool k.an,.int .i64 k.he]
def LO (lo q:Nat) (k:LkV) (ls:List MsgV) (S:List Nat) (w:World):Prop :=
 lo≤q∧∃ A c,S=q::blkOf A∧Blk w q 202 (lkC k (.slice A ls.length c))∧w.ownsRow lo 154 4 (.slice A ls.length c) ls.length (rowsOf msgC ls)
section
variable {w w':World} {lo lo' q b:Nat} {k:LkV} {ls:List MsgV} {S T:List Nat}
theorem LO.upd (e:Upd T w w') (h:LO lo q k ls S w) (hT:∀ g∈S,g∉T):LO lo q k ls S w':=by
 obtain ⟨h0,A,c,rfl,B,O⟩:=h
 exact ⟨h0,A,c,rfl,e.blk B (hT _ (by simp)),e.own O (fun g hg=>hT g (by simp [hg]))⟩
theorem LO.lt (h:LO lo q k ls S w):∀ g∈S,g < w.heap.size:=by
 obtain ⟨h0,A,c,rfl,B,O⟩:=h
 intro g hg
 rcases List.mem_cons.1 hg with rfl | hg
 ·exact B.lt
 ·exact own_lt O g hg
end
section
variable {q n c:Nat} {k:LkV} {A:Option Addr} {w:World}
end
section
variable {lo q:Nat} {k:LkV} {ls:List MsgV} {S:List Nat} {w:World}
end
section
variable {lo q:Nat} {k:LkV} {ls:List MsgV} {S:List Nat} {w:World}
end
end Ln
namespace Mp
open Go.RowKit Ba Mem
open Go.Maps (Keyed IsMap)
def rv (v:Value):Option (DataW Value×List MemPlace):=some (.held v,[])
def MapF (P:Program) (k:TypeId) (w:World) (b n:Nat) (m:Int→Option Value):Prop :=
 ∃ D:DataW Value,w.ownsMap P k rv b n D∧IsMap D∧∀ x,(Lit.int .i64 x).wf=true→∀ z,D.atKey (.int .i64 x) z=match m x with | some v=>.held v | none=>z
def setK (m:Int→Option Value) (x:Int) (v:Option Value):Int→Option Value:=fun y=>if y=x then v else m y
section
variable {P:Program} {k e t:TypeId} {w w':World} {b n:Nat} {m:Int→Option Value} {S:List Nat}
theorem MapF.lt (h:MapF P k w b n m):b < w.heap.size:=by
 obtain ⟨D,h1,_⟩:=h
 exact h1.lt
theorem MapF.upd (u:Upd S w w') (h:MapF P k w b n m) (hb:b∉S):MapF P k w' b n m:=by
 obtain ⟨D,⟨es,clock,h1,h2⟩,h3⟩:=h
 have hlt:b < w.heap.size:=(Array.getElem?_eq_some_iff.1 h1).1
 exact ⟨D,⟨es,clock,(u.block b hlt hb).trans h1,h2⟩,h3⟩
theorem key_lit (x:Int):WideAt.IsKeyLit (.int .i64 x):=by first | trivial | simp [WideAt.IsKeyLit]
theorem grown_upd (g:w.grownBy w' (some b)):Upd [b] w w' :=
 ⟨g.os,g.tape,g.output,g.size,fun j hj hn=>g.block j hj (fun e=>hn (by injection e with e; simp [e]))⟩
theorem ne_lit {x y:Int} (h:y≠x):(Lit.int .i64 y)≠.int .i64 x:=fun e=>h (by injection e)
variable {o:Oper} {a:Act} {K:Act→World→Prop} {Q:Exit→Act→World→Prop}
theorem wp_mapnew (ty:TypeId) (ho:o.op=.makeMap ty none) (hK:∀ b w',w.heap.size≤b→MapF P k w' b 0 (fun _=>none)→Since w w'→K (a.put o.dst (.map (some b))) w'):o.wp P a w K Q:=by
 unfold Oper.wp
 simp [execOp,ho,run_makeMap,Result.andThen]
 refine hK _ _ (Nat.le_refl _) ⟨.map [],World.ownsMap_made _ _ _ _,Go.Maps.isMap_empty,fun x _ z=>?_⟩ ((Since.refl w).alloc _)
 simp [DataW.atKey]
end
end Mp
namespace En
open Go.RowKit Ba Mem Mp
open Go.Maps (Keyed IsMap)
def mpO (P:Program) (k:TypeId) (b n:Nat) (m:Int→Option Value) (rw:Bool):Asr :=
 ⟨[b],rw,fun w=>MapF P k w b n m,fun u hd h=>h.upd u (hd b (List.mem_singleton.2 rfl)),fun h g hg=>by rw [List.mem_singleton] at hg; subst hg; exact h.lt⟩
section
variable {X:Cx} {s:St} {o:Oper} {K:St→Prop} {A:Asr} {ty k e:TypeId} {mm x y:Operand} {b n:Nat} {m:Int→Option Value} {I:Int}
theorem map_has {P:Program} {w:World} {D:DataW Value} {n:Nat} {m:Int→Option Value} (hw:(Lit.int .i64 I).wf=true) (h3:∀ x,(Lit.int .i64 x).wf=true→∀ z,D.atKey (.int .i64 x) z=match m x with | some v=>.held v | none=>z):Maps.has D (.int .i64 I)=(m I).isSome:=by
 have h:=h3 I hw
 cases hm:m I with
 | none=>rw [hm] at h; exact Maps.has_false_of_atKey h
 | some v=>rw [hm] at h; exact Maps.has_true_of_atKey h
theorem oplo (i:Nat) (z:Value) (v:SV) (t:Bool) (ho:o.op=.lookup ty mm x true) (hm:evO mm s.fr=some (.v (.map (some b)))) (hx:evO x s.fr=some (.i .i64 I)) (hA:s.ob[i]?=some A) (hM:∀ w,A.st w→MapF X.P k w b n m)
  (hk:X.P.underlying k=some (.int .i64)) (ht:X.P.underlying ty=some (.map k e)) (hz:∀ w,(zeroValue e).run X.P w=.ok z w) (hw:(Lit.int .i64 I).wf=true) (hv:(m I).getD z=den s.m v) (hs:(m I).isSome=t) (h:put X.n o.dst (.t [v,.b t]) s K) (hok:okV s.m.length v=true:=by rfl):OpVC X o s K :=
 opq (.t [v,.b t]) (fun a w hf hH=>by
  obtain ⟨D,h1,_,h3⟩:=hM w (hH.obj A (List.mem_of_getElem? hA))
  obtain ⟨v',ps,hrun,hat⟩:=h1.look_ok (Go.Maps.int_keyed hk) ht (hz w) (zd:=.held z) (zp:=[]) rfl (Go.Maps.keyOf_int_mk hk hw)
  have e:v'=den s.m v:=by
   rw [h3 I hw] at hat
   have hat2:=(Prod.mk.injEq _ _ _ _).mp (Option.some.inj hat) |>.1
   rw [← hv]
   cases hmi:m I with
   | none=>rw [hmi] at hat2; injection hat2 with hat2
   | some u=>rw [hmi] at hat2; injection hat2 with hat2
  have hh:=map_has (P:=X.P) (w:=w) (n:=n) hw h3
  have em:=(evO_of hf hm).2
  have ex:=(evO_of hf hx).2
  simp only [den] at em ex
  simp only [execOp,ho,em,ex,hrun,Sem.run_bind,Sem.run_pure,Result.andThen_ok]
  subst e
  rw [hh,hs]
  rfl) h (by unfold okV okL okL okL; simp [hok,okV])
theorem opmk (k:TypeId) (ho:o.op=.makeMap ty none) (h:∀ b,appO s.ob (mpO X.P k b 0 (fun _=>none) true) fun ob=>put X.n o.dst (.v (.map (some b))) ⟨s.fr,s.m,ob⟩ K):OpVC X o s K:=⟨fun a w Q hR=>by
 refine wp_mapnew (k:=k) ty ho (fun b w' hb hmap hs=>?_)
 have hH:=hR.h.obj_new (B:=mpO X.P k b 0 (fun _=>none) true) hmap hs (fun g hg=>by rw [List.mem_singleton.1 hg]; exact hb)
 obtain ⟨s',r1,r2,r3,r4⟩:=put_of (a:=a) (s:=⟨s.fr,s.m,s.ob++[mpO X.P k b 0 (fun _=>none) true]⟩) (v:=.v (.map (some b))) hR.ds hR.sz hR.fr hH rfl (appO_of (h b))
 exact ⟨s',r1,by rw [r2]; exact Ext.refl _,r4⟩⟩
end
end En
namespace Co
open Go.RowKit Ba Mem En Go.Proofs.YtnoehplnmdajnaaGreatDoor.Ty Mo
open Gr (GrV GO CarsAt WaitsAt carL waitL WaitV newG okW aimR giveR)
open Qu (QO askC btw)
open Le (TO hasL ofL setL endL zeroL)
open Fl (leaE mayB)
open Ri (MsgV)
open Et (carsO)
set_option maxRecDepth 100000
attribute [local irreducible] Go.Calls mayB hasL ofL
section
variable {q lo:Nat} {p:Pt} {K:KV} {S:List Nat} {w:World}
end
end Co
namespace Co
open Go.RowKit Ba Mem En Go.Proofs.YtnoehplnmdajnaaGreatDoor.Ty Mo
open Gr (GrV GO CarsAt WaitsAt carL waitL WaitV newG okW aimR giveR one)
open Qu (QO askC btw)
open Le (TO hasL ofL setL endL zeroL)
open Fl (leaE mayB)
open Ri (MsgV)
open Et (carsO car_at)
set_option maxRecDepth 100000
attribute [local irreducible] Go.Calls mayB hasL ofL
theorem one_c (G:GrV) (i:Int) (f:CarV→CarV×Int):(one G i f).1.c=G.c:=by unfold one; split <;> rfl
attribute [local irreducible] giveR aimR endL setL
def endK (K:KV) (s:Int):KV:=if hasL K.L s=true then ⟨(giveR K.G (ofL K.L s).ca).1,K.Q,endL K.L s⟩ else K
section
variable {q lo:Nat} {p:Pt} {K:KV} {S:List Nat} {w:World}
attribute [local irreducible] endK
end
end Co
namespace Co
open Go.RowKit Ba Mem En Go.Proofs.YtnoehplnmdajnaaGreatDoor.Ty Mo Go.Proofs.YtnoehplnmdajnaaGreatDoor.St
open Gr (GrV GO CarsAt WaitsAt carL waitL waitA WaitV newG okW idB waitsO wait_at)
open Qu (QO askC btw)
open Le (TO hasL ofL setL endL zeroL)
open Fl (leaE mayB)
open Ri (MsgV)
open Et (carsO car_at)
set_option maxRecDepth 100000
attribute [local irreducible] Go.Calls
section
variable {q lo:Nat} {p:Pt} {K:KV} {S:List Nat} {w:World}
theorem hold_kr {n:Nat} (hk:Blk w q 120 (coreA K.G.c p)) (hb:BD lo p K S w):Hold ⟨Tryz.prog,tab,[],w,n,[]⟩ [⟨q,120,true,0,[],coreS K.G.c p,[],false⟩] [bdO lo p K S false] w :=
 Hold.addObj (hold_q (S:=[]) (coreS K.G.c p) hk) (bdO lo p K S false) hb (by intro k; cases k) (by intro r hr _; rw [List.mem_singleton] at hr; subst hr; exact hb.far hk) (by intro A hA; cases hA)
attribute [local irreducible] idB
end
end Co
namespace Co
open Go.RowKit Ba Mem En Go.Proofs.YtnoehplnmdajnaaGreatDoor.Ty Mo Go.Proofs.YtnoehplnmdajnaaGreatDoor.St
open Gr (GrV GO CarsAt WaitsAt carL waitL waitA WaitV newG okW waitsO wait_at takeR)
open Qu (QO askC btw)
open Le (TO hasL ofL setL endL zeroL)
open Fl (leaE mayB)
open Ri (MsgV)
open Et (carsO car_at)
set_option maxRecDepth 100000
attribute [local irreducible] Go.Calls
attribute [local irreducible] takeR
section
variable {q lo:Nat} {p:Pt} {K:KV} {S:List Nat} {w:World}
end
end Co
namespace Co
open Go.RowKit Ba Mem En Go.Proofs.YtnoehplnmdajnaaGreatDoor.Ty Mo Go.Proofs.YtnoehplnmdajnaaGreatDoor.St
open Gr (GrV GO CarsAt WaitsAt carL waitL waitA WaitV newG okW waitsO wait_at)
open Qu (QO askC)
open Le (TO)
open Fl (leaE)
open Ri (MsgV)
open Et (carsO car_at)
set_option maxRecDepth 100000
attribute [local irreducible] Go.Calls
section
variable {q lo:Nat} {p:Pt} {K:KV} {S:List Nat} {w:World}
end
end Co
namespace En
open Go.RowKit Ba Mem
end En
namespace Co
open Go.RowKit Ba Mem En Go.Proofs.YtnoehplnmdajnaaGreatDoor.Ty Mo Go.Proofs.YtnoehplnmdajnaaGreatDoor.St
open Gr (GrV GO CarsAt WaitsAt newG okW waitsO)
open Qu (QO qO)
open Le (TO tO)
open Fl (leaE)
open Ri (MsgV)
open Et (carsO)
set_option maxRecDepth 100000
attribute [local irreducible] Go.Calls
def KW (lo q:Nat) (p:Pt) (K:KV) (S:List Nat) (w:World):Prop:=lo≤q∧∃ S0,S=q::S0∧Blk w q 120 (coreA K.G.c p)∧BD lo p K S0 w
section
variable {lo q:Nat} {p:Pt} {K:KV} {S T:List Nat} {w w':World}
theorem KW.upd (k:Upd T w w') (h:KW lo q p K S w) (hT:∀ g∈S,g∉T):KW lo q p K S w':=by
 obtain ⟨h0,S0,rfl,B,D⟩:=h
 exact ⟨h0,S0,rfl,k.blk B (hT _ (by simp)),D.upd k (fun g hg=>hT g (by simp [hg]))⟩
theorem KW.lt (h:KW lo q p K S w):∀ g∈S,g < w.heap.size:=by
 obtain ⟨h0,S0,rfl,B,D⟩:=h
 intro g hg
 rcases List.mem_cons.1 hg with rfl | hg
 ·exact B.lt
 ·exact D.lt g hg
theorem KW.low (h:KW lo q p K S w):∀ g∈S,lo≤g:=by
 obtain ⟨h0,S0,rfl,B,D⟩:=h
 intro g hg
 rcases List.mem_cons.1 hg with rfl | hg
 ·exact h0
 ·exact D.low g hg
end
def kO (lo q:Nat) (p:Pt) (K:KV) (S:List Nat) (rw:Bool):Asr:=⟨S,rw,KW lo q p K S,fun k h hs=>hs.upd k h,fun h=>h.lt⟩
section
variable {P:Program} {F:FuncId} {args:Array Value} {lo q:Nat} {p:Pt} {K K':KV} {S:List Nat} {w:World} {V:Value}
theorem KW.run (h:KW lo q p K S w) (hcc:K'.G.c=K.G.c) (hc:∀ S0,Blk w q 120 (coreA K.G.c p)→BD lo p K S0 w→Calls P F args w fun e w'=>e=.returned V∧∃ S',BD lo p K' S' w'∧Upd S0 w w'∧∀ g∈S',g∈S0∨w.heap.size≤g) :
  Calls P F args w fun e w'=>∃ S',e=.returned V∧KW lo q p K' S' w'∧Upd S w w'∧∀ g∈S',g∈S∨w.heap.size≤g:=by
 obtain ⟨h0,S0,rfl,B,D⟩:=h
 refine (hc S0 B D).mono ?_
 rintro e w' ⟨rfl,S',d,u,n⟩
 refine ⟨q::S',rfl,⟨h0,S',rfl,by rw [hcc]; exact u.blk B (D.far B),d⟩,u.mono (fun k hk _=>List.mem_cons_of_mem _ hk),fun g hg=>?_⟩
 rcases List.mem_cons.1 hg with rfl | hg
 ·exact .inl (List.mem_cons_self ..)
 ·exact (n g hg).imp (List.mem_cons_of_mem _) id
theorem KW.rd (h:KW lo q p K S w):∃ S0,Blk w q 120 (coreA K.G.c p)∧BD lo p K S0 w:=by
 obtain ⟨h0,S0,rfl,B,D⟩:=h
 exact ⟨S0,B,D⟩
theorem KW.grp (h:KW lo q p K S w) {G':GrV} (hcc:G'.c=K.G.c) (hc:∀ S1,GO lo p.g K.G S1 w→Calls P F args w fun e w'=>e=.returned V∧∃ S',GO lo p.g G' S' w'∧Upd S1 w w'∧∀ g∈S',g∈S1∨w.heap.size≤g) :
  Calls P F args w fun e w'=>∃ S',e=.returned V∧KW lo q p { K with G:=G' } S' w'∧Upd S w w'∧∀ g∈S',g∈S∨w.heap.size≤g :=
 h.run hcc (fun S0 B D=>(BD.grp D hcc hc).mono (by rintro e w' ⟨S',rfl,x⟩; exact ⟨rfl,S',x⟩))
end
section
variable {lo q:Nat} {p:Pt} {K:KV} {S:List Nat} {w:World}
theorem groupK (h:KW lo q p K S w):Calls Tryz.prog 90 #[.pointer (some ⟨q,0,none⟩)] w fun e w'=>e=.returned (.pointer (some ⟨p.g,0,none⟩))∧Since w w':=by
 obtain ⟨S0,hk,hb⟩:=h.rd
 refine entH tab_ok (hold_kr hk hb) [.p 0 0] Tryz.func90 Tryz.ntmps90 rfl rfl ?_
 repeat' ((conv=>whnf); first | refine sgo ⟨tab_ok⟩ ?_|refine br_not ?_|refine br_t rfl ?_|refine br_f rfl ?_|refine br_t (by assumption) ?_|refine br_f (by assumption) ?_|refine br_t (decide_eq_true (by assumption)) ?_|refine br_f (decide_eq_false (by assumption)) ?_|refine br_t (beq_iff_eq.2 (by assumption)) ?_|refine br_f (beq_eq_false_iff_ne.2 (by assumption)) ?_|intro b | refine drA ⟨tab_ok⟩ [] ?_|refine kpt ?_|refine fin_s ?_|refine fin_r ?_ ?_|refine fin_e ?_ ?_)
 all_goals rfl
theorem leasesK (h:KW lo q p K S w) (hl:K.L.length≤10000):Calls Tryz.prog 38 #[.pointer (some ⟨q,0,none⟩)] w fun e w'=>∃ A' c',e=.returned (.slice A' K.L.length c')∧leaE.At w.heap.size A' K.L.length c' K.L w'∧Since w w':=by
 obtain ⟨S0,hk,hb⟩:=h.rd
 refine entH tab_ok (hold_kr hk hb) [.p 0 0] Tryz.func38 Tryz.ntmps38 rfl rfl ?_
 repeat' ((conv=>whnf); first | refine sgo ⟨tab_ok⟩ ?_|refine br_not ?_|refine br_t rfl ?_|refine br_f rfl ?_|refine br_t (by assumption) ?_|refine br_f (by assumption) ?_|refine br_t (decide_eq_true (by assumption)) ?_|refine br_f (decide_eq_false (by assumption)) ?_|refine br_t (beq_iff_eq.2 (by assumption)) ?_|refine br_f (beq_eq_false_iff_ne.2 (by assumption)) ?_|intro b | refine drA ⟨tab_ok⟩ [] ?_|refine kpt ?_|refine callN (f:=63) (ι:=NrA w.heap.size) (fun x=>.v (.slice x.1.2.1 K.L.length x.1.2.2)) (fun x=>rwO leaE x.1.1 x.1.2.1 K.L.length x.1.2.2 K.L true) (fun w1 hH=>toN ((Hold.ob hH (A:=bdO lo p K S0 false) 0 rfl).leases hl) hH.upd.size) (fun x=>?_)|refine fin fun w' hH=>⟨_,_,rfl,own_base (Hold.ob hH (A:=rwO leaE x.1.1 x.1.2.1 K.L.length x.1.2.2 K.L true) 1 rfl) x.2,hH.upd.since⟩|refine fin_s ?_|refine fin_r ?_ ?_|refine fin_e ?_ ?_)
theorem newW (c:CfgV) (w:World):Calls Tryz.prog 33 #[.agg #[.int .i64 c.ca,.int .i64 c.fl,.int .i64 c.ft,.int .i64 c.se,.int .i64 c.dr,.int .i64 c.dw,.int .i64 c.ho,.int .i64 c.re,.int .i64 c.yi,.int .i64 c.qu,.int .i64 c.qo,.int .i64 c.lo,.int .i64 c.sl,.int .i64 c.rt,.int .i64 c.cp,.int .i64 c.tr,.int .i64 c.de,.int .i64 c.wi]] w fun e w'=>∃ q p S',e=.returned (.pointer (some ⟨q,0,none⟩))∧KW w.heap.size q p (newK c) S' w'∧Since w w':=by
 refine ent tab_ok [.a [.i .i64 c.ca,.i .i64 c.fl,.i .i64 c.ft,.i .i64 c.se,.i .i64 c.dr,.i .i64 c.dw,.i .i64 c.ho,.i .i64 c.re,.i .i64 c.yi,.i .i64 c.qu,.i .i64 c.qo,.i .i64 c.lo,.i .i64 c.sl,.i .i64 c.rt,.i .i64 c.cp,.i .i64 c.tr,.i .i64 c.de,.i .i64 c.wi]] Tryz.func33 Tryz.ntmps33 rfl rfl ?_
 repeat' ((conv=>whnf); first | refine sgo ⟨tab_ok⟩ ?_|refine br_not ?_|refine br_t rfl ?_|refine br_f rfl ?_|refine br_t (by assumption) ?_|refine br_f (by assumption) ?_|refine br_t (decide_eq_true (by assumption)) ?_|refine br_f (decide_eq_false (by assumption)) ?_|refine br_t (beq_iff_eq.2 (by assumption)) ?_|refine br_f (beq_eq_false_iff_ne.2 (by assumption)) ?_|intro b | refine drA ⟨tab_ok⟩ [] ?_|refine kpt ?_|refine callN (f:=50) (ι:={x:Nat×Nat×List Nat // w.heap.size≤x.1}) (fun x=>.v (.pointer (some ⟨x.1.2.1,0,none⟩))) (fun x=>⟨x.1.2.2,true,GO x.1.1 x.1.2.1 (newG c) x.1.2.2,fun k h hs=>hs.upd k h,fun h=>h.lt⟩) (fun w1 hH=>(Gr.newT c w1).mono (by rintro e w' ⟨q,S',rfl,h1,h2⟩; exact ⟨⟨(w1.heap.size,q,S'),hH.upd.size⟩,rfl,h1,h2,h1.low⟩)) (fun x=>?_)|refine callN (f:=51) (ι:={x:Nat×Nat // w.heap.size≤x.1}) (fun x=>.v (.pointer (some ⟨x.1.2,0,none⟩))) (fun x=>qO x.1.1 x.1.2 (Qu.btw c.qu 0 64) [] [x.1.2] true) (fun w1 hH=>(Qu.newT c.qu w1).mono (by rintro e w' ⟨q,rfl,h1,h2⟩; exact ⟨⟨(w1.heap.size,q),hH.upd.size⟩,rfl,h1,h2,h1.low⟩)) (fun y=>?_)|refine callN (f:=52) (ι:={x:Nat×Nat // w.heap.size≤x.1}) (fun x=>.v (.pointer (some ⟨x.1.2,0,none⟩))) (fun x=>tO x.1.1 x.1.2 c [] [x.1.2] true) (fun w1 hH=>(Le.newT c w1).mono (by rintro e w' ⟨q,rfl,h1,h2⟩; exact ⟨⟨(w1.heap.size,q),hH.upd.size⟩,rfl,h1,h2,h1.low⟩)) (fun z=>?_)|refine fin fun w' hH=>?_|refine fin_s ?_|refine fin_r ?_ ?_|refine fin_e ?_ ?_)
 have o0:=Hold.ob hH (A:=⟨x.1.2.2,true,GO x.1.1 x.1.2.1 (newG c) x.1.2.2,fun k h hs=>hs.upd k h,fun h=>h.lt⟩) 0 rfl
 have o1:=Hold.ob hH (A:=qO y.1.1 y.1.2 (Qu.btw c.qu 0 64) [] [y.1.2] true) 1 rfl
 have o2:=Hold.ob hH (A:=tO z.1.1 z.1.2 c [] [z.1.2] true) 2 rfl
 have d01:=pair_at (R:=DisR) (fun _ _ h=>h.symm) hH.dis (i:=0) (j:=1) rfl rfl (by decide) (.inl rfl)
 have d02:=pair_at (R:=DisR) (fun _ _ h=>h.symm) hH.dis (i:=0) (j:=2) rfl rfl (by decide) (.inl rfl)
 have d12:=pair_at (R:=DisR) (fun _ _ h=>h.symm) hH.dis (i:=1) (j:=2) rfl rfl (by decide) (.inl rfl)
 refine ⟨_,⟨x.1.2.1,y.1.2,z.1.2⟩,_,rfl,⟨?_,_,rfl, ?_,⟨x.1.2.2,[y.1.2],[z.1.2],rfl,GO.base o0 x.2,QO.base o1 y.2,TO.base o2 z.2,d01,d02,d12⟩⟩,hH.upd.since⟩
 ·rcases (hH.wf 1 _ rfl rfl).2.2 rfl with h | h
  ·cases h
  ·exact h
 ·have q:=hH.row 1 _ rfl rfl
  rw [rowA_nil rfl rfl] at q
  exact q
end
end Co
namespace Sc
open Go.RowKit Ba Go.Proofs.YtnoehplnmdajnaaGreatDoor.St
set_option maxRecDepth 100000
end Sc
namespace Sc
open Go.Proofs.YtnoehplnmdajnaaGreatDoor.St
end Sc
namespace Ct
open Go.RowKit Ba Mem Go.Proofs.YtnoehplnmdajnaaGreatDoor.Ty Do Mo Go.Proofs.YtnoehplnmdajnaaGreatDoor.St Sc Pl
def mayB (c:CfgV) (x:CarV):Bool:=goodB c x && decide ((x.mo=0∨x.mo=1)∧(lvB x.un=true∨¬ x.wy=0)∧(¬ x.mo=1∨(0≤x.ta∧x.ta < fl c.fl)))
end Ct
namespace Gr
open Go.RowKit Ba Mem Go.Proofs.YtnoehplnmdajnaaGreatDoor.Ty Mo Go.Proofs.YtnoehplnmdajnaaGreatDoor.St Pl Sc
open Ct (cfgA carA dwV mayB)
def SafeX (c:CfgV) (T:Nat) (x:CarV):Prop:=mayB c x=true∧(R x.sp∧R x.su∧R x.sd) ∧ -(T:Int)≤x.ti∧x.ti≤2000
section
variable {c:CfgV} {T:Nat} {x:CarV}
theorem SafeX.stops (h:SafeX c T x) {p u d:Int} (hr:R p∧R u∧R d):SafeX c T { x with sp:=p,su:=u,sd:=d }:=⟨h.1,hr,h.2.2⟩
theorem SafeX.hall (h:SafeX c T x) (a:WaitV):SafeX c T (hallX a x):=by
 refine h.stops (p:=x.sp) ⟨h.2.1.1, ?_, ?_⟩
 ·unfold haU; split
  ·exact or_R h.2.1.2.1 (bit_R _)
  ·exact h.2.1.2.1
 ·unfold haD; split
  ·exact or_R h.2.1.2.2 (bit_R _)
  ·exact h.2.1.2.2
end
section
variable {G:GrV} {i:Int} {f:CarV→CarV×Int}
theorem one_same:(one G i f).1.c=G.c∧(one G i f).1.waits=G.waits∧(one G i f).1.now=G.now∧(one G i f).1.cars.length=G.cars.length:=by
 unfold one; split
 ·exact ⟨rfl,rfl,rfl,by simp [GrV.car]⟩
 ·exact ⟨rfl,rfl,rfl,rfl⟩
theorem one_cars {P:CarV→Prop} (h:∀ x∈G.cars,P x) (hf:∀ x∈G.cars,P x→P (f x).1):∀ x∈(one G i f).1.cars,P x:=by
 unfold one; split
 ·rename_i hk
  intro x hx
  rcases List.mem_or_eq_of_mem_set hx with h1 | h1
  ·exact h x h1
  ·rw [h1]; exact hf _ (List.getElem_mem hk.2) (h _ (List.getElem_mem hk.2))
 ·exact h
end
def doR (G:GrV) (k a b:Int) (y:Bool):GrV×Int :=
 if k=1 then hallR G a b else if k=2 then pressR G a b else if k=3 then loadR G a b else if k=4 then curtR G a y else if k=5 then faultR G a y else if k=6 then takeR G a b else if k=7 then aimR G a b y else if k=8 then giveR G a else (G,0)
def GI (c:CfgV) (n T:Nat) (G:GrV):Prop:=G.c=c∧G.cars.length=ncars c∧(∀ x∈G.cars,SafeX c T x)∧(∀ a∈G.waits,okW a)∧G.waits.length≤n
section
variable {c:CfgV} {n T:Nat} {G:GrV}
theorem GI.one (h:GI c n T G) (i:Int) (f:CarV→CarV×Int) (hf:∀ x∈G.cars,SafeX c T x→SafeX c T (f x).1):GI c n T (one G i f).1:=by
 obtain ⟨h1,h2,h3,h4,h5⟩:=h
 have e:=one_same (G:=G) (i:=i) (f:=f)
 exact ⟨e.1.trans h1,e.2.2.2.trans h2,one_cars h3 hf,by rw [e.2.1]; exact h4,by rw [e.2.1]; exact h5⟩
end
def Near (x y:CarV):Prop:=y={ x with su:=y.su,sd:=y.sd }
theorem Near.hall {x y:CarV} (h:Near x y) (a:WaitV):Near x (hallX a y):=by unfold Near at h ⊢; rw [h]; rfl
end Gr
namespace Gr
open Go.RowKit Ba Mem Go.Proofs.YtnoehplnmdajnaaGreatDoor.Ty Mo Go.Proofs.YtnoehplnmdajnaaGreatDoor.St
section
variable {c:CfgV} {n T:Nat} {G:GrV}
theorem one_w (i:Int) (f:CarV→CarV×Int):(one G i f).1.waits=G.waits∧(one G i f).1.now=G.now∧(one G i f).1.cars.length=G.cars.length:=(one_same (G:=G) (i:=i) (f:=f)).2
end
end Gr
namespace Co
open Go.RowKit Ba Mem En Go.Proofs.YtnoehplnmdajnaaGreatDoor.Ty Mo Go.Proofs.YtnoehplnmdajnaaGreatDoor.St
open Gr (GrV newG okW GI ncars ncars_bd giveR aimR takeR loadR)
open Qu (btw)
open Le (hasL ofL setL endL zeroL atP isS isT)
open Fl (mayB belB)
open Ri (MsgV)
section
variable {c:CfgV} {n T m:Nat} {K:KV}
end
end Co
namespace Co
open Go.RowKit Ba Mem En Go.Proofs.YtnoehplnmdajnaaGreatDoor.Ty Mo Go.Proofs.YtnoehplnmdajnaaGreatDoor.St
open Gr (GrV GO CarsAt WaitsAt newG okW waitsO)
open Qu (QO qO)
open Le (TO tO)
open Fl (leaE)
open Ri (MsgV)
set_option maxRecDepth 100000
attribute [local irreducible] Go.Calls
attribute [local irreducible] newK
end Co
namespace En
open Go.RowKit Ba Mem
section
variable {X:Cx} {s:St} {o:Oper}
end
end En
namespace Gw
open Go.RowKit Ba Mem En Go.Proofs.YtnoehplnmdajnaaGreatDoor.Ty Mp
open Ri (MsgV)
open Ln (LkV LO)
set_option maxRecDepth 100000
structure SeV where
 k:LkV
 ls:List MsgV
 h:MsgV
 hd:Bool
structure SeD where
 b:Nat
 q:Nat
 S:List Nat
 v:SeV
abbrev Fam:=Int→Option SeD
def seC (d:SeD):Array Value:=#[.pointer (some ⟨d.q,0,none⟩),.int .i64 d.v.h.ki,.int .i64 d.v.h.a,.int .i64 d.v.h.b,.int .i64 d.v.h.c,.bool d.v.hd]
def SeO (lo:Nat) (d:SeD) (w:World):Prop:=lo≤d.b∧Blk w d.b 156 (seC d)∧LO lo d.q d.v.k d.v.ls d.S w∧d.b∉d.S
def blS (d:SeD):List Nat:=d.b::d.S
def famS (D:Fam):List Nat:=(List.range 64).flatMap fun (k:Nat)=>match D (k:Int) with | some d=>blS d | none=>[]
def ptrs (D:Fam):Int→Option Value:=fun i=>(D i).map fun d=>.pointer (some ⟨d.b,0,none⟩)
structure FO (lo mb M:Nat) (D:Fam) (w:World):Prop where
 h0:lo≤mb
 mp:MapF Tryz.prog 3 w mb M (ptrs D)
 at_:∀ i d,D i=some d→(0≤i∧i < 64)∧SeO lo d w
 ne:∀ i j d e,D i=some d→D j=some e→i≠j→∀ g∈blS d,g∉blS e
 far:∀ i d,D i=some d→mb∉blS d
theorem fam_mem {D:Fam} {g:Nat}:g∈famS D↔∃ k:Nat,k < 64∧∃ d,D k=some d∧g∈blS d:=by
 unfold famS
 rw [List.mem_flatMap]
 constructor
 ·rintro ⟨k,hk,hg⟩
  cases hd:D k with
  | none=>rw [hd] at hg; cases hg
  | some d=>rw [hd] at hg; exact ⟨k,List.mem_range.1 hk,d,hd,hg⟩
 ·rintro ⟨k,hk,d,hd,hg⟩
  exact ⟨k,List.mem_range.2 hk,by rw [hd]; exact hg⟩
theorem fam_at {D:Fam} {i:Int} {d:SeD} (hd:D i=some d) (hi:0≤i∧i < 64) {g:Nat} (hg:g∈blS d):g∈famS D :=
 fam_mem.2 ⟨i.toNat,by omega,d,by rw [Int.toNat_of_nonneg hi.1]; exact hd,hg⟩
section
variable {lo lo' mb M:Nat} {D:Fam} {w w':World} {T:List Nat} {d:SeD}
theorem SeO.upd (u:Upd T w w') (h:SeO lo d w) (hT:∀ g∈blS d,g∉T):SeO lo d w' :=
 ⟨h.1,u.blk h.2.1 (hT _ (List.mem_cons_self ..)),h.2.2.1.upd u (fun g hg=>hT g (List.mem_cons_of_mem _ hg)),h.2.2.2⟩
theorem SeO.lt (h:SeO lo d w):∀ g∈blS d,g < w.heap.size:=by
 intro g hg
 rcases List.mem_cons.1 hg with rfl | hg
 ·exact h.2.1.lt
 ·exact h.2.2.1.lt g hg
theorem FO.upd (u:Upd T w w') (h:FO lo mb M D w) (hT:∀ g∈mb::famS D,g∉T):FO lo mb M D w' :=
 ⟨h.h0,h.mp.upd u (hT _ (List.mem_cons_self ..)),fun i d hd=>⟨(h.at_ i d hd).1,(h.at_ i d hd).2.upd u (fun g hg=>hT g (List.mem_cons_of_mem _ (fam_at hd (h.at_ i d hd).1 hg)))⟩,h.ne,h.far⟩
theorem FO.lt (h:FO lo mb M D w):∀ g∈mb::famS D,g < w.heap.size:=by
 intro g hg
 rcases List.mem_cons.1 hg with rfl | hg
 ·exact h.mp.lt
 ·obtain ⟨k,_,d,hd,hg⟩:=fam_mem.1 hg
  exact (h.at_ _ d hd).2.lt g hg
end
section
variable {lo mb M:Nat} {D:Fam} {w w':World} {i:Int} {d d':SeD}
variable {F:FuncId} {args:Array Value} {V:Value} {k':LkV} {ls':List MsgV}
theorem FO.look (h:FO lo mb M D w) (hd:D i=some d):∃ A c,Blk w d.q 202 (Ln.lkC d.v.k (.slice A d.v.ls.length c)):=by
 obtain ⟨_,A,c,_,B,_⟩:=(h.at_ i d hd).2.2.2.1
 exact ⟨A,c,B⟩
theorem FO.hel (h:FO lo mb M D w) (hd:D i=some d):w.rangeAt d.b 1 [.int .i64 d.v.h.ki,.int .i64 d.v.h.a,.int .i64 d.v.h.b,.int .i64 d.v.h.c]:=range_of (h.at_ i d hd).2.2.1 (n:=4) rfl rfl
end
end Gw
namespace Gw
open Go.RowKit Ba Mem En Go.Proofs.YtnoehplnmdajnaaGreatDoor.Ty Mp
open Ri (MsgV)
open Ln (LkV LO)
open Co (KV Pt KW groupK Nr NrA Hold.ob)
set_option maxRecDepth 100000
attribute [local irreducible] Go.Calls
theorem wf_small {I:Int} (h:0≤I∧I < 64):(Lit.int .i64 I).wf=true:=by
 have h1:IntKind.i64.min = -9223372036854775808:=by decide
 have h2:IntKind.i64.max=9223372036854775807:=by decide
 simp [Lit.wf]; omega
structure KG (lo q:Nat) (p:Pt) (mb M:Nat) (K:KV) (Sk:List Nat) (D:Fam) (w:World):Prop where
 k:KW lo q p K Sk w
 f:FO lo mb M D w
 far:∀ g∈Sk,g∉mb::famS D
def kgF (mb:Nat) (Sk:List Nat) (D:Fam):List Nat:=Sk++mb::famS D
section
variable {lo q mb M:Nat} {p:Pt} {K K':KV} {Sk T:List Nat} {D:Fam} {w w':World} {i:Int} {d:SeD}
theorem KG.upd (u:Upd T w w') (h:KG lo q p mb M K Sk D w) (hT:∀ g∈kgF mb Sk D,g∉T):KG lo q p mb M K Sk D w' :=
 ⟨h.k.upd u (fun g hg=>hT g (List.mem_append.2 (.inl hg))),h.f.upd u (fun g hg=>hT g (List.mem_append.2 (.inr hg))),h.far⟩
theorem KG.lt (h:KG lo q p mb M K Sk D w):∀ g∈kgF mb Sk D,g < w.heap.size:=fun g hg=>by
 rcases List.mem_append.1 hg with hg | hg
 ·exact h.k.lt g hg
 ·exact h.f.lt g hg
end
def kgO (lo q:Nat) (p:Pt) (mb M:Nat) (K:KV) (Sk:List Nat) (D:Fam) (rw:Bool):Asr:=⟨kgF mb Sk D,rw,KG lo q p mb M K Sk D,fun u hd h=>h.upd u hd,fun h=>h.lt⟩
section
variable {lo q mb M:Nat} {p:Pt} {K K':KV} {Sk T:List Nat} {D:Fam} {w w':World} {i:Int} {d:SeD} {F:FuncId} {args:Array Value} {V:Value}
theorem KG.core (h:KG lo q p mb M K Sk D w) (hc:KW lo q p K Sk w→Calls Tryz.prog F args w fun e w'=>∃ S',e=.returned V∧KW lo q p K' S' w'∧Upd Sk w w'∧∀ g∈S',g∈Sk∨w.heap.size≤g) :
  Calls Tryz.prog F args w fun e w'=>∃ S',e=.returned V∧KG lo q p mb M K' S' D w'∧Upd (kgF mb Sk D) w w'∧∀ g∈kgF mb S' D,g∈kgF mb Sk D∨w.heap.size≤g:=by
 refine (hc h.k).mono ?_
 rintro e w' ⟨S',rfl,h1,h2,h3⟩
 refine ⟨S',rfl,⟨h1,h.f.upd h2 (fun g hg hgS=>h.far g hgS hg),fun g hg hgm=>?_⟩,h2.mono (fun g hg _=>List.mem_append.2 (.inl hg)),fun g hg=>?_⟩
 ·rcases h3 g hg with hg | hg
  ·exact h.far g hg hgm
  ·have:=h.f.lt g hgm; omega
 ·rcases List.mem_append.1 hg with hg | hg
  ·exact (h3 g hg).imp (fun hg=>List.mem_append.2 (.inl hg)) id
  ·exact .inl (List.mem_append.2 (.inr hg))
end
structure Gp where
 q:Nat
 p:Pt
 s:Nat
 mb:Nat
def gwA (c:CfgV) (x:Gp) (ep:Int):Array Value:=#[.int .i64 c.ca,.int .i64 c.fl,.int .i64 c.ft,.int .i64 c.se,.int .i64 c.dr,.int .i64 c.dw,.int .i64 c.ho,.int .i64 c.re,.int .i64 c.yi,.int .i64 c.qu,.int .i64 c.qo,.int .i64 c.lo,.int .i64 c.sl,.int .i64 c.rt,.int .i64 c.cp,.int .i64 c.tr,.int .i64 c.de,.int .i64 c.wi,.pointer (some ⟨x.q,0,none⟩),.pointer (some ⟨x.s,0,none⟩),.map (some x.mb),.int .i64 ep]
abbrev gwS (c:CfgV) (x:Gp) (ep:Int):List SV:=[.i .i64 c.ca,.i .i64 c.fl,.i .i64 c.ft,.i .i64 c.se,.i .i64 c.dr,.i .i64 c.dw,.i .i64 c.ho,.i .i64 c.re,.i .i64 c.yi,.i .i64 c.qu,.i .i64 c.qo,.i .i64 c.lo,.i .i64 c.sl,.i .i64 c.rt,.i .i64 c.cp,.i .i64 c.tr,.i .i64 c.de,.i .i64 c.wi,.v (.pointer (some ⟨x.q,0,none⟩)),.v (.pointer (some ⟨x.s,0,none⟩)),.v (.map (some x.mb)),.i .i64 ep]
section
variable {lo gq M:Nat} {c:CfgV} {x:Gp} {ep i:Int} {K:KV} {Sk:List Nat} {D:Fam} {w:World}
theorem hold_g {n:Nat} (hb:Blk w gq 87 (gwA c x ep)) (h:KG lo x.q x.p x.mb M K Sk D w) (hg:gq∉kgF x.mb Sk D):Hold ⟨Tryz.prog,tab,kgF x.mb Sk D,w,n,[]⟩ [⟨gq,87,true,0,[],gwS c x ep,[],false⟩] [kgO lo x.q x.p x.mb M K Sk D true] w :=
 Hold.addObj (Hold.addRow (m:=[]) (Hold.nil _ tab _ _ w) ⟨gq,87,true,0,[],gwS c x ep,[],false⟩ hb (by intro h; cases h) (by intro q hq; cases hq) (by intro A hA; cases hA)) (kgO lo x.q x.p x.mb M K Sk D true) h (fun _ g hg=>.inl hg) (by intro r hr _; simp only [List.nil_append,List.mem_singleton] at hr; subst hr; exact hg) (by intro A hA; cases hA)
theorem hold_gr {n:Nat} (hb:Blk w gq 87 (gwA c x ep)) (h:KG lo x.q x.p x.mb M K Sk D w) (hg:gq∉kgF x.mb Sk D):Hold ⟨Tryz.prog,tab,[],w,n,[]⟩ [⟨gq,87,true,0,[],gwS c x ep,[],false⟩] [kgO lo x.q x.p x.mb M K Sk D false] w :=
 Hold.addObj (hold_q (S:=[]) (gwS c x ep) hb) (kgO lo x.q x.p x.mb M K Sk D false) h (by intro k; cases k) (by intro r hr _; rw [List.mem_singleton] at hr; subst hr; exact hg) (by intro A hA; cases hA)
theorem groupT (hb:Blk w gq 87 (gwA c x ep)) (h:KG lo x.q x.p x.mb M K Sk D w) (hg:gq∉kgF x.mb Sk D):Calls Tryz.prog 61 #[.pointer (some ⟨gq,0,none⟩)] w fun e w'=>e=.returned (.pointer (some ⟨x.p.g,0,none⟩))∧Since w w':=by
 refine entH tab_ok (hold_gr hb h hg) [.p 0 0] Tryz.func61 Tryz.ntmps61 rfl rfl ?_
 repeat' ((conv=>whnf); first | refine sgo ⟨tab_ok⟩ ?_|refine br_not ?_|refine br_t rfl ?_|refine br_f rfl ?_|refine br_t (by assumption) ?_|refine br_f (by assumption) ?_|refine br_t (decide_eq_true (by assumption)) ?_|refine br_f (decide_eq_false (by assumption)) ?_|refine br_t (beq_iff_eq.2 (by assumption)) ?_|refine br_f (beq_eq_false_iff_ne.2 (by assumption)) ?_|intro b | refine drA ⟨tab_ok⟩ [] ?_|refine kpt ?_|refine callH (f:=90) (.v (.pointer (some ⟨x.p.g,0,none⟩))) (fun w hH=>groupK (Hold.ob hH (A:=kgO lo x.q x.p x.mb M K Sk D false) 0 rfl).k) ?_|refine fin_s ?_|refine fin_r ?_ ?_|refine fin_e ?_ ?_)
 all_goals rfl
end
def setV (V:Int→Option SeV) (i:Int) (x:Option SeV):Int→Option SeV:=fun j=>if j=i then x else V j
section
variable {lo gq M:Nat} {c:CfgV} {x:Gp} {ep i:Int} {K:KV} {Sk:List Nat} {D:Fam} {w:World}
end
end Gw
namespace Al
open Go.RowKit Ba Mem Go.Proofs.YtnoehplnmdajnaaGreatDoor.Ty
instance:Inhabited AskV:=⟨⟨0,0,0,0,0⟩⟩
set_option maxRecDepth 100000
section
variable {H:Type} {enc:TypeId×Value→H} {w:World} {base:Nat} {spare:Nat→Bool} {held:Bool}
end
end Al
namespace Lc
open Go.RowKit Ba Mem En Go.Proofs.YtnoehplnmdajnaaGreatDoor.Ty
open Ri (MsgV)
set_option maxRecDepth 100000
section
variable {H:Type} {enc:TypeId×Value→H} {w:World} {base:Nat} {spare:Nat→Bool} {held:Bool}
end
end Lc
namespace Lc
open Go.RowKit Ba Mem En Go.Proofs.YtnoehplnmdajnaaGreatDoor.Ty Mo Go.Proofs.YtnoehplnmdajnaaGreatDoor.St Co
open Ri (MsgV)
open Gr (loadR hallR hallG pressR curtR faultR GI)
open Fl (leaE)
set_option maxRecDepth 100000
attribute [local irreducible] Go.Calls
section
variable {c:CfgV} {n T m:Nat} {K:KV}
end
section
variable {lo q:Nat} {p:Pt} {K:KV} {S:List Nat} {w:World} {c:CfgV} {n T m:Nat}
attribute [local irreducible] loadR
end
end Lc
namespace Lc
open Go.RowKit Ba Mem En Go.Proofs.YtnoehplnmdajnaaGreatDoor.Ty Mo Go.Proofs.YtnoehplnmdajnaaGreatDoor.St Co
open Ri (MsgV)
open Gr (loadR hallR hallG pressR curtR faultR GI doR fltX disW one)
open Fl (leaE)
set_option maxRecDepth 100000
attribute [local irreducible] Go.Calls
theorem doR_w (G:Gr.GrV) (k a b:Int) (y:Bool) (hk:1≤k∧k≤5):(doR G k a b y).1.now=G.now∧(doR G k a b y).1.c=G.c∧∀ z∈(doR G k a b y).1.waits,z.si=G.now∨∃ u∈G.waits,z.si=u.si:=by
 have id':∀ z∈G.waits,z.si=G.now∨∃ u∈G.waits,z.si=u.si:=fun z hz=>.inr ⟨z,hz,rfl⟩
 have on:∀ (f:CarV→CarV×Int),(one G a f).1.now=G.now∧(one G a f).1.c=G.c∧∀ z∈(one G a f).1.waits,z.si=G.now∨∃ u∈G.waits,z.si=u.si:=fun f =>
  ⟨(Gr.one_w _ _).2.1,one_c _ _ _,by rw [(Gr.one_w _ _).1]; exact id'⟩
 unfold doR
 split
 ·unfold Gr.hallR; split
  ·split
   ·refine ⟨rfl,rfl,fun z hz=>?_⟩
    rcases List.mem_append.1 hz with h | h
    ·exact id' z h
    ·rw [List.mem_singleton] at h; subst h; exact .inl rfl
   ·exact ⟨rfl,rfl,id'⟩
  ·exact ⟨rfl,rfl,id'⟩
 split
 ·unfold Gr.pressR; split
  ·exact on _
  ·exact ⟨rfl,rfl,id'⟩
 split
 ·exact on _
 split
 ·exact on _
 split
 ·unfold Gr.faultR; split
  ·split
   ·refine ⟨(on _).1,(on _).2.1,fun z hz=>?_⟩
    obtain ⟨u,hu,rfl⟩:=List.mem_map.1 hz
    refine .inr ⟨u,hu, ?_⟩
    unfold disW; split <;> rfl
   ·exact ⟨rfl,rfl,id'⟩
  ·exact on _
 omega
section
variable {c:CfgV} {n T m:Nat} {K:KV}
end
section
variable {lo q:Nat} {p:Pt} {K:KV} {S:List Nat} {w:World} {c:CfgV} {n T m:Nat}
theorem hallW (h:KW lo q p K S w) (hl:K.G.waits.length≤10000) (a b:Int):Calls Tryz.prog 85 #[.pointer (some ⟨p.g,0,none⟩),.int .i64 a,.int .i64 b] w fun e w'=>∃ S',e=.returned (.int .i64 (hallR K.G a b).2)∧KW lo q p { K with G:=(doR K.G 1 a b (b == 1)).1 } S' w'∧Upd S w w'∧∀ g∈S',g∈S∨w.heap.size≤g :=
 KW.grp h (doR_w K.G 1 a b (b == 1) (by decide)).2.1 (fun S1 hq=>hallG hq hl a b)
attribute [local irreducible] doR Gr.hallR pressR loadR curtR faultR
end
end Lc
namespace Gw
open Go.RowKit Ba Mem En Go.Proofs.YtnoehplnmdajnaaGreatDoor.Ty Mp
open Ri (MsgV)
open Co (KV Pt KW Nr NrA toN Hold.ob)
open Gr (doR)
open Lc (hallW)
open Et (carsO)
set_option maxRecDepth 100000
attribute [local irreducible] Go.Calls
section
variable {lo gq M:Nat} {c:CfgV} {x:Gp} {ep sk sa sb i:Int} {K:KV} {Sk:List Nat} {D:Fam} {w:World} {dA:Option Addr} {dn dc:Nat}
theorem hallT (hb:Blk w gq 87 (gwA c x ep)) (h:KG lo x.q x.p x.mb M K Sk D w) (hg:gq∉kgF x.mb Sk D) (hw:K.G.waits.length≤10000):Calls Tryz.prog 55 #[.pointer (some ⟨gq,0,none⟩),.agg #[.int .i64 sk,.int .i64 sa,.int .i64 sb,.slice dA dn dc]] w fun e w'=>∃ S',e=.returned (.tuple #[.slice none 0 0,.int .i64 (Gr.hallR K.G sa sb).2])∧KG lo x.q x.p x.mb M { K with G:=(doR K.G 1 sa sb (sb == 1)).1 } S' D w'∧Upd (kgF x.mb Sk D) w w'∧∀ g∈kgF x.mb S' D,g∈kgF x.mb Sk D∨w.heap.size≤g:=by
 refine entH tab_ok (hold_g hb h hg) [.p 0 0,.a [.i .i64 sk,.i .i64 sa,.i .i64 sb,.v (.slice dA dn dc)]] Tryz.func55 Tryz.ntmps55 rfl rfl ?_
 repeat' ((conv=>whnf); first | refine sgo ⟨tab_ok⟩ ?_|refine br_not ?_|refine br_t rfl ?_|refine br_f rfl ?_|refine br_t (by assumption) ?_|refine br_f (by assumption) ?_|refine br_t (decide_eq_true (by assumption)) ?_|refine br_f (decide_eq_false (by assumption)) ?_|refine br_t (beq_iff_eq.2 (by assumption)) ?_|refine br_f (beq_eq_false_iff_ne.2 (by assumption)) ?_|intro b | refine drA ⟨tab_ok⟩ [] ?_|refine kpt ?_|refine And.intro ?_ ?_|refine callH (f:=61) (.v (.pointer (some ⟨x.p.g,0,none⟩))) (fun w hH=>groupT (hH.row 0 _ rfl rfl) (Hold.ob hH (A:=kgO lo x.q x.p x.mb M K Sk D true) 0 rfl) hg) ?_|refine callO (f:=85) (A:=kgO lo x.q x.p x.mb M K Sk D true) 0 (fun _:List Nat=>.i .i64 (Gr.hallR K.G sa sb).2) (fun S'=>kgO lo x.q x.p x.mb M { K with G:=(doR K.G 1 sa sb (sb == 1)).1 } S' D true) (fun w hH hA=>KG.core hA (fun hk=>hallW hk hw sa sb)) (fun S'=>?_)|refine fin fun w' hH=>⟨S',rfl,Hold.ob hH (A:=kgO lo x.q x.p x.mb M { K with G:=(doR K.G 1 sa sb (sb == 1)).1 } S' D true) 0 rfl,hH.upd,fun g hg=>hH.own _ (List.mem_of_getElem? (i:=0) rfl) rfl g hg⟩|refine fin_s ?_|refine fin_r ?_ ?_|refine fin_e ?_ ?_)
theorem coreT (hb:Blk w gq 87 (gwA c x ep)):Calls Tryz.prog 37 #[.pointer (some ⟨gq,0,none⟩)] w fun e w'=>e=.returned (.pointer (some ⟨x.q,0,none⟩))∧Since w w':=by
 refine entH tab_ok (hold_q (S:=[]) (gwS c x ep) hb) [.p 0 0] Tryz.func37 Tryz.ntmps37 rfl rfl ?_
 repeat' ((conv=>whnf); first | refine sgo ⟨tab_ok⟩ ?_|refine br_not ?_|refine br_t rfl ?_|refine br_f rfl ?_|refine br_t (by assumption) ?_|refine br_f (by assumption) ?_|refine br_t (decide_eq_true (by assumption)) ?_|refine br_f (decide_eq_false (by assumption)) ?_|refine br_t (beq_iff_eq.2 (by assumption)) ?_|refine br_f (beq_eq_false_iff_ne.2 (by assumption)) ?_|intro b | refine drA ⟨tab_ok⟩ [] ?_|refine kpt ?_|refine fin_s ?_|refine fin_r ?_ ?_|refine fin_e ?_ ?_)
 all_goals rfl
end
end Gw
namespace Gw
open Go.RowKit Ba Mem En Go.Proofs.YtnoehplnmdajnaaGreatDoor.Ty Mp
open Co (KV Pt KW Nr NgA toNCg Hold.ob)
open Et (carsO)
set_option maxRecDepth 100000
structure ViewV where
 un:Int
 ds:Int
 mo:Int
 wy:Int
 lo:Int
def viewC (v:ViewV):List Value:=[.int .i64 v.un,.int .i64 v.ds,.int .i64 v.mo,.int .i64 v.wy,.int .i64 v.lo]
def viewE:Ek ViewV:=⟨98,5,viewC,fun _=>rfl,fun a u hu=>by
 simp only [viewC,List.mem_cons,List.mem_nil_iff,or_false] at hu
 rcases hu with rfl | rfl | rfl | rfl | rfl <;> rfl⟩
def viewOf (x:CarV):ViewV:=⟨x.un,x.ds,if x.br=true then 2 else x.mo,x.wy,x.lo⟩
attribute [local irreducible] Go.Calls
section
variable {lo gq M:Nat} {c:CfgV} {x:Gp} {ep i:Int} {K:KV} {Sk:List Nat} {D:Fam} {w:World}
set_option maxHeartbeats 2000000 in
theorem viewsT (hb:Blk w gq 87 (gwA c x ep)) (h:KG lo x.q x.p x.mb M K Sk D w) (hg:gq∉kgF x.mb Sk D) (h0:0 < K.G.cars.length) (h1:K.G.cars.length≤10000):Calls Tryz.prog 36 #[.pointer (some ⟨gq,0,none⟩)] w fun e w'=>∃ A' c',e=.returned (.slice A' K.G.cars.length c')∧viewE.At w.heap.size A' K.G.cars.length c' (K.G.cars.map viewOf) w'∧Since w w':=by
 refine entH tab_ok (Hold.addObj (hold_gr hb h hg) (rwO viewE w.heap.size none 0 0 [] true) (Ek.nil _ _ _) (by intro _ g hg; cases hg) (by intro r _ _ hg; cases hg) (by intro A hA _ g hg hg2; cases hg2)) [.p 0 0] Tryz.func36 Tryz.ntmps36 rfl rfl ?_
 repeat' ((conv=>whnf); first | refine sgo ⟨tab_ok⟩ ?_|refine br_not ?_|refine br_t rfl ?_|refine br_f rfl ?_|refine br_t (by assumption) ?_|refine br_f (by assumption) ?_|refine br_t (decide_eq_true (by assumption)) ?_|refine br_f (decide_eq_false (by assumption)) ?_|refine br_t (beq_iff_eq.2 (by assumption)) ?_|refine br_f (beq_eq_false_iff_ne.2 (by assumption)) ?_|intro b | refine drA ⟨tab_ok⟩ [] ?_|refine kpt ?_|refine br_dec (fun h=>?_) (fun h=>?_)|refine br_eq (fun h=>?_) (fun h=>?_)|refine br_b (fun h=>?_) (fun h=>?_)|refine callH (f:=61) (.v (.pointer (some ⟨x.p.g,0,none⟩))) (fun w hH=>groupT (hH.row 0 _ rfl rfl) (Hold.ob hH (A:=kgO lo x.q x.p x.mb M K Sk D false) 0 rfl) hg) ?_|refine callN (f:=62) (ι:=NgA w.heap.size) (fun y=>.v (.slice (some ⟨y.1.2.1,0,none⟩) K.G.cars.length y.1.2.2)) (fun y=>carsO y.1.1 (some ⟨y.1.2.1,0,none⟩) K.G.cars.length y.1.2.2 K.G.cars true) (fun w1 hH=>toNCg h0 (by obtain ⟨S0,_,hbd⟩:=(Hold.ob hH (A:=kgO lo x.q x.p x.mb M K Sk D false) 0 rfl).k.rd; exact hbd.cars h1) hH.upd.size) (fun y=>?_)|refine fin_s ?_|refine fin_r ?_ ?_|refine fin_e ?_ ?_)
 conv=>whnf
 refine lp ⟨tab_ok⟩ (ι:={v:(Nat×Option Addr×Nat)×List ViewV // v.1.1≤K.G.cars.length∧(K.G.cars.take v.1.1).map viewOf=v.2}) (fun v=>match v with | ⟨((k,A2,c2),vs),_⟩=>⟨[(3,.v (.slice A2 k c2)),(11,.v (.slice (some ⟨y.1.2.1,0,none⟩) K.G.cars.length y.1.2.2)),(12,.i .i64 K.G.cars.length),(13,.i .i64 (k:Int))],[⟨gq,87,true,0,[],gwS c x ep,[],false⟩],[kgO lo x.q x.p x.mb M K Sk D false,rwO viewE w.heap.size A2 k c2 vs true,carsO y.1.1 (some ⟨y.1.2.1,0,none⟩) K.G.cars.length y.1.2.2 K.G.cars true]⟩) (fun v=>K.G.cars.length - v.1.1.1) ⟨((0,none,0),[]),Nat.zero_le _,rfl⟩ (wk ?_) ?_
 ·repeat' (first | exact trivial | rfl | ((conv=>whnf); refine And.intro ?_ ?_))
 rintro ⟨⟨⟨k,A2,c2⟩,vs⟩,hk,he⟩
 have hk:k≤K.G.cars.length:=hk
 have he:(K.G.cars.take k).map viewOf=vs:=he
 by_cases hlt:k < K.G.cars.length
 ·obtain ⟨z,hz⟩:∃ z,K.G.cars[k]?=some z:=⟨_,List.getElem?_eq_getElem hlt⟩
  have he2:(K.G.cars.take (k+1)).map viewOf=vs++[viewOf z]:=by
   obtain ⟨hkl,rfl⟩:=List.getElem?_eq_some_iff.1 hz
   rw [List.take_succ_eq_append_getElem hkl,List.map_append,← he]; rfl
  cases hbr:z.br with
  | true =>
   have hvw:viewOf z=⟨z.un,z.ds,2,z.wy,z.lo⟩:=by unfold viewOf; rw [hbr]; rfl
   rw [hvw] at he2
   repeat' ((conv=>whnf); first | refine sgo ⟨tab_ok⟩ ?_|refine br_not ?_|refine br_t rfl ?_|refine br_f rfl ?_|refine br_t (by assumption) ?_|refine br_f (by assumption) ?_|refine br_t (decide_eq_true (by assumption)) ?_|refine br_f (decide_eq_false (by assumption)) ?_|refine br_t (beq_iff_eq.2 (by assumption)) ?_|refine br_f (beq_eq_false_iff_ne.2 (by assumption)) ?_|intro b | refine drA ⟨tab_ok⟩ [] ?_|refine kpt ?_|refine br_t (decide_eq_true (by omega)) ?_|refine br_f (decide_eq_false (by omega)) ?_|refine wr_i ?_|refine br_t (by exact hbr) ?_|refine opiv ⟨tab_ok⟩ (by rfl) (by rfl) (by rfl) (by rfl) (by rfl) (by rfl) ⟨by omega,by omega⟩ ?_|refine opix (g:=y.1.2.1) (off:=0+k*15) [.i .i64 z.ds,.i .i64 z.da,.i .i64 z.un,.i .i64 z.wy,.i .i64 z.ti,.i .i64 z.ju,.i .i64 z.lo,.b z.bl,.b z.br,.i .i64 z.mo,.i .i64 z.ta,.b z.ho,.i .u64 z.sp,.i .u64 z.su,.i .u64 z.sd] (fun w hH=>Et.car_at (Hold.ob hH (A:=carsO y.1.1 (some ⟨y.1.2.1,0,none⟩) K.G.cars.length y.1.2.2 K.G.cars true) 2 rfl) hz) ⟨tab_ok⟩ (by rfl) (by rfl) (by show Addr.add ⟨y.1.2.1,0,none⟩ (k*15)=_; rw [Go.WideShapes.add_plain]) ?_|refine opb1 (e:=98) ⟨tab_ok⟩ [.i .i64 z.un,.i .i64 z.ds,.i .i64 2,.i .i64 z.wy,.i .i64 z.lo] (by rfl) (by rfl) ?_|refine opap 1 3 (e:=98) (lo:=w.heap.size) (size:=5) (bytes:=40) (z:=.agg #[.int .i64 0,.int .i64 0,.int .i64 0,.int .i64 0,.int .i64 0]) (A:=rwO viewE w.heap.size A2 k c2 vs true) (vals:=rowsOf viewC vs) (cells:=viewC ⟨z.un,z.ds,2,z.wy,z.lo⟩) (zs:=rowsOf viewC (vs++[(⟨z.un,z.ds,2,z.wy,z.lo⟩:ViewV)])) (n2:=k+1) (fun A' c'=>rwO viewE w.heap.size A' (k+1) c' (vs++[(⟨z.un,z.ds,2,z.wy,z.lo⟩:ViewV)]) true) (by rfl) (by rfl) (by rfl) (by rfl) rfl rfl (fun w h=>h) (fun A' c' w h=>h) (fun _ _=>rfl) (by rfl) (by rfl) (by rfl) (by rfl) Tryz.underlying95 (by kernel_rfl) rfl (by decide) (by decide) (viewE.one _) (by omega) (fun w hH=>hH.upd.size) rfl (by rw [rowsOf_append,rowsOf_one]) (fun A' c'=>?_)|refine En.back ⟨((k+1,A',c'),vs++[(⟨z.un,z.ds,2,z.wy,z.lo⟩:ViewV)]),by show k+1≤_; omega,he2⟩ (wk ?_) ?_|refine fin_s ?_|refine fin_r ?_ ?_|refine fin_e ?_ ?_)
   all_goals first | (show K.G.cars.length - (k+1) < K.G.cars.length - k; omega)|skip
   all_goals (repeat' (first | exact trivial | rfl | ((conv=>whnf); refine And.intro ?_ ?_)))
  | false =>
   have hvw:viewOf z=⟨z.un,z.ds,z.mo,z.wy,z.lo⟩:=by unfold viewOf; rw [hbr]; rfl
   rw [hvw] at he2
   repeat' ((conv=>whnf); first | refine sgo ⟨tab_ok⟩ ?_|refine br_not ?_|refine br_t rfl ?_|refine br_f rfl ?_|refine br_t (by assumption) ?_|refine br_f (by assumption) ?_|refine br_t (decide_eq_true (by assumption)) ?_|refine br_f (decide_eq_false (by assumption)) ?_|refine br_t (beq_iff_eq.2 (by assumption)) ?_|refine br_f (beq_eq_false_iff_ne.2 (by assumption)) ?_|intro b | refine drA ⟨tab_ok⟩ [] ?_|refine kpt ?_|refine br_t (decide_eq_true (by omega)) ?_|refine br_f (decide_eq_false (by omega)) ?_|refine wr_i ?_|refine br_f (by exact hbr) ?_|refine opiv ⟨tab_ok⟩ (by rfl) (by rfl) (by rfl) (by rfl) (by rfl) (by rfl) ⟨by omega,by omega⟩ ?_|refine opix (g:=y.1.2.1) (off:=0+k*15) [.i .i64 z.ds,.i .i64 z.da,.i .i64 z.un,.i .i64 z.wy,.i .i64 z.ti,.i .i64 z.ju,.i .i64 z.lo,.b z.bl,.b z.br,.i .i64 z.mo,.i .i64 z.ta,.b z.ho,.i .u64 z.sp,.i .u64 z.su,.i .u64 z.sd] (fun w hH=>Et.car_at (Hold.ob hH (A:=carsO y.1.1 (some ⟨y.1.2.1,0,none⟩) K.G.cars.length y.1.2.2 K.G.cars true) 2 rfl) hz) ⟨tab_ok⟩ (by rfl) (by rfl) (by show Addr.add ⟨y.1.2.1,0,none⟩ (k*15)=_; rw [Go.WideShapes.add_plain]) ?_|refine opb1 (e:=98) ⟨tab_ok⟩ [.i .i64 z.un,.i .i64 z.ds,.i .i64 z.mo,.i .i64 z.wy,.i .i64 z.lo] (by rfl) (by rfl) ?_|refine opap 1 3 (e:=98) (lo:=w.heap.size) (size:=5) (bytes:=40) (z:=.agg #[.int .i64 0,.int .i64 0,.int .i64 0,.int .i64 0,.int .i64 0]) (A:=rwO viewE w.heap.size A2 k c2 vs true) (vals:=rowsOf viewC vs) (cells:=viewC ⟨z.un,z.ds,z.mo,z.wy,z.lo⟩) (zs:=rowsOf viewC (vs++[(⟨z.un,z.ds,z.mo,z.wy,z.lo⟩:ViewV)])) (n2:=k+1) (fun A' c'=>rwO viewE w.heap.size A' (k+1) c' (vs++[(⟨z.un,z.ds,z.mo,z.wy,z.lo⟩:ViewV)]) true) (by rfl) (by rfl) (by rfl) (by rfl) rfl rfl (fun w h=>h) (fun A' c' w h=>h) (fun _ _=>rfl) (by rfl) (by rfl) (by rfl) (by rfl) Tryz.underlying95 (by kernel_rfl) rfl (by decide) (by decide) (viewE.one _) (by omega) (fun w hH=>hH.upd.size) rfl (by rw [rowsOf_append,rowsOf_one]) (fun A' c'=>?_)|refine En.back ⟨((k+1,A',c'),vs++[(⟨z.un,z.ds,z.mo,z.wy,z.lo⟩:ViewV)]),by show k+1≤_; omega,he2⟩ (wk ?_) ?_|refine fin_s ?_|refine fin_r ?_ ?_|refine fin_e ?_ ?_)
   all_goals first | (show K.G.cars.length - (k+1) < K.G.cars.length - k; omega)|skip
   all_goals (repeat' (first | exact trivial | rfl | ((conv=>whnf); refine And.intro ?_ ?_)))
 ·obtain rfl:k=K.G.cars.length:=by omega
  repeat' ((conv=>whnf); first | refine sgo ⟨tab_ok⟩ ?_|refine br_not ?_|refine br_t rfl ?_|refine br_f rfl ?_|refine br_t (by assumption) ?_|refine br_f (by assumption) ?_|refine br_t (decide_eq_true (by assumption)) ?_|refine br_f (decide_eq_false (by assumption)) ?_|refine br_t (beq_iff_eq.2 (by assumption)) ?_|refine br_f (beq_eq_false_iff_ne.2 (by assumption)) ?_|intro b | refine drA ⟨tab_ok⟩ [] ?_|refine kpt ?_|refine br_t (decide_eq_true (by omega)) ?_|refine br_f (decide_eq_false (by omega)) ?_|refine wr_i ?_|refine fin fun w' hH=>?_|refine fin_s ?_|refine fin_r ?_ ?_|refine fin_e ?_ ?_)
  rw [List.take_length] at he
  rw [he]
  exact ⟨A2,c2,rfl,Hold.ob hH (A:=rwO viewE w.heap.size A2 K.G.cars.length c2 vs true) 1 rfl,hH.upd.since⟩
end
end Gw
namespace Cm
open Byt (isB)
def po:BitVec 32:=0xedb88320#32
def zst (c:BitVec 32):BitVec 32:=if c.getLsbD 0=true then (c >>> 1) ^^^ po else c >>> 1
def bst (c:BitVec 32) (x:Bool):BitVec 32:=if (c.getLsbD 0 ^^ x)=true then (c >>> 1) ^^^ po else c >>> 1
def zn:Nat→BitVec 32→BitVec 32
 | 0,c=>c
 | n+1,c=>zst (zn n c)
def run (c t:BitVec 32):Nat→BitVec 32
 | 0=>c
 | n+1=>bst (run c t n) (t.getLsbD n)
def byS (c:BitVec 32) (z:Int):BitVec 32:=zn 8 (c ^^^ BitVec.ofInt 32 z)
def crcF (c:BitVec 32) (l:List Int):BitVec 32:=l.foldl byS c
end Cm
namespace Fm
open Byt (isB)
open Cm
def hd (zs:List Int):List Int:=165::((zs.length:Int) % 256)::zs
end Fm
namespace Cw
open Go.RowKit
open Cm Byt
def acc (zs:List Int) (k:Nat):BitVec 32:=crcF (~~~ 0#32) (zs.take k)
end Cw
namespace Cl
open Go.RowKit
open Cm Byt Mem Cw
end Cl
namespace Cm
open Byt (isB)
def tab (n:Nat):BitVec 32:=zn 8 (BitVec.ofNat 32 n)
end Cm
namespace Cl
open Go.RowKit
open Cm Mem
open Byt (BV isB)
open Cw (acc)
open Ba
set_option maxRecDepth 100000
end Cl
namespace Fq
open Go.RowKit Ba Mem Cm Fm
open En (tab tab_ok SV St Asr Row Cx den denL Hold ent entH sgo br_not br_t br_f br_dec br_eq br_b fin_s fin_r fin_e)
open Go.Proofs.YtnoehplnmdajnaaGreatDoor.Byt (BV isB cells)
set_option maxRecDepth 100000
attribute [local irreducible] Go.wpList
end Fq
namespace En
open Go.RowKit Ba Mem
section
variable {X:Cx} {s:St} {o:Oper} {t:TypeId}
end
end En
namespace Fq
open Go.RowKit Ba Mem Cm Fm
open En (tab tab_ok SV St Asr Row Cx den denL Hold ent entH sgo br_not br_t br_f br_dec br_eq br_b fin_s fin_r fin_e kpt drA wr_i opiv opxc callS callH callN hold_q)
open Go.Proofs.YtnoehplnmdajnaaGreatDoor.Byt (BV isB cells)
set_option maxRecDepth 100000
attribute [local irreducible] Go.wpList
def SO (lo s N:Nat) (xs:List Int) (S:List Nat) (w:World):Prop :=
 lo≤s∧∃ A n c tk zs,S=s::blkOf A∧Blk w s 84 #[.slice A n c,.int .i64 ((tk:Nat):Int)]∧w.ownsRow lo 5 1 (.slice A n c) n (cells zs)∧(∀ z∈zs,isB z)∧tk≤n∧zs.drop tk=xs∧n≤N
section
variable {w w':World} {lo s b N:Nat} {xs:List Int} {S T:List Nat}
theorem SO.upd (k:Upd T w w') (h:SO lo s N xs S w) (hT:∀ g∈S,g∉T):SO lo s N xs S w':=by
 obtain ⟨h0,A,n,c,tk,zs,rfl,B,O,r⟩:=h
 exact ⟨h0,A,n,c,tk,zs,rfl,k.blk B (hT _ (by simp)),k.own O (fun g hg=>hT g (by simp [hg])),r⟩
theorem SO.lt (h:SO lo s N xs S w):∀ g∈S,g < w.heap.size:=by
 obtain ⟨h0,A,n,c,tk,zs,rfl,B,O,r⟩:=h
 intro g hg
 rcases List.mem_cons.1 hg with rfl | hg
 ·exact B.lt
 ·exact own_lt O g hg
theorem SO.new (h:Blk w s 84 #[.slice none 0 0,.int .i64 0]) (hs:lo≤s):SO lo s 0 [] [s] w :=
 ⟨hs,none,0,0,0,[],rfl,h,World.ownsRow_nil _ _ _ _,by simp,Nat.le_refl _,rfl,Nat.le_refl _⟩
end
section
variable {g off n c k:Nat} {x:Int} {r:List Int} {w:World}
end
end Fq
namespace En
open Go.RowKit Ba Mem Mp
theorem wp_mapins {P:Program} {k e:TypeId} {w:World} {b n:Nat} {m:Int→Option Value} {o:Oper} {a:Act} {K:Act→World→Prop} {Q:Exit→Act→World→Prop} (mm x v:Operand) (ty:TypeId) (ho:o.op=.insert ty mm x v) (hk:P.underlying k=some (.int .i64)) (ht:P.underlying ty=some (.map k e)) (h:MapF P k w b n m) (hn:n < 1000000) (hm:a.eval mm=.map (some b)) {i:Int} (hx:a.eval x=.int .i64 i) (hw:(Lit.int .i64 i).wf=true) {u:Value} (hv:a.eval v=u)
  (hK:∀ w',MapF P k w' b (n+1) (Mp.setK m i (some u))→Upd [b] w w'→K (a.put o.dst undef) w'):o.wp P a w K Q:=by
 obtain ⟨D,h1,h2,h3⟩:=h
 obtain ⟨w',hrun,r1,r2⟩:=h1.update (Go.Maps.int_keyed hk) ht (by unfold maxLen; omega) (Go.Maps.keyOf_int_mk hk hw) (val:=u) (d:=.held u) (ps:=[]) rfl
 unfold Oper.wp
 simp [execOp,ho,hm,hx,hv,hrun,Result.andThen]
 refine hK w' ⟨D.put (.int .i64 i) (.held u),r1,h2.put _ _,fun y hy z=>?_⟩ (grown_upd r2)
 unfold Mp.setK
 by_cases e:y=i
 ·subst e; rw [if_pos rfl,Go.Maps.atKey_put_same h2 (key_lit y)]
 ·rw [if_neg e,Go.Maps.atKey_put_other (ne_lit e),h3 y hy z]
section
variable {X:Cx} {s:St} {o:Oper} {K:St→Prop} {A:Asr} {ty k e:TypeId} {mm x y:Operand} {b n:Nat} {m:Int→Option Value} {I:Int}
theorem opin (i:Nat) {u:Value} (B:Asr) (ho:o.op=.insert ty mm x y) (hm:evO mm s.fr=some (.v (.map (some b)))) (hx:evO x s.fr=some (.i .i64 I)) (hy:∀ a:Act,a.eval y=u) (hA:s.ob[i]?=some A) (hrw:A.rw=true) (hM:∀ w,A.st w→MapF X.P k w b n m) (hbF:b∈A.F)
  (hB:∀ w w',Hold X s.m s.ob w→A.st w→MapF X.P k w' b (n+1) (Mp.setK m I (some u))→Upd [b] w w'→B.st w') (hF:∀ g∈B.F,g∈A.F)
  (hk:X.P.underlying k=some (.int .i64)) (ht:X.P.underlying ty=some (.map k e)) (hw:(Lit.int .i64 I).wf=true) (hn:n < 1000000) (h:setO i B s.ob fun ob=>put X.n o.dst (.v undef) ⟨s.fr,s.m,ob⟩ K):OpVC X o s K:=⟨fun a w Q hR=>by
 have hst:=hR.h.obj A (List.mem_of_getElem? hA)
 refine wp_mapins mm x y ty ho hk ht (hM w hst) hn (by rw [(evO_of hR.fr hm).2]; rfl) (by rw [(evO_of hR.fr hx).2]; rfl) hw (u:=u) (hy a) (fun w' hmap hupd=>?_)
 have hH:=hR.h.obj_set hA hrw (hB w w' hR.h hst hmap hupd) (hupd.mono (fun g hg _=>by rw [List.mem_singleton] at hg; subst hg; exact hbF)) (fun g hg=>.inl (hF g hg))
 obtain ⟨s',r1,r2,r3,r4⟩:=put_of (a:=a) (s:=⟨s.fr,s.m,s.ob.set i B⟩) (v:=.v undef) hR.ds hR.sz hR.fr hH rfl (setO_of h)
 exact ⟨s',r1,by rw [r2]; exact Ext.refl _,r4⟩⟩
end
end En
namespace Gw
open Go.RowKit Ba Mem En Go.Proofs.YtnoehplnmdajnaaGreatDoor.Ty Mp
open Co (KV Pt KW newK newW kO BD Hold.ob)
open Fq (SO)
set_option maxRecDepth 100000
def mtab (l:List (Int×Nat)):Int→Option Value:=l.foldl (fun m p=>Mp.setK m p.1 (some (.func (.func p.2) #[] #[]))) (fun _=>none)
def kindL:List (Int×Nat):=[(1,53),(2,54),(3,55),(4,56),(5,57),(6,58),(7,59),(8,60)]
attribute [local irreducible] Go.Calls
theorem kw_base {lo q:Nat} {p:Pt} {K:KV} {S:List Nat} {w:World} (h:KW lo q p K S w):KW 0 q p K S w:=by
 obtain ⟨_,S0,rfl,B,D⟩:=h
 exact ⟨Nat.zero_le _,S0,rfl,B,BD.base D (Nat.zero_le _)⟩
theorem newFin {c:CfgV} {w w':World} {nt bs gq q mb i j:Nat} {p:Pt} {Sk:List Nat} {m:List Row} {ob:List Asr} (hH:Hold ⟨Tryz.prog,tab,[],w,nt,[]⟩ m ob w') (h1:m[1]?=some ⟨bs,84,true,0,[],[.v (.slice none 0 0),.i .i64 0],[],true⟩) {cs2:List SV} (h2:m[2]?=some ⟨gq,87,true,0,[],cs2,[],true⟩) (hc:(denL m cs2).toArray=gwA c ⟨q,p,bs,mb⟩ 0) (hi:ob[i]?=some (kO 0 q p (newK c) Sk true)) (hj:ob[j]?=some (mpO Tryz.prog 3 mb 0 (fun _=>none) true)) (hij:i≠j) :
  ∃ (gq':Nat) (x:Gp) (Sk:List Nat),Ending.returned (.pointer (some ⟨gq,0,none⟩))=Ending.returned (.pointer (some ⟨gq',0,none⟩))∧Blk w' gq' 87 (gwA c x 0)∧KG 0 x.q x.p x.mb 0 (newK c) Sk (fun _=>none) w'∧SO 0 x.s 0 [] [x.s] w'∧Since w w'∧(∀ g∈gq'::(kgF x.mb Sk (fun _=>none)++[x.s]),w.heap.size≤g)∧gq'∉kgF x.mb Sk (fun _=>none)∧gq'∉[x.s]∧∀ g∈kgF x.mb Sk (fun _=>none),g∉[x.s]:=by
 have mi:=List.mem_of_getElem? hi
 have mj:=List.mem_of_getElem? hj
 have r1:=hH.row 1 _ h1 rfl
 rw [rowA_nil rfl rfl] at r1
 have r2:=hH.row 2 _ h2 rfl
 rw [rowA_nil rfl rfl,hc] at r2
 have f1:bs∈([]:List Nat)∨w.heap.size≤bs:=(hH.wf 1 _ h1 rfl).2.2 rfl
 have f2:gq∈([]:List Nat)∨w.heap.size≤gq:=(hH.wf 2 _ h2 rfl).2.2 rfl
 have hne:gq≠bs:=hH.ne 2 1 _ _ h2 h1 rfl rfl (by decide)
 have fam0:famS (fun _=>none)=[]:=by unfold famS; simp
 have hF:kgF mb Sk (fun _=>none)=Sk++[mb]:=by unfold kgF; rw [fam0]
 have dis:DisR (kO 0 q p (newK c) Sk true) (mpO Tryz.prog 3 mb 0 (fun _=>none) true):=pair_at (R:=DisR) (fun _ _ h=>h.symm) hH.dis hi hj hij
 have kF:∀ g∈Sk,g∉mb::famS (fun _=>none):=fun g hg=>by rw [fam0]; exact dis (.inl rfl) g hg
 have low:∀ g∈Sk,w.heap.size≤g:=fun g hg=>(hH.own _ mi rfl g hg).resolve_left (by simp)
 have lowm:w.heap.size≤mb:=(hH.own _ mj rfl mb (List.mem_singleton.2 rfl)).resolve_left (by simp)
 refine ⟨gq,⟨q,p,bs,mb⟩,Sk,rfl,r2,⟨hH.obj _ mi,⟨Nat.zero_le _,hH.obj _ mj,fun i d h=>(by cases h),fun i j d e h=>(by cases h),fun i d h=>(by cases h)⟩,kF⟩,Fq.SO.new r1 (Nat.zero_le _),hH.upd.since,fun g hg=>?_,fun hm=>?_,fun hm=>hne (List.mem_singleton.1 hm),fun g hg hgs=>?_⟩
 ·rcases List.mem_cons.1 hg with rfl | hg
  ·exact f2.resolve_left (by simp)
  ·rw [hF] at hg
   rcases List.mem_append.1 hg with hg | hg
   ·rcases List.mem_append.1 hg with hg | hg
    ·exact low g hg
    ·rw [List.mem_singleton.1 hg]; exact lowm
   ·rw [List.mem_singleton.1 hg]; exact f1.resolve_left (by simp)
 ·rw [hF] at hm
  rcases List.mem_append.1 hm with hm | hm
  ·exact hH.far _ mi 2 _ h2 rfl hm
  ·exact hH.far _ mj 2 _ h2 rfl hm
 ·rw [hF] at hg
  rw [List.mem_singleton.1 hgs] at hg
  rcases List.mem_append.1 hg with hg | hg
  ·exact hH.far _ mi 1 _ h1 rfl hg
  ·exact hH.far _ mj 1 _ h1 rfl hg
theorem newG (c:CfgV) (w:World):Calls Tryz.prog 19 #[.agg #[.int .i64 c.ca,.int .i64 c.fl,.int .i64 c.ft,.int .i64 c.se,.int .i64 c.dr,.int .i64 c.dw,.int .i64 c.ho,.int .i64 c.re,.int .i64 c.yi,.int .i64 c.qu,.int .i64 c.qo,.int .i64 c.lo,.int .i64 c.sl,.int .i64 c.rt,.int .i64 c.cp,.int .i64 c.tr,.int .i64 c.de,.int .i64 c.wi]] w fun e w'=>∃ (gq:Nat) (x:Gp) (Sk:List Nat),e=.returned (.pointer (some ⟨gq,0,none⟩))∧Blk w' gq 87 (gwA c x 0)∧KG 0 x.q x.p x.mb 0 (newK c) Sk (fun _=>none) w'∧SO 0 x.s 0 [] [x.s] w'∧Since w w'∧(∀ g∈gq::(kgF x.mb Sk (fun _=>none)++[x.s]),w.heap.size≤g)∧gq∉kgF x.mb Sk (fun _=>none)∧gq∉[x.s]∧∀ g∈kgF x.mb Sk (fun _=>none),g∉[x.s]:=by
 refine ent tab_ok [.a [.i .i64 c.ca,.i .i64 c.fl,.i .i64 c.ft,.i .i64 c.se,.i .i64 c.dr,.i .i64 c.dw,.i .i64 c.ho,.i .i64 c.re,.i .i64 c.yi,.i .i64 c.qu,.i .i64 c.qo,.i .i64 c.lo,.i .i64 c.sl,.i .i64 c.rt,.i .i64 c.cp,.i .i64 c.tr,.i .i64 c.de,.i .i64 c.wi]] Tryz.func19 Tryz.ntmps19 rfl rfl ?_
 repeat' ((conv=>whnf); first | refine sgo ⟨tab_ok⟩ ?_|refine br_not ?_|refine br_t rfl ?_|refine br_f rfl ?_|refine br_t (by assumption) ?_|refine br_f (by assumption) ?_|refine br_t (decide_eq_true (by assumption)) ?_|refine br_f (decide_eq_false (by assumption)) ?_|refine br_t (beq_iff_eq.2 (by assumption)) ?_|refine br_f (beq_eq_false_iff_ne.2 (by assumption)) ?_|intro b | refine drA ⟨tab_ok⟩ [] ?_|refine kpt ?_|refine And.intro ?_ ?_|refine callN (f:=33) (ι:=Nat×Pt×List Nat) (fun y=>.v (.pointer (some ⟨y.1,0,none⟩))) (fun y=>kO 0 y.1 y.2.1 (newK c) y.2.2 true) (fun w1 hH=>(newW c w1).mono (by rintro e w' ⟨q,p,S,rfl,h1,h2⟩; exact ⟨(q,p,S),rfl,kw_base h1,h2,h1.low⟩)) (fun y=>?_)|refine opmk 3 (by rfl) (fun mb=>?_)|refine fin fun w' hH=>newFin (i:=0) (j:=1) hH rfl rfl rfl rfl rfl (by decide)|refine fin fun w' hH=>newFin (i:=1) (j:=0) hH rfl rfl rfl rfl rfl (by decide)|refine fin_s ?_|refine fin_r ?_ ?_|refine fin_e ?_ ?_)
theorem kindsT (w:World):Calls Tryz.prog 35 #[] w fun e w'=>∃ b:Nat,e=.returned (.map (some b))∧MapF Tryz.prog 3 w' b 8 (mtab kindL)∧Since w w'∧w.heap.size≤b:=by
 refine ent tab_ok [] Tryz.func35 Tryz.ntmps35 rfl rfl ?_
 repeat' ((conv=>whnf); first | refine sgo ⟨tab_ok⟩ ?_|refine br_not ?_|refine br_t rfl ?_|refine br_f rfl ?_|refine br_t (by assumption) ?_|refine br_f (by assumption) ?_|refine br_t (decide_eq_true (by assumption)) ?_|refine br_f (decide_eq_false (by assumption)) ?_|refine br_t (beq_iff_eq.2 (by assumption)) ?_|refine br_f (beq_eq_false_iff_ne.2 (by assumption)) ?_|intro b | refine drA ⟨tab_ok⟩ [] ?_|refine kpt ?_|refine opmk 3 (by rfl) (fun mb=>?_)|refine opin (b:=mb) (n:=0) (A:=mpO Tryz.prog 3 mb 0 (fun _=>none) true) (m:=mtab (kindL.take 0)) (I:=1) (k:=3) (e:=91) 0 (u:=.func (.func 53) #[] #[]) (mpO Tryz.prog 3 mb 1 (mtab (kindL.take 1)) true) (by rfl) (by rfl) (by rfl) (fun _=>rfl) (by rfl) rfl (fun w h=>h) (List.mem_singleton.2 rfl) (fun w w' _ h hm u=>hm) (fun g hg=>hg) (by kernel_rfl) (by kernel_rfl) (wf_small (by decide)) (by decide) ?_|refine opin (b:=mb) (n:=1) (A:=mpO Tryz.prog 3 mb 1 (mtab (kindL.take 1)) true) (m:=mtab (kindL.take 1)) (I:=2) (k:=3) (e:=91) 0 (u:=.func (.func 54) #[] #[]) (mpO Tryz.prog 3 mb 2 (mtab (kindL.take 2)) true) (by rfl) (by rfl) (by rfl) (fun _=>rfl) (by rfl) rfl (fun w h=>h) (List.mem_singleton.2 rfl) (fun w w' _ h hm u=>hm) (fun g hg=>hg) (by kernel_rfl) (by kernel_rfl) (wf_small (by decide)) (by decide) ?_|refine opin (b:=mb) (n:=2) (A:=mpO Tryz.prog 3 mb 2 (mtab (kindL.take 2)) true) (m:=mtab (kindL.take 2)) (I:=3) (k:=3) (e:=91) 0 (u:=.func (.func 55) #[] #[]) (mpO Tryz.prog 3 mb 3 (mtab (kindL.take 3)) true) (by rfl) (by rfl) (by rfl) (fun _=>rfl) (by rfl) rfl (fun w h=>h) (List.mem_singleton.2 rfl) (fun w w' _ h hm u=>hm) (fun g hg=>hg) (by kernel_rfl) (by kernel_rfl) (wf_small (by decide)) (by decide) ?_|refine opin (b:=mb) (n:=3) (A:=mpO Tryz.prog 3 mb 3 (mtab (kindL.take 3)) true) (m:=mtab (kindL.take 3)) (I:=4) (k:=3) (e:=91) 0 (u:=.func (.func 56) #[] #[]) (mpO Tryz.prog 3 mb 4 (mtab (kindL.take 4)) true) (by rfl) (by rfl) (by rfl) (fun _=>rfl) (by rfl) rfl (fun w h=>h) (List.mem_singleton.2 rfl) (fun w w' _ h hm u=>hm) (fun g hg=>hg) (by kernel_rfl) (by kernel_rfl) (wf_small (by decide)) (by decide) ?_|refine opin (b:=mb) (n:=4) (A:=mpO Tryz.prog 3 mb 4 (mtab (kindL.take 4)) true) (m:=mtab (kindL.take 4)) (I:=5) (k:=3) (e:=91) 0 (u:=.func (.func 57) #[] #[]) (mpO Tryz.prog 3 mb 5 (mtab (kindL.take 5)) true) (by rfl) (by rfl) (by rfl) (fun _=>rfl) (by rfl) rfl (fun w h=>h) (List.mem_singleton.2 rfl) (fun w w' _ h hm u=>hm) (fun g hg=>hg) (by kernel_rfl) (by kernel_rfl) (wf_small (by decide)) (by decide) ?_|refine opin (b:=mb) (n:=5) (A:=mpO Tryz.prog 3 mb 5 (mtab (kindL.take 5)) true) (m:=mtab (kindL.take 5)) (I:=6) (k:=3) (e:=91) 0 (u:=.func (.func 58) #[] #[]) (mpO Tryz.prog 3 mb 6 (mtab (kindL.take 6)) true) (by rfl) (by rfl) (by rfl) (fun _=>rfl) (by rfl) rfl (fun w h=>h) (List.mem_singleton.2 rfl) (fun w w' _ h hm u=>hm) (fun g hg=>hg) (by kernel_rfl) (by kernel_rfl) (wf_small (by decide)) (by decide) ?_|refine opin (b:=mb) (n:=6) (A:=mpO Tryz.prog 3 mb 6 (mtab (kindL.take 6)) true) (m:=mtab (kindL.take 6)) (I:=7) (k:=3) (e:=91) 0 (u:=.func (.func 59) #[] #[]) (mpO Tryz.prog 3 mb 7 (mtab (kindL.take 7)) true) (by rfl) (by rfl) (by rfl) (fun _=>rfl) (by rfl) rfl (fun w h=>h) (List.mem_singleton.2 rfl) (fun w w' _ h hm u=>hm) (fun g hg=>hg) (by kernel_rfl) (by kernel_rfl) (wf_small (by decide)) (by decide) ?_|refine opin (b:=mb) (n:=7) (A:=mpO Tryz.prog 3 mb 7 (mtab (kindL.take 7)) true) (m:=mtab (kindL.take 7)) (I:=8) (k:=3) (e:=91) 0 (u:=.func (.func 60) #[] #[]) (mpO Tryz.prog 3 mb 8 (mtab (kindL.take 8)) true) (by rfl) (by rfl) (by rfl) (fun _=>rfl) (by rfl) rfl (fun w h=>h) (List.mem_singleton.2 rfl) (fun w w' _ h hm u=>hm) (fun g hg=>hg) (by kernel_rfl) (by kernel_rfl) (wf_small (by decide)) (by decide) ?_|refine fin fun w' hH=>⟨mb,rfl,Hold.ob hH (A:=mpO Tryz.prog 3 mb 8 (mtab kindL) true) 0 rfl,hH.upd.since,(hH.own _ (List.mem_of_getElem? (i:=0) rfl) rfl mb (List.mem_singleton.2 rfl)).resolve_left (by simp)⟩|refine fin_s ?_|refine fin_r ?_ ?_|refine fin_e ?_ ?_)
end Gw
namespace Gw
open Go.RowKit Ba Mem En Go.Proofs.YtnoehplnmdajnaaGreatDoor.Ty Mp
open Fq (SO)
open Byt (BV isB)
open Co (KV Pt KW newK Hold.ob)
open Gr (doR)
set_option maxRecDepth 100000
structure GWt (gq:Nat) (c:CfgV) (x:Gp) (M N:Nat) (K:KV) (ep:Int) (xs:List Int) (Sk:List Nat) (D:Fam) (Ss:List Nat) (w:World):Prop where
 b:Blk w gq 87 (gwA c x ep)
 k:KG 0 x.q x.p x.mb M K Sk D w
 s:SO 0 x.s N xs Ss w
 g1:gq∉kgF x.mb Sk D
 g2:gq∉Ss
 d:∀ g∈kgF x.mb Sk D,g∉Ss
def gwF (gq:Nat) (x:Gp) (Sk:List Nat) (D:Fam) (Ss:List Nat):List Nat:=gq::(kgF x.mb Sk D++Ss)
section
variable {gq M N:Nat} {c:CfgV} {x:Gp} {ep sk sa sb:Int} {K K':KV} {xs:List Int} {Sk Sk' Ss T:List Nat} {D D':Fam} {w w':World} {dA:Option Addr} {dn dc:Nat}
theorem GWt.upd (u:Upd T w w') (h:GWt gq c x M N K ep xs Sk D Ss w) (hT:∀ g∈gwF gq x Sk D Ss,g∉T):GWt gq c x M N K ep xs Sk D Ss w' :=
 ⟨u.blk h.b (hT _ (List.mem_cons_self ..)),h.k.upd u (fun g hg=>hT g (List.mem_cons_of_mem _ (List.mem_append.2 (.inl hg)))),h.s.upd u (fun g hg=>hT g (List.mem_cons_of_mem _ (List.mem_append.2 (.inr hg)))),h.g1,h.g2,h.d⟩
theorem GWt.lt (h:GWt gq c x M N K ep xs Sk D Ss w):∀ g∈gwF gq x Sk D Ss,g < w.heap.size:=by
 intro g hg
 rcases List.mem_cons.1 hg with rfl | hg
 ·exact h.b.lt
 rcases List.mem_append.1 hg with hg | hg
 ·exact h.k.lt g hg
 ·exact h.s.lt g hg
theorem GWt.kg (h:GWt gq c x M N K ep xs Sk D Ss w) (hk:KG 0 x.q x.p x.mb M K' Sk' D' w') (u:Upd (kgF x.mb Sk D) w w') (hF:∀ g∈kgF x.mb Sk' D',g∈kgF x.mb Sk D∨w.heap.size≤g) :
  GWt gq c x M N K' ep xs Sk' D' Ss w'∧Upd (gwF gq x Sk D Ss) w w'∧∀ g∈gwF gq x Sk' D' Ss,g∈gwF gq x Sk D Ss∨w.heap.size≤g:=by
 have far:∀ g,g < w.heap.size→g∉kgF x.mb Sk D→g∉kgF x.mb Sk' D':=fun g hlt hg hm=>(hF g hm).elim hg (fun h=>by omega)
 refine ⟨⟨u.blk h.b h.g1,hk,h.s.upd u (fun g hg hgk=>h.d g hgk hg),far gq h.b.lt h.g1,h.g2,fun g hg hgs=>far g (h.s.lt g hgs) (fun hk=>h.d g hk hgs) hg⟩,u.mono (fun g hg _=>List.mem_cons_of_mem _ (List.mem_append.2 (.inl hg))),fun g hg=>?_⟩
 rcases List.mem_cons.1 hg with rfl | hg
 ·exact .inl (List.mem_cons_self ..)
 rcases List.mem_append.1 hg with hg | hg
 ·exact (hF g hg).imp (fun hg=>List.mem_cons_of_mem _ (List.mem_append.2 (.inl hg))) id
 ·exact .inl (List.mem_cons_of_mem _ (List.mem_append.2 (.inr hg)))
end
def gwO (gq:Nat) (c:CfgV) (x:Gp) (M N:Nat) (K:KV) (ep:Int) (xs:List Int) (Sk:List Nat) (D:Fam) (Ss:List Nat) (rw:Bool):Asr:=⟨gwF gq x Sk D Ss,rw,GWt gq c x M N K ep xs Sk D Ss,fun u hd h=>h.upd u hd,fun h=>h.lt⟩
theorem hold_w {gq M N nt:Nat} {c:CfgV} {x:Gp} {ep:Int} {K:KV} {xs:List Int} {Sk Ss:List Nat} {D:Fam} {w:World} (h:GWt gq c x M N K ep xs Sk D Ss w):Hold ⟨Tryz.prog,tab,gwF gq x Sk D Ss,w,nt,[]⟩ [] [gwO gq c x M N K ep xs Sk D Ss true] w :=
 Hold.addObj (Hold.nil _ tab _ _ w) (gwO gq c x M N K ep xs Sk D Ss true) h (fun _ g hg=>.inl hg) (by intro r hr; cases hr) (by intro A hA; cases hA)
attribute [local irreducible] Go.Calls
section
variable {gq M N:Nat} {c:CfgV} {x:Gp} {ep sk sa sb:Int} {K K':KV} {xs:List Int} {Sk Sk' Ss T:List Nat} {D D':Fam} {w w':World} {dA:Option Addr} {dn dc:Nat}
end
end Gw
end Go.Proofs.YtnoehplnmdajnaaGreatDoor
