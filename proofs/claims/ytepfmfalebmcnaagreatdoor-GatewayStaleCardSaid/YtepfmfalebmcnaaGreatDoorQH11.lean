/-
  Wanted: part 11.
  No condition.
-/
import Derived.Test.YtepfmfalebmcnaaGreatDoorQH10
import Derived.WalkKit
import Derived.Laws.BitsAllLaws
import Derived.Test.YtepfmfalebmcnaaGreatDoorQH0
import Derived.Test.YtepfmfalebmcnaaGreatDoorRows
import Derived.WalkLawsBesides
import Derived.IntWalk
import Derived.Lib.Hide
import Derived.Lib.SlBytesConst
import Derived.Deep.WholeRow
import Derived.Lib.Strings
import Derived.Test.YtepfmfalebmcnaaGreatDoorProg
import Derived.Test.YtepfmfalebmcnaaGreatDoorQH3
import Derived.Test.YtepfmfalebmcnaaGreatDoorQH4
set_option linter.all false
namespace Go.Proofs.YtepfmfalebmcnaaGreatDoor
namespace Mg
open Go.RowKit Ba Mem En Go.Proofs.YtepfmfalebmcnaaGreatDoor.Ty
open Byt (BV isB cells)
open Qu (intE)
set_option maxRecDepth 100000
attribute [local irreducible] Go.Calls
theorem withinV (most:Int) (g n:Nat) (ns:List Int) (b:Bool) (w:World) (hB:Blk w g 3 (ns.map (Value.int .i64)).toArray) (hl:ns.length=n) (hn:n≤1000) (hb:inB most ns=b) :
  Calls Tryz.prog 196 #[.int .i64 most,.slice (some ⟨g,0,none⟩) n n] w fun e w'=>e=.returned (.bool b)∧Since w w':=(withinT most g n ns w hB hl hn).mono (by rintro e w' ⟨rfl,rfl⟩; exact ⟨by rw [hb],Since.refl _⟩)
theorem knownV (n:Int) (b:Bool) (w:World) (hb:decide (1≤n∧n≤16)=b):Calls Tryz.prog 137 #[.int .i64 n] w fun e w'=>e=.returned (.bool b)∧Since w w':=(knownT n w).mono (by rintro e w' ⟨rfl,rfl⟩; exact ⟨by rw [hb],Since.refl _⟩)
def pktC (p:PktV):Array Value:=#[.int .i64 p.se,.int .i64 p.ep,.int .i64 p.sq,.int .i64 p.ak,.bool p.has,.int .i64 p.ki,.int .i64 p.a,.int .i64 p.b,.int .i64 p.c]
theorem head_in (p:PktV):headB p=(inB 255 [p.se] && inB 65535 [p.ep,p.sq,p.ak]):=by
 rw [Bool.eq_iff_iff,head_iff]; simp [inB]; omega
theorem msg_in (p:PktV):msgB p=(decide (1≤p.ki∧p.ki≤16) && inB 2147483647 [p.a,p.b,p.c]):=by
 rw [Bool.eq_iff_iff,msg_iff]; simp [inB]; omega
theorem goodT (p:PktV) (w:World):Calls Tryz.prog 138 #[.agg (pktC p)] w fun e w'=>e=.returned (.bool (mayB p))∧Since w w':=by
 obtain ⟨b0,h0⟩:∃ b,inB 255 [p.se]=b:=⟨_,rfl⟩
 obtain ⟨b1,h1⟩:∃ b,inB 65535 [p.ep,p.sq,p.ak]=b:=⟨_,rfl⟩
 obtain ⟨b2,h2⟩:∃ b,decide (1≤p.ki∧p.ki≤16)=b:=⟨_,rfl⟩
 obtain ⟨b3,h3⟩:∃ b,inB 2147483647 [p.a,p.b,p.c]=b:=⟨_,rfl⟩
 have hm:mayB p=((b0 && b1) && if p.has=true then b2 && b3 else noMsg p):=by unfold mayB; rw [head_in,msg_in,h0,h1,h2,h3]
 rw [hm]
 cases b0 with
 | false =>
  refine ent tab_ok [.a [.i .i64 p.se,.i .i64 p.ep,.i .i64 p.sq,.i .i64 p.ak,.b p.has,.i .i64 p.ki,.i .i64 p.a,.i .i64 p.b,.i .i64 p.c]] Tryz.func138 Tryz.ntmps138 rfl rfl ?_
  repeat' (first | refine gs_ ?_|((conv=>whnf); first | intro b | refine opbn ⟨tab_ok⟩ 3 [_] [.i .i64 p.se] (by rfl) (by rfl) (by rfl) ?_|refine opbn ⟨tab_ok⟩ 3 [_,_,_] [.i .i64 p.ep,.i .i64 p.sq,.i .i64 p.ak] (by rfl) (by rfl) (by rfl) ?_|refine opbn ⟨tab_ok⟩ 3 [_,_,_] [.i .i64 p.a,.i .i64 p.b,.i .i64 p.c] (by rfl) (by rfl) (by rfl) ?_|refine callH (f:=196) (.b _) (fun w hH=>withinV 255 _ 1 [p.se] _ w (hH.row 1 _ rfl rfl) rfl (by decide) h0) ?_|refine callH (f:=196) (.b _) (fun w hH=>withinV 65535 _ 3 [p.ep,p.sq,p.ak] _ w (hH.row 2 _ rfl rfl) rfl (by decide) h1) ?_|refine callH (f:=137) (.b _) (fun w hH=>knownV p.ki _ w h2) ?_|refine callH (f:=196) (.b _) (fun w hH=>withinV 2147483647 _ 3 [p.a,p.b,p.c] _ w (hH.row 3 _ rfl rfl) rfl (by decide) h3) ?_|refine fin_s ?_))
  all_goals rfl
 | true =>
  cases b1 with
  | false =>
   refine ent tab_ok [.a [.i .i64 p.se,.i .i64 p.ep,.i .i64 p.sq,.i .i64 p.ak,.b p.has,.i .i64 p.ki,.i .i64 p.a,.i .i64 p.b,.i .i64 p.c]] Tryz.func138 Tryz.ntmps138 rfl rfl ?_
   repeat' (first | refine gs_ ?_|((conv=>whnf); first | intro b | refine opbn ⟨tab_ok⟩ 3 [_] [.i .i64 p.se] (by rfl) (by rfl) (by rfl) ?_|refine opbn ⟨tab_ok⟩ 3 [_,_,_] [.i .i64 p.ep,.i .i64 p.sq,.i .i64 p.ak] (by rfl) (by rfl) (by rfl) ?_|refine opbn ⟨tab_ok⟩ 3 [_,_,_] [.i .i64 p.a,.i .i64 p.b,.i .i64 p.c] (by rfl) (by rfl) (by rfl) ?_|refine callH (f:=196) (.b _) (fun w hH=>withinV 255 _ 1 [p.se] _ w (hH.row 1 _ rfl rfl) rfl (by decide) h0) ?_|refine callH (f:=196) (.b _) (fun w hH=>withinV 65535 _ 3 [p.ep,p.sq,p.ak] _ w (hH.row 2 _ rfl rfl) rfl (by decide) h1) ?_|refine callH (f:=137) (.b _) (fun w hH=>knownV p.ki _ w h2) ?_|refine callH (f:=196) (.b _) (fun w hH=>withinV 2147483647 _ 3 [p.a,p.b,p.c] _ w (hH.row 3 _ rfl rfl) rfl (by decide) h3) ?_|refine fin_s ?_))
   all_goals rfl
  | true =>
   cases hh:p.has with
   | false =>
    have hp:pktC p=#[.int .i64 p.se,.int .i64 p.ep,.int .i64 p.sq,.int .i64 p.ak,.bool false,.int .i64 p.ki,.int .i64 p.a,.int .i64 p.b,.int .i64 p.c]:=by unfold pktC; rw [hh]
    rw [hp]
    refine ent tab_ok [.a [.i .i64 p.se,.i .i64 p.ep,.i .i64 p.sq,.i .i64 p.ak,.b false,.i .i64 p.ki,.i .i64 p.a,.i .i64 p.b,.i .i64 p.c]] Tryz.func138 Tryz.ntmps138 rfl rfl ?_
    repeat' (first | refine gs_ ?_|((conv=>whnf); first | intro b | refine opbn ⟨tab_ok⟩ 3 [_] [.i .i64 p.se] (by rfl) (by rfl) (by rfl) ?_|refine opbn ⟨tab_ok⟩ 3 [_,_,_] [.i .i64 p.ep,.i .i64 p.sq,.i .i64 p.ak] (by rfl) (by rfl) (by rfl) ?_|refine opbn ⟨tab_ok⟩ 3 [_,_,_] [.i .i64 p.a,.i .i64 p.b,.i .i64 p.c] (by rfl) (by rfl) (by rfl) ?_|refine callH (f:=196) (.b _) (fun w hH=>withinV 255 _ 1 [p.se] _ w (hH.row 1 _ rfl rfl) rfl (by decide) h0) ?_|refine callH (f:=196) (.b _) (fun w hH=>withinV 65535 _ 3 [p.ep,p.sq,p.ak] _ w (hH.row 2 _ rfl rfl) rfl (by decide) h1) ?_|refine callH (f:=137) (.b _) (fun w hH=>knownV p.ki _ w h2) ?_|refine callH (f:=196) (.b _) (fun w hH=>withinV 2147483647 _ 3 [p.a,p.b,p.c] _ w (hH.row 3 _ rfl rfl) rfl (by decide) h3) ?_|refine fin_s ?_))
    all_goals (simp [den,noMsg]; try rfl)
   | true =>
    have hp:pktC p=#[.int .i64 p.se,.int .i64 p.ep,.int .i64 p.sq,.int .i64 p.ak,.bool true,.int .i64 p.ki,.int .i64 p.a,.int .i64 p.b,.int .i64 p.c]:=by unfold pktC; rw [hh]
    rw [hp]
    cases b2 with
    | false =>
     refine ent tab_ok [.a [.i .i64 p.se,.i .i64 p.ep,.i .i64 p.sq,.i .i64 p.ak,.b true,.i .i64 p.ki,.i .i64 p.a,.i .i64 p.b,.i .i64 p.c]] Tryz.func138 Tryz.ntmps138 rfl rfl ?_
     repeat' (first | refine gs_ ?_|((conv=>whnf); first | intro b | refine opbn ⟨tab_ok⟩ 3 [_] [.i .i64 p.se] (by rfl) (by rfl) (by rfl) ?_|refine opbn ⟨tab_ok⟩ 3 [_,_,_] [.i .i64 p.ep,.i .i64 p.sq,.i .i64 p.ak] (by rfl) (by rfl) (by rfl) ?_|refine opbn ⟨tab_ok⟩ 3 [_,_,_] [.i .i64 p.a,.i .i64 p.b,.i .i64 p.c] (by rfl) (by rfl) (by rfl) ?_|refine callH (f:=196) (.b _) (fun w hH=>withinV 255 _ 1 [p.se] _ w (hH.row 1 _ rfl rfl) rfl (by decide) h0) ?_|refine callH (f:=196) (.b _) (fun w hH=>withinV 65535 _ 3 [p.ep,p.sq,p.ak] _ w (hH.row 2 _ rfl rfl) rfl (by decide) h1) ?_|refine callH (f:=137) (.b _) (fun w hH=>knownV p.ki _ w h2) ?_|refine callH (f:=196) (.b _) (fun w hH=>withinV 2147483647 _ 3 [p.a,p.b,p.c] _ w (hH.row 3 _ rfl rfl) rfl (by decide) h3) ?_|refine fin_s ?_))
     all_goals rfl
    | true =>
     refine ent tab_ok [.a [.i .i64 p.se,.i .i64 p.ep,.i .i64 p.sq,.i .i64 p.ak,.b true,.i .i64 p.ki,.i .i64 p.a,.i .i64 p.b,.i .i64 p.c]] Tryz.func138 Tryz.ntmps138 rfl rfl ?_
     repeat' (first | refine gs_ ?_|((conv=>whnf); first | intro b | refine opbn ⟨tab_ok⟩ 3 [_] [.i .i64 p.se] (by rfl) (by rfl) (by rfl) ?_|refine opbn ⟨tab_ok⟩ 3 [_,_,_] [.i .i64 p.ep,.i .i64 p.sq,.i .i64 p.ak] (by rfl) (by rfl) (by rfl) ?_|refine opbn ⟨tab_ok⟩ 3 [_,_,_] [.i .i64 p.a,.i .i64 p.b,.i .i64 p.c] (by rfl) (by rfl) (by rfl) ?_|refine callH (f:=196) (.b _) (fun w hH=>withinV 255 _ 1 [p.se] _ w (hH.row 1 _ rfl rfl) rfl (by decide) h0) ?_|refine callH (f:=196) (.b _) (fun w hH=>withinV 65535 _ 3 [p.ep,p.sq,p.ak] _ w (hH.row 2 _ rfl rfl) rfl (by decide) h1) ?_|refine callH (f:=137) (.b _) (fun w hH=>knownV p.ki _ w h2) ?_|refine callH (f:=196) (.b _) (fun w hH=>withinV 2147483647 _ 3 [p.a,p.b,p.c] _ w (hH.row 3 _ rfl rfl) rfl (by decide) h3) ?_|refine fin_s ?_))
     all_goals rfl
theorem goodV (p:PktV) (b:Bool) (w:World) (h:mayB p=b):Calls Tryz.prog 138 #[.agg (pktC p)] w fun e w'=>e=.returned (.bool b)∧Since w w':=h ▸ goodT p w
section
variable {lo lo2 n c g m:Nat} {A:Option Addr} {xs ns:List Int}
theorem int_blk {w:World} (hB:Blk w g 3 (ns.map (Value.int .i64)).toArray) (hl:ns.length=m) (hm:m≤1000):intE.At g (some ⟨g,0,none⟩) m m ns w:=by
 have hr:rowsOf intE.c ns=ns.map (Value.int .i64):=by
  clear hB hl
  induction ns with
  | nil=>rfl
  | cons z r ih=>show (intE.c z)++rowsOf intE.c r=_; rw [ih]; rfl
 have hk:intE.k=1:=rfl
 refine ⟨by rw [hr,hk]; simp [hl],.inr ⟨g,m,(ns.map (Value.int .i64)).toArray,rfl,Nat.le_refl _,hB,Nat.le_refl _,by unfold maxLen; omega,by rw [hk]; simp [hl], ?_⟩⟩
 rw [hr]
 exact List.take_of_length_le (by rw [hk]; simp [hl])
theorem twoT (w:World) (hA:byteE.At lo A n c xs w) (hlo:lo≤w.heap.size) (hz:intE.At lo2 (some ⟨g,0,none⟩) m m ns w) (hn:n+2*m≤1000) (hm:ns.length=m) (hd:g∉blkOf A) :
  Calls Tryz.prog 191 #[.slice A n c,.slice (some ⟨g,0,none⟩) m m] w fun e w'=>∃ x:Option Addr×Nat,e=.returned (.slice x.1 (n+2*m) x.2)∧byteE.At lo x.1 (n+2*m) x.2 (xs++ns.flatMap twoL) w'∧Upd (blkOf A) w w'∧∀ g∈blkOf x.1,g∈blkOf A∨w.heap.size≤g:=by
 refine entH tab_ok (Hold.addObj (Hold.addObj (Hold.nil _ tab (blkOf A) _ w) (rwO intE lo2 (some ⟨g,0,none⟩) m m ns false) hz (by intro k; cases k) (by intro r hr; cases hr) (by intro A hA; cases hA)) (rwO byteE lo A n c xs true) hA (fun _ x hx=>.inl hx) (by intro r hr; cases hr) (by intro B hB _ x hx hx2; simp only [List.nil_append,List.mem_singleton] at hB; subst hB; simp only [rwO,blkOf,List.mem_singleton] at hx; subst hx; exact hd hx2)) [.v (.slice A n c),.v (.slice (some ⟨g,0,none⟩) m m)] Tryz.func191 Tryz.ntmps191 rfl rfl ?_
 repeat' (first | refine gs_ ?_|((conv=>whnf); first | intro b | refine b3_ (fun h=>?_) (fun h=>?_)|refine fin_s ?_))
 conv=>whnf
 refine lp ⟨tab_ok⟩ (ι:={x:(Nat×Nat×Option Addr×Nat)×List Int // x.1.1≤m∧xs++(ns.take x.1.1).flatMap twoL=x.2∧x.1.2.1=n+2*x.1.1}) (fun x=>match x with | ⟨((k,nk,A3,c3),es),_⟩=>⟨[(0,.v (.slice A3 nk c3)),(7,.v (.slice (some ⟨g,0,none⟩) m m)),(8,.i .i64 m),(9,.i .i64 (k:Int))],[],[rwO intE lo2 (some ⟨g,0,none⟩) m m ns false,rwO byteE lo A3 nk c3 es true]⟩) (fun x=>m - x.1.1.1) ⟨((0,n,A,c),xs),Nat.zero_le _,by simp,by simp⟩ (wk ?_) ?_
 ·repeat' (first | exact trivial | rfl | ((conv=>whnf); refine And.intro ?_ ?_))
 rintro ⟨⟨⟨k,nk,A3,c3⟩,es⟩,hk,he,hnk⟩
 have hk:k≤m:=hk
 have he:xs++(ns.take k).flatMap twoL=es:=he
 have hnk:nk=n+2*k:=hnk
 by_cases hlt:k < m
 ·obtain ⟨x,hx⟩:∃ x,ns[k]?=some x:=⟨_,List.getElem?_eq_getElem (by omega)⟩
  have he2:xs++(ns.take (k+1)).flatMap twoL=es++twoL x:=by
   obtain ⟨hkl,rfl⟩:=List.getElem?_eq_some_iff.1 hx
   rw [List.take_succ_eq_append_getElem hkl,List.flatMap_append,← he,List.append_assoc]; simp
  repeat' (first | refine gs_ ?_|((conv=>whnf); first | intro b | refine bto ?_|refine bfo ?_|refine cd (by first | decide | omega) ?_|refine wr (u8_s8 _) ?_|refine wr (u8_wrap _) ?_|refine wr_i ?_|refine iv_ ?_|refine opxc (g:=g) (off:=0+k*1) (.i .i64 x) (fun w hH=>Ek.rng (hH.obj (rwO intE lo2 (some ⟨g,0,none⟩) m m ns false) (List.mem_cons_self ..)) hx) ⟨tab_ok⟩ (by rfl) (by rfl) (by show Addr.add ⟨g,0,none⟩ (k*1)=_; rw [Go.WideShapes.add_plain]) ?_|refine opbn ⟨tab_ok⟩ 5 [_,_] [.i .u8 (x / 256 % 256),.i .u8 (x % 256)] (by rfl) (by rfl) (by rfl) ?_|refine opap 1 0 (e:=5) (lo:=lo) (size:=1) (bytes:=1) (z:=.int .u8 0) (A:=rwO byteE lo A3 nk c3 es true) (vals:=rowsOf byteE.c es) (cells:=[.int .u8 (x / 256 % 256),.int .u8 (x % 256)]) (zs:=rowsOf byteE.c (es++twoL x)) (n2:=nk+2) (fun A' c'=>rwO byteE lo A' (nk+2) c' (es++twoL x) true) (by rfl) (by rfl) (by rfl) (by rfl) rfl rfl (fun w h=>h) (fun A' c' w h=>h) (fun _ _=>rfl) (by rfl) (by rfl) (by rfl) (by rfl) Tryz.underlying29 (by kernel_rfl) rfl (by decide) (by decide) (by intro u hu; simp at hu; rcases hu with rfl | rfl <;> rfl) (by omega) (fun w hH=>Nat.le_trans hlo hH.upd.size) rfl (by rw [rowsOf_append]; rfl) (fun A' c'=>?_)|refine En.back ⟨((k+1,nk+2,A',c'),es++twoL x),by show k+1≤_; omega,he2,by show nk+2=n+2*(k+1); omega⟩ (wk ?_) ?_|refine fin_s ?_))
  all_goals first | (show m - (k+1) < m - k; omega)|skip
  all_goals (repeat' (first | exact trivial | rfl | ((conv=>whnf); refine And.intro ?_ ?_)))
 ·obtain rfl:k=m:=by omega
  subst hnk
  repeat' (first | refine gs_ ?_|((conv=>whnf); first | intro b | refine bto ?_|refine bfo ?_|refine wr_i ?_|refine fin fun w' hH=>?_|refine fin_s ?_))
  have hO:=hH.obj (rwO byteE lo A3 (n+2*k) c3 es true) (List.mem_cons_of_mem _ (List.mem_cons_self ..))
  have hfull:ns.take k=ns:=List.take_of_length_le (by rw [hm]; exact Nat.le_refl _)
  rw [hfull] at he
  rw [he]
  exact ⟨(A3,c3),rfl,hO,hH.upd,fun x hx=>hH.own _ (List.mem_cons_of_mem _ (List.mem_cons_self ..)) rfl x hx⟩
theorem fourT (w:World) (hA:byteE.At lo A n c xs w) (hlo:lo≤w.heap.size) (hz:intE.At lo2 (some ⟨g,0,none⟩) m m ns w) (hn:n+4*m≤1000) (hm:ns.length=m) (hd:g∉blkOf A) :
  Calls Tryz.prog 192 #[.slice A n c,.slice (some ⟨g,0,none⟩) m m] w fun e w'=>∃ x:Option Addr×Nat,e=.returned (.slice x.1 (n+4*m) x.2)∧byteE.At lo x.1 (n+4*m) x.2 (xs++ns.flatMap fourL) w'∧Upd (blkOf A) w w'∧∀ g∈blkOf x.1,g∈blkOf A∨w.heap.size≤g:=by
 refine entH tab_ok (Hold.addObj (Hold.addObj (Hold.nil _ tab (blkOf A) _ w) (rwO intE lo2 (some ⟨g,0,none⟩) m m ns false) hz (by intro k; cases k) (by intro r hr; cases hr) (by intro A hA; cases hA)) (rwO byteE lo A n c xs true) hA (fun _ x hx=>.inl hx) (by intro r hr; cases hr) (by intro B hB _ x hx hx2; simp only [List.nil_append,List.mem_singleton] at hB; subst hB; simp only [rwO,blkOf,List.mem_singleton] at hx; subst hx; exact hd hx2)) [.v (.slice A n c),.v (.slice (some ⟨g,0,none⟩) m m)] Tryz.func192 Tryz.ntmps192 rfl rfl ?_
 repeat' (first | refine gs_ ?_|((conv=>whnf); first | intro b | refine b3_ (fun h=>?_) (fun h=>?_)|refine fin_s ?_))
 conv=>whnf
 refine lp ⟨tab_ok⟩ (ι:={x:(Nat×Nat×Option Addr×Nat)×List Int // x.1.1≤m∧xs++(ns.take x.1.1).flatMap fourL=x.2∧x.1.2.1=n+4*x.1.1}) (fun x=>match x with | ⟨((k,nk,A3,c3),es),_⟩=>⟨[(0,.v (.slice A3 nk c3)),(7,.v (.slice (some ⟨g,0,none⟩) m m)),(8,.i .i64 m),(9,.i .i64 (k:Int))],[],[rwO intE lo2 (some ⟨g,0,none⟩) m m ns false,rwO byteE lo A3 nk c3 es true]⟩) (fun x=>m - x.1.1.1) ⟨((0,n,A,c),xs),Nat.zero_le _,by simp,by simp⟩ (wk ?_) ?_
 ·repeat' (first | exact trivial | rfl | ((conv=>whnf); refine And.intro ?_ ?_))
 rintro ⟨⟨⟨k,nk,A3,c3⟩,es⟩,hk,he,hnk⟩
 have hk:k≤m:=hk
 have he:xs++(ns.take k).flatMap fourL=es:=he
 have hnk:nk=n+4*k:=hnk
 by_cases hlt:k < m
 ·obtain ⟨x,hx⟩:∃ x,ns[k]?=some x:=⟨_,List.getElem?_eq_getElem (by omega)⟩
  have he2:xs++(ns.take (k+1)).flatMap fourL=es++fourL x:=by
   obtain ⟨hkl,rfl⟩:=List.getElem?_eq_some_iff.1 hx
   rw [List.take_succ_eq_append_getElem hkl,List.flatMap_append,← he,List.append_assoc]; simp
  repeat' (first | refine gs_ ?_|((conv=>whnf); first | intro b | refine bto ?_|refine bfo ?_|refine cd (by first | decide | omega) ?_|refine wr (u8_s24 _) ?_|refine wr (u8_s16 _) ?_|refine wr (u8_s8 _) ?_|refine wr (u8_wrap _) ?_|refine wr_i ?_|refine iv_ ?_|refine opxc (g:=g) (off:=0+k*1) (.i .i64 x) (fun w hH=>Ek.rng (hH.obj (rwO intE lo2 (some ⟨g,0,none⟩) m m ns false) (List.mem_cons_self ..)) hx) ⟨tab_ok⟩ (by rfl) (by rfl) (by show Addr.add ⟨g,0,none⟩ (k*1)=_; rw [Go.WideShapes.add_plain]) ?_|refine opbn ⟨tab_ok⟩ 5 [_,_,_,_] [.i .u8 (x / 16777216 % 256),.i .u8 (x / 65536 % 256),.i .u8 (x / 256 % 256),.i .u8 (x % 256)] (by rfl) (by rfl) (by rfl) ?_|refine opap 1 0 (e:=5) (lo:=lo) (size:=1) (bytes:=1) (z:=.int .u8 0) (A:=rwO byteE lo A3 nk c3 es true) (vals:=rowsOf byteE.c es) (cells:=[.int .u8 (x / 16777216 % 256),.int .u8 (x / 65536 % 256),.int .u8 (x / 256 % 256),.int .u8 (x % 256)]) (zs:=rowsOf byteE.c (es++fourL x)) (n2:=nk+4) (fun A' c'=>rwO byteE lo A' (nk+4) c' (es++fourL x) true) (by rfl) (by rfl) (by rfl) (by rfl) rfl rfl (fun w h=>h) (fun A' c' w h=>h) (fun _ _=>rfl) (by rfl) (by rfl) (by rfl) (by rfl) Tryz.underlying29 (by kernel_rfl) rfl (by decide) (by decide) (by intro u hu; simp at hu; rcases hu with rfl | rfl | rfl | rfl <;> rfl) (by omega) (fun w hH=>Nat.le_trans hlo hH.upd.size) rfl (by rw [rowsOf_append]; rfl) (fun A' c'=>?_)|refine En.back ⟨((k+1,nk+4,A',c'),es++fourL x),by show k+1≤_; omega,he2,by show nk+4=n+4*(k+1); omega⟩ (wk ?_) ?_|refine fin_s ?_))
  all_goals first | (show m - (k+1) < m - k; omega)|skip
  all_goals (repeat' (first | exact trivial | rfl | ((conv=>whnf); refine And.intro ?_ ?_)))
 ·obtain rfl:k=m:=by omega
  subst hnk
  repeat' (first | refine gs_ ?_|((conv=>whnf); first | intro b | refine bto ?_|refine bfo ?_|refine wr_i ?_|refine fin fun w' hH=>?_|refine fin_s ?_))
  have hO:=hH.obj (rwO byteE lo A3 (n+4*k) c3 es true) (List.mem_cons_of_mem _ (List.mem_cons_self ..))
  have hfull:ns.take k=ns:=List.take_of_length_le (by rw [hm]; exact Nat.le_refl _)
  rw [hfull] at he
  rw [he]
  exact ⟨(A3,c3),rfl,hO,hH.upd,fun x hx=>hH.own _ (List.mem_cons_of_mem _ (List.mem_cons_self ..)) rfl x hx⟩
end
theorem putN (p:PktV) (h0:mayB p=false) (w:World):Calls Tryz.prog 130 #[.agg (pktC p)] w fun e w'=>e=.returned (.tuple #[.slice none 0 0,.bool false])∧Since w w':=by
 refine ent tab_ok [.a [.i .i64 p.se,.i .i64 p.ep,.i .i64 p.sq,.i .i64 p.ak,.b p.has,.i .i64 p.ki,.i .i64 p.a,.i .i64 p.b,.i .i64 p.c]] Tryz.func130 Tryz.ntmps130 rfl rfl ?_
 repeat' (first | refine gs_ ?_|((conv=>whnf); first | intro b | refine callH (f:=138) (.b false) (fun w hH=>goodV p _ w h0) ?_|refine fin_s ?_))
 all_goals rfl
theorem putF (p:PktV) (h0:mayB p=true) (hh:p.has=false) (w:World):Calls Tryz.prog 130 #[.agg (pktC p)] w fun e w'=>∃ A' c',e=.returned (.tuple #[.slice A' 8 c',.bool true])∧byteE.At w.heap.size A' 8 c' (headL p) w'∧Since w w':=by
 have hp:pktC p=#[.int .i64 p.se,.int .i64 p.ep,.int .i64 p.sq,.int .i64 p.ak,.bool false,.int .i64 p.ki,.int .i64 p.a,.int .i64 p.b,.int .i64 p.c]:=by unfold pktC; rw [hh]
 have hg:∀ w,Calls Tryz.prog 138 #[.agg (pktC p)] w fun e w'=>e=.returned (.bool true)∧Since w w':=fun w=>goodV p _ w h0
 rw [hp] at hg ⊢
 refine ent tab_ok [.a [.i .i64 p.se,.i .i64 p.ep,.i .i64 p.sq,.i .i64 p.ak,.b false,.i .i64 p.ki,.i .i64 p.a,.i .i64 p.b,.i .i64 p.c]] Tryz.func130 Tryz.ntmps130 rfl rfl ?_
 repeat' (first | refine gs_ ?_|((conv=>whnf); first | intro b | refine bto ?_|refine bfo ?_|refine callH (f:=138) (.b true) (fun w hH=>hg w) ?_|refine wr (u8_wrap _) ?_|refine wr_i ?_|refine opbo ⟨tab_ok⟩ byteE [1,p.se % 256] [_,_] [.i .u8 1,.i .u8 (p.se % 256)] (by rfl) (by rfl) (by rfl) rfl rfl (fun g0=>?_)|refine opbn ⟨tab_ok⟩ 3 [_,_,_] [.i .i64 p.ep,.i .i64 p.sq,.i .i64 p.ak] (by rfl) (by rfl) (by rfl) ?_|refine callO (f:=191) (A:=rwO byteE w.heap.size (some ⟨g0,0,none⟩) 2 2 [1,p.se % 256] true) 0 (fun x:Option Addr×Nat=>.v (.slice x.1 8 x.2)) (fun x=>rwO byteE w.heap.size x.1 8 x.2 (headL p) true) (fun w1 hH hA=>twoT (m:=3) (ns:=[p.ep,p.sq,p.ak]) w1 hA hH.upd.size (int_blk (hH.row 1 _ rfl rfl) rfl (by decide)) (by decide) rfl (hH.far _ (List.mem_of_getElem? (i:=0) rfl) 1 _ rfl rfl)) (fun x=>?_)|refine fin fun w' hH=>⟨x.1,x.2,rfl,Co.Hold.ob hH (A:=rwO byteE w.heap.size x.1 8 x.2 (headL p) true) 0 rfl,hH.upd.since⟩|refine fin_s ?_))
theorem putH (p:PktV) (h0:mayB p=true) (hh:p.has=true) (w:World):Calls Tryz.prog 130 #[.agg (pktC p)] w fun e w'=>∃ A' c',e=.returned (.tuple #[.slice A' 21 c',.bool true])∧byteE.At w.heap.size A' 21 c' (headL p++bodyL p) w'∧Since w w':=by
 have hp:pktC p=#[.int .i64 p.se,.int .i64 p.ep,.int .i64 p.sq,.int .i64 p.ak,.bool true,.int .i64 p.ki,.int .i64 p.a,.int .i64 p.b,.int .i64 p.c]:=by unfold pktC; rw [hh]
 have hg:∀ w,Calls Tryz.prog 138 #[.agg (pktC p)] w fun e w'=>e=.returned (.bool true)∧Since w w':=fun w=>goodV p _ w h0
 rw [hp] at hg ⊢
 refine ent tab_ok [.a [.i .i64 p.se,.i .i64 p.ep,.i .i64 p.sq,.i .i64 p.ak,.b true,.i .i64 p.ki,.i .i64 p.a,.i .i64 p.b,.i .i64 p.c]] Tryz.func130 Tryz.ntmps130 rfl rfl ?_
 repeat' (first | refine gs_ ?_|((conv=>whnf); first | intro b | refine bto ?_|refine bfo ?_|refine callH (f:=138) (.b true) (fun w hH=>hg w) ?_|refine wr (u8_wrap _) ?_|refine wr_i ?_|refine opbo ⟨tab_ok⟩ byteE [1,p.se % 256] [_,_] [.i .u8 1,.i .u8 (p.se % 256)] (by rfl) (by rfl) (by rfl) rfl rfl (fun g0=>?_)|refine opbn ⟨tab_ok⟩ 3 [_,_,_] [.i .i64 p.ep,.i .i64 p.sq,.i .i64 p.ak] (by rfl) (by rfl) (by rfl) ?_|refine callO (f:=191) (A:=rwO byteE w.heap.size (some ⟨g0,0,none⟩) 2 2 [1,p.se % 256] true) 0 (fun x:Option Addr×Nat=>.v (.slice x.1 8 x.2)) (fun x=>rwO byteE w.heap.size x.1 8 x.2 (headL p) true) (fun w1 hH hA=>twoT (m:=3) (ns:=[p.ep,p.sq,p.ak]) w1 hA hH.upd.size (int_blk (hH.row 1 _ rfl rfl) rfl (by decide)) (by decide) rfl (hH.far _ (List.mem_of_getElem? (i:=0) rfl) 1 _ rfl rfl)) (fun x=>?_)|refine opbn ⟨tab_ok⟩ 5 [_] [.i .u8 (p.ki % 256)] (by rfl) (by rfl) (by rfl) ?_|refine opbn ⟨tab_ok⟩ 3 [_,_,_] [.i .i64 p.a,.i .i64 p.b,.i .i64 p.c] (by rfl) (by rfl) (by rfl) ?_|refine opap 0 2 (e:=5) (lo:=w.heap.size) (size:=1) (bytes:=1) (z:=.int .u8 0) (A:=rwO byteE w.heap.size x.1 8 x.2 (headL p) true) (vals:=rowsOf byteE.c (headL p)) (cells:=[.int .u8 (p.ki % 256)]) (zs:=rowsOf byteE.c (headL p++[p.ki % 256])) (n2:=9) (fun A' c'=>rwO byteE w.heap.size A' 9 c' (headL p++[p.ki % 256]) true) (by rfl) (by rfl) (by rfl) (by rfl) rfl rfl (fun w h=>h) (fun A' c' w h=>h) (fun _ _=>rfl) (by rfl) (by rfl) (by rfl) (by rfl) Tryz.underlying29 (by kernel_rfl) rfl (by decide) (by decide) (by intro u hu; simp at hu; rcases hu with rfl; rfl) (by omega) (fun w hH=>hH.upd.size) rfl (by rw [rowsOf_append]; rfl) (fun A' c'=>?_)|refine callO (f:=192) (A:=rwO byteE w.heap.size A' 9 c' (headL p++[p.ki % 256]) true) 0 (fun y:Option Addr×Nat=>.v (.slice y.1 21 y.2)) (fun y=>rwO byteE w.heap.size y.1 21 y.2 (headL p++bodyL p) true) (fun w1 hH hA=>fourT (m:=3) (ns:=[p.a,p.b,p.c]) w1 hA hH.upd.size (int_blk (hH.row 3 _ rfl rfl) rfl (by decide)) (by decide) rfl (hH.far _ (List.mem_of_getElem? (i:=0) rfl) 3 _ rfl rfl)) (fun y=>?_)|refine fin fun w' hH=>⟨y.1,y.2,rfl,Co.Hold.ob hH (A:=rwO byteE w.heap.size y.1 21 y.2 (headL p++bodyL p) true) 0 rfl,hH.upd.since⟩|refine fin_s ?_))
theorem putT (p:PktV) (h0:mayB p=true) (w:World):Calls Tryz.prog 130 #[.agg (pktC p)] w fun e w'=>∃ A' c',e=.returned (.tuple #[.slice A' (bytesOf p).length c',.bool true])∧byteE.At w.heap.size A' (bytesOf p).length c' (bytesOf p) w'∧Since w w':=by
 cases hh:p.has with
 | false =>
  have hb:bytesOf p=headL p:=by unfold bytesOf; rw [hh]; rfl
  rw [hb]
  exact putF p h0 hh w
 | true =>
  have hb:bytesOf p=headL p++bodyL p:=by unfold bytesOf; rw [hh]; rfl
  rw [hb]
  exact putH p h0 hh w
section
variable {lo n c:Nat} {A:Option Addr} {zs:List Int} {w:World}
theorem getX (h:byteE.At lo A n c zs w) (h8:n≠8) (h21:n≠21):Calls Tryz.prog 100 #[.slice A n c] w fun e w'=>e=.returned (.tuple #[.agg (pktC zeroP),.int .i64 2])∧Since w w':=by
 have e8:(n:Int)≠8:=by omega
 have e21:(n:Int)≠21:=by omega
 refine ent tab_ok [.v (.slice A n c)] Tryz.func100 Tryz.ntmps100 rfl rfl ?_
 repeat' (first | refine gs_ ?_|((conv=>whnf); first | intro b | refine br_t (bne_iff_ne.2 e8) ?_|refine br_t (bne_iff_ne.2 e21) ?_|refine fin_s ?_))
 all_goals rfl
theorem bv_head {g:Nat} {T:List Value} (hB:Blk w g 5 (el [] (cells zs).toArray T)) (hn:zs.length=n) (hl:n≤1000) (hb:∀ z∈zs,isB z):BV w (some ⟨g,0,none⟩) n zs:=by
 refine ⟨hn,by omega,hb,.inr ⟨g,0,rfl,hB.lt,fun j hj=>?_⟩⟩
 have:=range_of (l:=cells zs) hB (by
  have:=el_part (P:=[]) (S:=T) (cs:=(cells zs).toArray) (off:=0) (j:=0) (n:=(cells zs).length) (l:=cells zs) rfl (by simp) (by simp)
  exact this) rfl
 refine this j _ ?_
 rw [show cells zs=zs.map (Value.int .u8) from rfl,List.getElem?_map,List.getElem?_eq_getElem (by omega)]
 simp [List.getD,List.getElem?_eq_getElem (show j < zs.length by omega)]
theorem num2A {g c2:Nat} {T:List Value} (i:Nat) (x y:Int) (hn:zs.length=n) (hl:n≤1000) (hb:∀ z∈zs,isB z) (hp:(zs.drop i).take 2=[x,y]) (hi:i+2≤n) (hB:Blk w g 5 (el [] (cells zs).toArray T)) :
  Calls Tryz.prog 136 #[.slice (some ⟨g,0+i,none⟩) 2 c2] w fun e w'=>e=.returned (.int .i64 (num2 x y))∧Since w w' :=
 (number2T _ _ x y w (bv_part (bv_head hB hn hl hb) hi hp)).mono (by rintro e w' ⟨rfl,rfl⟩; exact ⟨rfl,Since.refl _⟩)
theorem num4A {g c2:Nat} {T:List Value} (i:Nat) (x y u v:Int) (hn:zs.length=n) (hl:n≤1000) (hb:∀ z∈zs,isB z) (hp:(zs.drop i).take 4=[x,y,u,v]) (hi:i+4≤n) (hB:Blk w g 5 (el [] (cells zs).toArray T)) :
  Calls Tryz.prog 136 #[.slice (some ⟨g,0+i,none⟩) 4 c2] w fun e w'=>e=.returned (.int .i64 (num4 x y u v))∧Since w w' :=
 (number4T _ _ x y u v w (bv_part (bv_head hB hn hl hb) hi hp)).mono (by rintro e w' ⟨rfl,rfl⟩; exact ⟨rfl,Since.refl _⟩)
theorem get8 {g:Nat} {T:List Value} (x0 x1 x2 x3 x4 x5 x6 x7:Int) (hB:Blk w g 5 (el [] (cells [x0,x1,x2,x3,x4,x5,x6,x7]).toArray T)) (hc:8≤c) (hb:∀ z∈[x0,x1,x2,x3,x4,x5,x6,x7],isB z):Calls Tryz.prog 100 #[.slice (some ⟨g,0,none⟩) 8 c] w fun e w'=>e=.returned (.tuple #[.agg (pktC (getV [x0,x1,x2,x3,x4,x5,x6,x7]).1),.int .i64 (getV [x0,x1,x2,x3,x4,x5,x6,x7]).2])∧Since w w':=by
 have b1:0≤x1∧x1 < 256:=hb x1 (by simp)
 by_cases h1:x0=1
 ·have hg:getV [x0,x1,x2,x3,x4,x5,x6,x7]=(⟨x1,num2 x2 x3,num2 x4 x5,num2 x6 x7,false,0,0,0,0⟩,0):=by simp [getV,z,h1,headP]
  rw [hg]
  refine entH tab_ok (Hold.addRow (m:=[]) (Hold.nil _ tab [] _ w) ⟨g,5,true,0,[],[.i .u8 x0,.i .u8 x1,.i .u8 x2,.i .u8 x3,.i .u8 x4,.i .u8 x5,.i .u8 x6,.i .u8 x7],T,false⟩ hB (by intro h; cases h) (by intro q hq; cases hq) (by intro A hA; cases hA)) [.s 0 0 8 c] Tryz.func100 Tryz.ntmps100 rfl rfl ?_
  repeat' (first | refine gs_ ?_|((conv=>whnf); first | intro b | refine cd (by first | decide | omega) ?_|refine bto ?_|refine bfo ?_|refine wr_i ?_|refine br_f (bne_f h1) ?_|refine And.intro ?_ ?_|refine opss ⟨tab_ok⟩ 2 4 (by rfl) (by rfl) (by rfl) (by rfl) (by rfl) (by rfl) (by rfl) (by rfl) ⟨⟨rfl,rfl⟩,by omega,by omega⟩ (by omega) ?_|refine puss ⟨tab_ok⟩ 2 4 (by rfl) (by rfl) (by rfl) (by rfl) (by rfl) (by rfl) (by rfl) (by rfl) ⟨⟨rfl,rfl⟩,by omega,by omega⟩ (by omega) ?_|refine opss ⟨tab_ok⟩ 4 6 (by rfl) (by rfl) (by rfl) (by rfl) (by rfl) (by rfl) (by rfl) (by rfl) ⟨⟨rfl,rfl⟩,by omega,by omega⟩ (by omega) ?_|refine puss ⟨tab_ok⟩ 4 6 (by rfl) (by rfl) (by rfl) (by rfl) (by rfl) (by rfl) (by rfl) (by rfl) ⟨⟨rfl,rfl⟩,by omega,by omega⟩ (by omega) ?_|refine opss ⟨tab_ok⟩ 6 8 (by rfl) (by rfl) (by rfl) (by rfl) (by rfl) (by rfl) (by rfl) (by rfl) ⟨⟨rfl,rfl⟩,by omega,by omega⟩ (by omega) ?_|refine puss ⟨tab_ok⟩ 6 8 (by rfl) (by rfl) (by rfl) (by rfl) (by rfl) (by rfl) (by rfl) (by rfl) ⟨⟨rfl,rfl⟩,by omega,by omega⟩ (by omega) ?_|refine callH (f:=136) (.i .i64 (num2 x2 x3)) (fun w hH=>num2A (n:=8) 2 x2 x3 (zs:=[x0,x1,x2,x3,x4,x5,x6,x7]) rfl (by decide) hb rfl (by decide) (hH.row 0 _ rfl rfl)) ?_|refine callH (f:=136) (.i .i64 (num2 x4 x5)) (fun w hH=>num2A (n:=8) 4 x4 x5 (zs:=[x0,x1,x2,x3,x4,x5,x6,x7]) rfl (by decide) hb rfl (by decide) (hH.row 0 _ rfl rfl)) ?_|refine callH (f:=136) (.i .i64 (num2 x6 x7)) (fun w hH=>num2A (n:=8) 6 x6 x7 (zs:=[x0,x1,x2,x3,x4,x5,x6,x7]) rfl (by decide) hb rfl (by decide) (hH.row 0 _ rfl rfl)) ?_|refine fin_s ?_))
  all_goals rfl
 ·have hg:getV [x0,x1,x2,x3,x4,x5,x6,x7]=(zeroP,2):=by simp [getV,z,h1]
  rw [hg]
  refine entH tab_ok (Hold.addRow (m:=[]) (Hold.nil _ tab [] _ w) ⟨g,5,true,0,[],[.i .u8 x0,.i .u8 x1,.i .u8 x2,.i .u8 x3,.i .u8 x4,.i .u8 x5,.i .u8 x6,.i .u8 x7],T,false⟩ hB (by intro h; cases h) (by intro q hq; cases hq) (by intro A hA; cases hA)) [.s 0 0 8 c] Tryz.func100 Tryz.ntmps100 rfl rfl ?_
  repeat' (first | refine gs_ ?_|((conv=>whnf); first | intro b | refine cd (by first | decide | omega) ?_|refine bto ?_|refine bfo ?_|refine wr_i ?_|refine br_t (bne_iff_ne.2 h1) ?_|refine fin_s ?_))
  all_goals rfl
theorem getV21 {zs:List Int} (hl:zs.length=21) (h1:z zs 0=1):getV zs=if ¬ (1≤z zs 8∧z zs 8≤16) then (zeroP,4) else if mayB (bodyP zs)=true then (bodyP zs,0) else (zeroP,2):=by
 unfold getV; rw [if_neg (by simp [hl,h1]),if_neg (by omega)]
set_option maxHeartbeats 2000000 in
theorem get21 {g:Nat} {T:List Value} (x0 x1 x2 x3 x4 x5 x6 x7 x8 x9 x10 x11 x12 x13 x14 x15 x16 x17 x18 x19 x20:Int) (hB:Blk w g 5 (el [] (cells [x0,x1,x2,x3,x4,x5,x6,x7,x8,x9,x10,x11,x12,x13,x14,x15,x16,x17,x18,x19,x20]).toArray T)) (hc:21≤c) (hb:∀ z∈[x0,x1,x2,x3,x4,x5,x6,x7,x8,x9,x10,x11,x12,x13,x14,x15,x16,x17,x18,x19,x20],isB z):Calls Tryz.prog 100 #[.slice (some ⟨g,0,none⟩) 21 c] w fun e w'=>e=.returned (.tuple #[.agg (pktC (getV [x0,x1,x2,x3,x4,x5,x6,x7,x8,x9,x10,x11,x12,x13,x14,x15,x16,x17,x18,x19,x20]).1),.int .i64 (getV [x0,x1,x2,x3,x4,x5,x6,x7,x8,x9,x10,x11,x12,x13,x14,x15,x16,x17,x18,x19,x20]).2])∧Since w w':=by
 have b1:0≤x1∧x1 < 256:=hb x1 (by simp)
 have b8:0≤x8∧x8 < 256:=hb x8 (by simp)
 by_cases h1:x0=1
 case neg =>
  have hg:getV [x0,x1,x2,x3,x4,x5,x6,x7,x8,x9,x10,x11,x12,x13,x14,x15,x16,x17,x18,x19,x20]=(zeroP,2):=by simp [getV,z,h1]
  rw [hg]
  refine entH tab_ok (Hold.addRow (m:=[]) (Hold.nil _ tab [] _ w) ⟨g,5,true,0,[],[.i .u8 x0,.i .u8 x1,.i .u8 x2,.i .u8 x3,.i .u8 x4,.i .u8 x5,.i .u8 x6,.i .u8 x7,.i .u8 x8,.i .u8 x9,.i .u8 x10,.i .u8 x11,.i .u8 x12,.i .u8 x13,.i .u8 x14,.i .u8 x15,.i .u8 x16,.i .u8 x17,.i .u8 x18,.i .u8 x19,.i .u8 x20],T,false⟩ hB (by intro h; cases h) (by intro q hq; cases hq) (by intro A hA; cases hA)) [.s 0 0 21 c] Tryz.func100 Tryz.ntmps100 rfl rfl ?_
  repeat' (first | refine gs_ ?_|((conv=>whnf); first | intro b | refine cd (by first | decide | omega) ?_|refine bto ?_|refine bfo ?_|refine wr_i ?_|refine br_t (bne_iff_ne.2 h1) ?_|refine fin_s ?_))
  all_goals rfl
 cases h2:decide (1≤x8∧x8≤16) with
 | false =>
  have h3:=of_decide_eq_false h2
  have hg:getV [x0,x1,x2,x3,x4,x5,x6,x7,x8,x9,x10,x11,x12,x13,x14,x15,x16,x17,x18,x19,x20]=(zeroP,4):=(getV21 (zs:=[x0,x1,x2,x3,x4,x5,x6,x7,x8,x9,x10,x11,x12,x13,x14,x15,x16,x17,x18,x19,x20]) rfl h1).trans (if_pos h3)
  rw [hg]
  refine entH tab_ok (Hold.addRow (m:=[]) (Hold.nil _ tab [] _ w) ⟨g,5,true,0,[],[.i .u8 x0,.i .u8 x1,.i .u8 x2,.i .u8 x3,.i .u8 x4,.i .u8 x5,.i .u8 x6,.i .u8 x7,.i .u8 x8,.i .u8 x9,.i .u8 x10,.i .u8 x11,.i .u8 x12,.i .u8 x13,.i .u8 x14,.i .u8 x15,.i .u8 x16,.i .u8 x17,.i .u8 x18,.i .u8 x19,.i .u8 x20],T,false⟩ hB (by intro h; cases h) (by intro q hq; cases hq) (by intro A hA; cases hA)) [.s 0 0 21 c] Tryz.func100 Tryz.ntmps100 rfl rfl ?_
  repeat' (first | refine gs_ ?_|((conv=>whnf); first | intro b | refine cd (by first | decide | omega) ?_|refine bto ?_|refine bfo ?_|refine wr_i ?_|refine br_f (bne_f h1) ?_|refine And.intro ?_ ?_|refine opss ⟨tab_ok⟩ 2 4 (by rfl) (by rfl) (by rfl) (by rfl) (by rfl) (by rfl) (by rfl) (by rfl) ⟨⟨rfl,rfl⟩,by omega,by omega⟩ (by omega) ?_|refine puss ⟨tab_ok⟩ 2 4 (by rfl) (by rfl) (by rfl) (by rfl) (by rfl) (by rfl) (by rfl) (by rfl) ⟨⟨rfl,rfl⟩,by omega,by omega⟩ (by omega) ?_|refine opss ⟨tab_ok⟩ 4 6 (by rfl) (by rfl) (by rfl) (by rfl) (by rfl) (by rfl) (by rfl) (by rfl) ⟨⟨rfl,rfl⟩,by omega,by omega⟩ (by omega) ?_|refine puss ⟨tab_ok⟩ 4 6 (by rfl) (by rfl) (by rfl) (by rfl) (by rfl) (by rfl) (by rfl) (by rfl) ⟨⟨rfl,rfl⟩,by omega,by omega⟩ (by omega) ?_|refine opss ⟨tab_ok⟩ 6 8 (by rfl) (by rfl) (by rfl) (by rfl) (by rfl) (by rfl) (by rfl) (by rfl) ⟨⟨rfl,rfl⟩,by omega,by omega⟩ (by omega) ?_|refine puss ⟨tab_ok⟩ 6 8 (by rfl) (by rfl) (by rfl) (by rfl) (by rfl) (by rfl) (by rfl) (by rfl) ⟨⟨rfl,rfl⟩,by omega,by omega⟩ (by omega) ?_|refine opss ⟨tab_ok⟩ 9 13 (by rfl) (by rfl) (by rfl) (by rfl) (by rfl) (by rfl) (by rfl) (by rfl) ⟨⟨rfl,rfl⟩,by omega,by omega⟩ (by omega) ?_|refine puss ⟨tab_ok⟩ 9 13 (by rfl) (by rfl) (by rfl) (by rfl) (by rfl) (by rfl) (by rfl) (by rfl) ⟨⟨rfl,rfl⟩,by omega,by omega⟩ (by omega) ?_|refine opss ⟨tab_ok⟩ 13 17 (by rfl) (by rfl) (by rfl) (by rfl) (by rfl) (by rfl) (by rfl) (by rfl) ⟨⟨rfl,rfl⟩,by omega,by omega⟩ (by omega) ?_|refine puss ⟨tab_ok⟩ 13 17 (by rfl) (by rfl) (by rfl) (by rfl) (by rfl) (by rfl) (by rfl) (by rfl) ⟨⟨rfl,rfl⟩,by omega,by omega⟩ (by omega) ?_|refine opss ⟨tab_ok⟩ 17 21 (by rfl) (by rfl) (by rfl) (by rfl) (by rfl) (by rfl) (by rfl) (by rfl) ⟨⟨rfl,rfl⟩,by omega,by omega⟩ (by omega) ?_|refine puss ⟨tab_ok⟩ 17 21 (by rfl) (by rfl) (by rfl) (by rfl) (by rfl) (by rfl) (by rfl) (by rfl) ⟨⟨rfl,rfl⟩,by omega,by omega⟩ (by omega) ?_|refine callH (f:=136) (.i .i64 (num2 x2 x3)) (fun w hH=>num2A (n:=21) 2 x2 x3 (zs:=[x0,x1,x2,x3,x4,x5,x6,x7,x8,x9,x10,x11,x12,x13,x14,x15,x16,x17,x18,x19,x20]) rfl (by decide) hb rfl (by decide) (hH.row 0 _ rfl rfl)) ?_|refine callH (f:=136) (.i .i64 (num2 x4 x5)) (fun w hH=>num2A (n:=21) 4 x4 x5 (zs:=[x0,x1,x2,x3,x4,x5,x6,x7,x8,x9,x10,x11,x12,x13,x14,x15,x16,x17,x18,x19,x20]) rfl (by decide) hb rfl (by decide) (hH.row 0 _ rfl rfl)) ?_|refine callH (f:=136) (.i .i64 (num2 x6 x7)) (fun w hH=>num2A (n:=21) 6 x6 x7 (zs:=[x0,x1,x2,x3,x4,x5,x6,x7,x8,x9,x10,x11,x12,x13,x14,x15,x16,x17,x18,x19,x20]) rfl (by decide) hb rfl (by decide) (hH.row 0 _ rfl rfl)) ?_|refine callH (f:=136) (.i .i64 (num4 x9 x10 x11 x12)) (fun w hH=>num4A (n:=21) 9 x9 x10 x11 x12 (zs:=[x0,x1,x2,x3,x4,x5,x6,x7,x8,x9,x10,x11,x12,x13,x14,x15,x16,x17,x18,x19,x20]) rfl (by decide) hb rfl (by decide) (hH.row 0 _ rfl rfl)) ?_|refine callH (f:=136) (.i .i64 (num4 x13 x14 x15 x16)) (fun w hH=>num4A (n:=21) 13 x13 x14 x15 x16 (zs:=[x0,x1,x2,x3,x4,x5,x6,x7,x8,x9,x10,x11,x12,x13,x14,x15,x16,x17,x18,x19,x20]) rfl (by decide) hb rfl (by decide) (hH.row 0 _ rfl rfl)) ?_|refine callH (f:=136) (.i .i64 (num4 x17 x18 x19 x20)) (fun w hH=>num4A (n:=21) 17 x17 x18 x19 x20 (zs:=[x0,x1,x2,x3,x4,x5,x6,x7,x8,x9,x10,x11,x12,x13,x14,x15,x16,x17,x18,x19,x20]) rfl (by decide) hb rfl (by decide) (hH.row 0 _ rfl rfl)) ?_|refine callH (f:=137) (.b false) (fun w hH=>knownV x8 _ w h2) ?_|refine fin_s ?_))
  all_goals rfl
 | true =>
  have h3:=of_decide_eq_true h2
  cases h4:mayB ⟨x1,num2 x2 x3,num2 x4 x5,num2 x6 x7,true,x8,num4 x9 x10 x11 x12,num4 x13 x14 x15 x16,num4 x17 x18 x19 x20⟩ with
  | false =>
   have hg:getV [x0,x1,x2,x3,x4,x5,x6,x7,x8,x9,x10,x11,x12,x13,x14,x15,x16,x17,x18,x19,x20]=(zeroP,2):=(getV21 (zs:=[x0,x1,x2,x3,x4,x5,x6,x7,x8,x9,x10,x11,x12,x13,x14,x15,x16,x17,x18,x19,x20]) rfl h1).trans ((if_neg (fun k=>k h3)).trans (if_neg (by rw [show bodyP [x0,x1,x2,x3,x4,x5,x6,x7,x8,x9,x10,x11,x12,x13,x14,x15,x16,x17,x18,x19,x20]=⟨x1,num2 x2 x3,num2 x4 x5,num2 x6 x7,true,x8,num4 x9 x10 x11 x12,num4 x13 x14 x15 x16,num4 x17 x18 x19 x20⟩ from rfl,h4]; decide)))
   rw [hg]
   refine entH tab_ok (Hold.addRow (m:=[]) (Hold.nil _ tab [] _ w) ⟨g,5,true,0,[],[.i .u8 x0,.i .u8 x1,.i .u8 x2,.i .u8 x3,.i .u8 x4,.i .u8 x5,.i .u8 x6,.i .u8 x7,.i .u8 x8,.i .u8 x9,.i .u8 x10,.i .u8 x11,.i .u8 x12,.i .u8 x13,.i .u8 x14,.i .u8 x15,.i .u8 x16,.i .u8 x17,.i .u8 x18,.i .u8 x19,.i .u8 x20],T,false⟩ hB (by intro h; cases h) (by intro q hq; cases hq) (by intro A hA; cases hA)) [.s 0 0 21 c] Tryz.func100 Tryz.ntmps100 rfl rfl ?_
   repeat' (first | refine gs_ ?_|((conv=>whnf); first | intro b | refine cd (by first | decide | omega) ?_|refine bto ?_|refine bfo ?_|refine wr_i ?_|refine br_f (bne_f h1) ?_|refine And.intro ?_ ?_|refine opss ⟨tab_ok⟩ 2 4 (by rfl) (by rfl) (by rfl) (by rfl) (by rfl) (by rfl) (by rfl) (by rfl) ⟨⟨rfl,rfl⟩,by omega,by omega⟩ (by omega) ?_|refine puss ⟨tab_ok⟩ 2 4 (by rfl) (by rfl) (by rfl) (by rfl) (by rfl) (by rfl) (by rfl) (by rfl) ⟨⟨rfl,rfl⟩,by omega,by omega⟩ (by omega) ?_|refine opss ⟨tab_ok⟩ 4 6 (by rfl) (by rfl) (by rfl) (by rfl) (by rfl) (by rfl) (by rfl) (by rfl) ⟨⟨rfl,rfl⟩,by omega,by omega⟩ (by omega) ?_|refine puss ⟨tab_ok⟩ 4 6 (by rfl) (by rfl) (by rfl) (by rfl) (by rfl) (by rfl) (by rfl) (by rfl) ⟨⟨rfl,rfl⟩,by omega,by omega⟩ (by omega) ?_|refine opss ⟨tab_ok⟩ 6 8 (by rfl) (by rfl) (by rfl) (by rfl) (by rfl) (by rfl) (by rfl) (by rfl) ⟨⟨rfl,rfl⟩,by omega,by omega⟩ (by omega) ?_|refine puss ⟨tab_ok⟩ 6 8 (by rfl) (by rfl) (by rfl) (by rfl) (by rfl) (by rfl) (by rfl) (by rfl) ⟨⟨rfl,rfl⟩,by omega,by omega⟩ (by omega) ?_|refine opss ⟨tab_ok⟩ 9 13 (by rfl) (by rfl) (by rfl) (by rfl) (by rfl) (by rfl) (by rfl) (by rfl) ⟨⟨rfl,rfl⟩,by omega,by omega⟩ (by omega) ?_|refine puss ⟨tab_ok⟩ 9 13 (by rfl) (by rfl) (by rfl) (by rfl) (by rfl) (by rfl) (by rfl) (by rfl) ⟨⟨rfl,rfl⟩,by omega,by omega⟩ (by omega) ?_|refine opss ⟨tab_ok⟩ 13 17 (by rfl) (by rfl) (by rfl) (by rfl) (by rfl) (by rfl) (by rfl) (by rfl) ⟨⟨rfl,rfl⟩,by omega,by omega⟩ (by omega) ?_|refine puss ⟨tab_ok⟩ 13 17 (by rfl) (by rfl) (by rfl) (by rfl) (by rfl) (by rfl) (by rfl) (by rfl) ⟨⟨rfl,rfl⟩,by omega,by omega⟩ (by omega) ?_|refine opss ⟨tab_ok⟩ 17 21 (by rfl) (by rfl) (by rfl) (by rfl) (by rfl) (by rfl) (by rfl) (by rfl) ⟨⟨rfl,rfl⟩,by omega,by omega⟩ (by omega) ?_|refine puss ⟨tab_ok⟩ 17 21 (by rfl) (by rfl) (by rfl) (by rfl) (by rfl) (by rfl) (by rfl) (by rfl) ⟨⟨rfl,rfl⟩,by omega,by omega⟩ (by omega) ?_|refine callH (f:=136) (.i .i64 (num2 x2 x3)) (fun w hH=>num2A (n:=21) 2 x2 x3 (zs:=[x0,x1,x2,x3,x4,x5,x6,x7,x8,x9,x10,x11,x12,x13,x14,x15,x16,x17,x18,x19,x20]) rfl (by decide) hb rfl (by decide) (hH.row 0 _ rfl rfl)) ?_|refine callH (f:=136) (.i .i64 (num2 x4 x5)) (fun w hH=>num2A (n:=21) 4 x4 x5 (zs:=[x0,x1,x2,x3,x4,x5,x6,x7,x8,x9,x10,x11,x12,x13,x14,x15,x16,x17,x18,x19,x20]) rfl (by decide) hb rfl (by decide) (hH.row 0 _ rfl rfl)) ?_|refine callH (f:=136) (.i .i64 (num2 x6 x7)) (fun w hH=>num2A (n:=21) 6 x6 x7 (zs:=[x0,x1,x2,x3,x4,x5,x6,x7,x8,x9,x10,x11,x12,x13,x14,x15,x16,x17,x18,x19,x20]) rfl (by decide) hb rfl (by decide) (hH.row 0 _ rfl rfl)) ?_|refine callH (f:=136) (.i .i64 (num4 x9 x10 x11 x12)) (fun w hH=>num4A (n:=21) 9 x9 x10 x11 x12 (zs:=[x0,x1,x2,x3,x4,x5,x6,x7,x8,x9,x10,x11,x12,x13,x14,x15,x16,x17,x18,x19,x20]) rfl (by decide) hb rfl (by decide) (hH.row 0 _ rfl rfl)) ?_|refine callH (f:=136) (.i .i64 (num4 x13 x14 x15 x16)) (fun w hH=>num4A (n:=21) 13 x13 x14 x15 x16 (zs:=[x0,x1,x2,x3,x4,x5,x6,x7,x8,x9,x10,x11,x12,x13,x14,x15,x16,x17,x18,x19,x20]) rfl (by decide) hb rfl (by decide) (hH.row 0 _ rfl rfl)) ?_|refine callH (f:=136) (.i .i64 (num4 x17 x18 x19 x20)) (fun w hH=>num4A (n:=21) 17 x17 x18 x19 x20 (zs:=[x0,x1,x2,x3,x4,x5,x6,x7,x8,x9,x10,x11,x12,x13,x14,x15,x16,x17,x18,x19,x20]) rfl (by decide) hb rfl (by decide) (hH.row 0 _ rfl rfl)) ?_|refine callH (f:=137) (.b true) (fun w hH=>knownV x8 _ w h2) ?_|refine callH (f:=138) (.b false) (fun w hH=>goodV ⟨x1,num2 x2 x3,num2 x4 x5,num2 x6 x7,true,x8,num4 x9 x10 x11 x12,num4 x13 x14 x15 x16,num4 x17 x18 x19 x20⟩ _ w h4) ?_|refine fin_s ?_))
   all_goals rfl
  | true =>
   have hg:getV [x0,x1,x2,x3,x4,x5,x6,x7,x8,x9,x10,x11,x12,x13,x14,x15,x16,x17,x18,x19,x20]=(⟨x1,num2 x2 x3,num2 x4 x5,num2 x6 x7,true,x8,num4 x9 x10 x11 x12,num4 x13 x14 x15 x16,num4 x17 x18 x19 x20⟩,0):=(getV21 (zs:=[x0,x1,x2,x3,x4,x5,x6,x7,x8,x9,x10,x11,x12,x13,x14,x15,x16,x17,x18,x19,x20]) rfl h1).trans ((if_neg (fun k=>k h3)).trans (if_pos (by rw [show bodyP [x0,x1,x2,x3,x4,x5,x6,x7,x8,x9,x10,x11,x12,x13,x14,x15,x16,x17,x18,x19,x20]=⟨x1,num2 x2 x3,num2 x4 x5,num2 x6 x7,true,x8,num4 x9 x10 x11 x12,num4 x13 x14 x15 x16,num4 x17 x18 x19 x20⟩ from rfl,h4])))
   rw [hg]
   refine entH tab_ok (Hold.addRow (m:=[]) (Hold.nil _ tab [] _ w) ⟨g,5,true,0,[],[.i .u8 x0,.i .u8 x1,.i .u8 x2,.i .u8 x3,.i .u8 x4,.i .u8 x5,.i .u8 x6,.i .u8 x7,.i .u8 x8,.i .u8 x9,.i .u8 x10,.i .u8 x11,.i .u8 x12,.i .u8 x13,.i .u8 x14,.i .u8 x15,.i .u8 x16,.i .u8 x17,.i .u8 x18,.i .u8 x19,.i .u8 x20],T,false⟩ hB (by intro h; cases h) (by intro q hq; cases hq) (by intro A hA; cases hA)) [.s 0 0 21 c] Tryz.func100 Tryz.ntmps100 rfl rfl ?_
   repeat' (first | refine gs_ ?_|((conv=>whnf); first | intro b | refine cd (by first | decide | omega) ?_|refine bto ?_|refine bfo ?_|refine wr_i ?_|refine br_f (bne_f h1) ?_|refine And.intro ?_ ?_|refine opss ⟨tab_ok⟩ 2 4 (by rfl) (by rfl) (by rfl) (by rfl) (by rfl) (by rfl) (by rfl) (by rfl) ⟨⟨rfl,rfl⟩,by omega,by omega⟩ (by omega) ?_|refine puss ⟨tab_ok⟩ 2 4 (by rfl) (by rfl) (by rfl) (by rfl) (by rfl) (by rfl) (by rfl) (by rfl) ⟨⟨rfl,rfl⟩,by omega,by omega⟩ (by omega) ?_|refine opss ⟨tab_ok⟩ 4 6 (by rfl) (by rfl) (by rfl) (by rfl) (by rfl) (by rfl) (by rfl) (by rfl) ⟨⟨rfl,rfl⟩,by omega,by omega⟩ (by omega) ?_|refine puss ⟨tab_ok⟩ 4 6 (by rfl) (by rfl) (by rfl) (by rfl) (by rfl) (by rfl) (by rfl) (by rfl) ⟨⟨rfl,rfl⟩,by omega,by omega⟩ (by omega) ?_|refine opss ⟨tab_ok⟩ 6 8 (by rfl) (by rfl) (by rfl) (by rfl) (by rfl) (by rfl) (by rfl) (by rfl) ⟨⟨rfl,rfl⟩,by omega,by omega⟩ (by omega) ?_|refine puss ⟨tab_ok⟩ 6 8 (by rfl) (by rfl) (by rfl) (by rfl) (by rfl) (by rfl) (by rfl) (by rfl) ⟨⟨rfl,rfl⟩,by omega,by omega⟩ (by omega) ?_|refine opss ⟨tab_ok⟩ 9 13 (by rfl) (by rfl) (by rfl) (by rfl) (by rfl) (by rfl) (by rfl) (by rfl) ⟨⟨rfl,rfl⟩,by omega,by omega⟩ (by omega) ?_|refine puss ⟨tab_ok⟩ 9 13 (by rfl) (by rfl) (by rfl) (by rfl) (by rfl) (by rfl) (by rfl) (by rfl) ⟨⟨rfl,rfl⟩,by omega,by omega⟩ (by omega) ?_|refine opss ⟨tab_ok⟩ 13 17 (by rfl) (by rfl) (by rfl) (by rfl) (by rfl) (by rfl) (by rfl) (by rfl) ⟨⟨rfl,rfl⟩,by omega,by omega⟩ (by omega) ?_|refine puss ⟨tab_ok⟩ 13 17 (by rfl) (by rfl) (by rfl) (by rfl) (by rfl) (by rfl) (by rfl) (by rfl) ⟨⟨rfl,rfl⟩,by omega,by omega⟩ (by omega) ?_|refine opss ⟨tab_ok⟩ 17 21 (by rfl) (by rfl) (by rfl) (by rfl) (by rfl) (by rfl) (by rfl) (by rfl) ⟨⟨rfl,rfl⟩,by omega,by omega⟩ (by omega) ?_|refine puss ⟨tab_ok⟩ 17 21 (by rfl) (by rfl) (by rfl) (by rfl) (by rfl) (by rfl) (by rfl) (by rfl) ⟨⟨rfl,rfl⟩,by omega,by omega⟩ (by omega) ?_|refine callH (f:=136) (.i .i64 (num2 x2 x3)) (fun w hH=>num2A (n:=21) 2 x2 x3 (zs:=[x0,x1,x2,x3,x4,x5,x6,x7,x8,x9,x10,x11,x12,x13,x14,x15,x16,x17,x18,x19,x20]) rfl (by decide) hb rfl (by decide) (hH.row 0 _ rfl rfl)) ?_|refine callH (f:=136) (.i .i64 (num2 x4 x5)) (fun w hH=>num2A (n:=21) 4 x4 x5 (zs:=[x0,x1,x2,x3,x4,x5,x6,x7,x8,x9,x10,x11,x12,x13,x14,x15,x16,x17,x18,x19,x20]) rfl (by decide) hb rfl (by decide) (hH.row 0 _ rfl rfl)) ?_|refine callH (f:=136) (.i .i64 (num2 x6 x7)) (fun w hH=>num2A (n:=21) 6 x6 x7 (zs:=[x0,x1,x2,x3,x4,x5,x6,x7,x8,x9,x10,x11,x12,x13,x14,x15,x16,x17,x18,x19,x20]) rfl (by decide) hb rfl (by decide) (hH.row 0 _ rfl rfl)) ?_|refine callH (f:=136) (.i .i64 (num4 x9 x10 x11 x12)) (fun w hH=>num4A (n:=21) 9 x9 x10 x11 x12 (zs:=[x0,x1,x2,x3,x4,x5,x6,x7,x8,x9,x10,x11,x12,x13,x14,x15,x16,x17,x18,x19,x20]) rfl (by decide) hb rfl (by decide) (hH.row 0 _ rfl rfl)) ?_|refine callH (f:=136) (.i .i64 (num4 x13 x14 x15 x16)) (fun w hH=>num4A (n:=21) 13 x13 x14 x15 x16 (zs:=[x0,x1,x2,x3,x4,x5,x6,x7,x8,x9,x10,x11,x12,x13,x14,x15,x16,x17,x18,x19,x20]) rfl (by decide) hb rfl (by decide) (hH.row 0 _ rfl rfl)) ?_|refine callH (f:=136) (.i .i64 (num4 x17 x18 x19 x20)) (fun w hH=>num4A (n:=21) 17 x17 x18 x19 x20 (zs:=[x0,x1,x2,x3,x4,x5,x6,x7,x8,x9,x10,x11,x12,x13,x14,x15,x16,x17,x18,x19,x20]) rfl (by decide) hb rfl (by decide) (hH.row 0 _ rfl rfl)) ?_|refine callH (f:=137) (.b true) (fun w hH=>knownV x8 _ w h2) ?_|refine callH (f:=138) (.b true) (fun w hH=>goodV ⟨x1,num2 x2 x3,num2 x4 x5,num2 x6 x7,true,x8,num4 x9 x10 x11 x12,num4 x13 x14 x15 x16,num4 x17 x18 x19 x20⟩ _ w h4) ?_|refine fin_s ?_))
   all_goals rfl
theorem getT (h:byteE.At lo A n c zs w) (hn:zs.length=n) (hb:∀ z∈zs,isB z):Calls Tryz.prog 100 #[.slice A n c] w fun e w'=>e=.returned (.tuple #[.agg (pktC (getV zs).1),.int .i64 (getV zs).2])∧Since w w':=by
 have open_:0 < n→∃ (g:Nat) (T:List Value),A=some ⟨g,0,none⟩∧n≤c∧Blk w g 5 (el [] (cells zs).toArray T):=fun h0=>by
  have h:=byte_own.1 h
  rcases own_at h with ⟨_,e,_⟩ | ⟨g,cur,e1,e2,e3,e4,e5,e6,e7⟩
  ·omega
  ·refine ⟨g,cur.toList.drop n,e1,e4, ?_⟩
   have:el [] (cells zs).toArray (cur.toList.drop n)=cur:=by
    have e7:cur.toList.take n=cells zs:=by simpa using e7
    simp only [el,List.nil_append,← e7,List.take_append_drop,Array.toArray_toList]
   rw [this]; exact e3
 by_cases h8:n=8
 ·subst h8
  obtain ⟨g,T,rfl,hc,hB⟩:=open_ (by omega)
  match zs,hn,hb,hB with
  | [x0,x1,x2,x3,x4,x5,x6,x7],_,hb,hB=>exact get8 x0 x1 x2 x3 x4 x5 x6 x7 hB hc hb
 by_cases h21:n=21
 ·subst h21
  obtain ⟨g,T,rfl,hc,hB⟩:=open_ (by omega)
  match zs,hn,hb,hB with
  | [x0,x1,x2,x3,x4,x5,x6,x7,x8,x9,x10,x11,x12,x13,x14,x15,x16,x17,x18,x19,x20],_,hb,hB=>exact get21 x0 x1 x2 x3 x4 x5 x6 x7 x8 x9 x10 x11 x12 x13 x14 x15 x16 x17 x18 x19 x20 hB hc hb
 have hg:getV zs=(zeroP,2):=by unfold getV; rw [if_pos (.inl ⟨by omega,by omega⟩)]
 rw [hg]
 exact getX h h8 h21
end
end Mg
namespace Cm
open Byt (isB)
def po:BitVec 32:=0xedb88320#32
def zst (c:BitVec 32):BitVec 32:=if c.getLsbD 0=true then (c >>> 1) ^^^ po else c >>> 1
def bst (c:BitVec 32) (x:Bool):BitVec 32:=if (c.getLsbD 0 ^^ x)=true then (c >>> 1) ^^^ po else c >>> 1
def zn:Nat→BitVec 32→BitVec 32
 | 0,c=>c
 | n+1,c=>zst (zn n c)
theorem zst_zero:zst 0#32=0#32:=by decide
theorem zn_zero (n:Nat):zn n 0#32=0#32:=by
 induction n with
 | zero=>rfl
 | succ n ih=>show zst (zn n 0#32)=_; rw [ih,zst_zero]
theorem zst_xor (a b:BitVec 32):zst (a ^^^ b)=zst a ^^^ zst b:=by
 unfold zst
 rw [BitVec.getLsbD_xor,BitVec.ushiftRight_xor_distrib]
 cases a.getLsbD 0 <;> cases b.getLsbD 0 <;> simp
 ·ac_rfl
 ·ac_rfl
 ·have:(a >>> 1 ^^^ po) ^^^ (b >>> 1 ^^^ po)=(a >>> 1 ^^^ b >>> 1) ^^^ (po ^^^ po):=by ac_rfl
  rw [this]; simp
theorem zn_xor (n:Nat) (a b:BitVec 32):zn n (a ^^^ b)=zn n a ^^^ zn n b:=by
 induction n with
 | zero=>rfl
 | succ n ih=>show zst (zn n _)=zst (zn n a) ^^^ zst (zn n b); rw [ih,zst_xor]
def b32 (x:Bool):BitVec 32:=if x=true then 1#32 else 0#32
theorem bst_eq (c:BitVec 32) (x:Bool):bst c x=zst (c ^^^ b32 x):=by
 unfold bst zst b32
 cases x
 ·simp
 ·have e:(c ^^^ 1#32) >>> 1=c >>> 1:=by
   rw [BitVec.ushiftRight_xor_distrib]
   have:(1#32 >>> 1)=0#32:=by decide
   rw [this]; simp
  have h1:(1#32).getLsbD 0=true:=by decide
  simp only [if_true,BitVec.getLsbD_xor,e,h1]
set_option maxRecDepth 100000 in
theorem zn_one:∀ n:Fin 32,zn n.val (1#32 <<< n.val)=1#32:=by decide
theorem zn_bit (n:Nat) (h:n < 32) (x:Bool):zn n (b32 x <<< n)=b32 x:=by
 cases x
 ·show zn n (0#32 <<< n)=0#32
  rw [BitVec.zero_shiftLeft,zn_zero]
 ·exact zn_one ⟨n,h⟩
def low (t:BitVec 32) (n:Nat):BitVec 32:=t &&& BitVec.ofNat 32 (2 ^ n - 1)
theorem low_get (t:BitVec 32) (n i:Nat) (hi:i < 32):(low t n).getLsbD i=(t.getLsbD i && decide (i < n)):=by
 unfold low
 rw [BitVec.getLsbD_and]
 congr 1
 rw [BitVec.getLsbD_ofNat,Nat.testBit_two_pow_sub_one]
 simp [hi]
theorem low_succ (t:BitVec 32) (n:Nat) (hn:n < 32):low t (n+1)=low t n ^^^ (b32 (t.getLsbD n) <<< n):=by
 apply BitVec.eq_of_getLsbD_eq
 intro i hi
 rw [BitVec.getLsbD_xor,low_get _ _ _ hi,low_get _ _ _ hi,BitVec.getLsbD_shiftLeft]
 unfold b32
 by_cases h1:i < n
 ·have h2:i < n+1:=by omega
  simp [h1,h2]
 ·by_cases h2:i=n
  ·subst h2
   cases h3:t.getLsbD i <;> simp [hi]
  ·have h3:¬ i < n+1:=by omega
   have h4:i - n≠0:=by omega
   cases h5:t.getLsbD n <;> simp [h1,h3,h4]
def run (c t:BitVec 32):Nat→BitVec 32
 | 0=>c
 | n+1=>bst (run c t n) (t.getLsbD n)
theorem run_eq (c t:BitVec 32) (n:Nat) (h:n≤32):run c t n=zn n (c ^^^ low t n):=by
 induction n with
 | zero=>simp [run,zn,low]
 | succ n ih =>
  show bst (run c t n) (t.getLsbD n)=zst (zn n _)
  rw [bst_eq,ih (by omega),low_succ t n (by omega),← BitVec.xor_assoc,zn_xor n _ (b32 _ <<< n),zn_bit n (by omega)]
def runF (c:BitVec 32) (f:Nat→Bool):Nat→BitVec 32
 | 0=>c
 | n+1=>bst (runF c f n) (f n)
theorem runF_run (c t:BitVec 32) (n:Nat):runF c t.getLsbD n=run c t n:=by
 induction n with
 | zero=>rfl
 | succ n ih=>show bst _ _=bst _ _; rw [ih]
theorem runF_congr (c:BitVec 32) (f g:Nat→Bool) (n:Nat) (h:∀ i,i < n→f i=g i):runF c f n=runF c g n:=by
 induction n with
 | zero=>rfl
 | succ n ih=>show bst _ _=bst _ _; rw [ih fun i hi=>h i (by omega),h n (by omega)]
def byS (c:BitVec 32) (z:Int):BitVec 32:=zn 8 (c ^^^ BitVec.ofInt 32 z)
theorem byS_run (c:BitVec 32) (z:Nat) (h:z < 256):byS c z=runF c (fun i=>z.testBit i) 8:=by
 unfold byS
 have e:low (BitVec.ofNat 32 z) 8=BitVec.ofNat 32 z:=by
  apply BitVec.eq_of_getLsbD_eq
  intro i hi
  rw [low_get _ _ _ hi,BitVec.getLsbD_ofNat]
  by_cases h8:i < 8
  ·simp [h8]
  ·have:z.testBit i=false:=Nat.testBit_lt_two_pow (Nat.lt_of_lt_of_le h (by
    have:2 ^ 8≤2 ^ i:=Nat.pow_le_pow_right (by omega) (by omega)
    simpa using this))
   simp [this]
 rw [BitVec.ofInt_natCast,← e,← run_eq _ _ 8 (by omega),← runF_run]
 apply runF_congr
 intro i hi
 rw [BitVec.getLsbD_ofNat]
 have:i < 32:=by omega
 simp [this]
def crcF (c:BitVec 32) (l:List Int):BitVec 32:=l.foldl byS c
def crcZ (l:List Int):BitVec 32 := ~~~ (crcF (~~~ 0#32) l)
def crcN (l:List Int):Int:=((crcZ l).toNat:Int)
theorem crcN_lo (l:List Int):0≤crcN l:=by unfold crcN; omega
theorem crcN_hi (l:List Int):crcN l < 4294967296:=by unfold crcN; have:=(crcZ l).isLt; omega
theorem crcF_append (c:BitVec 32) (l m:List Int):crcF c (l++m)=crcF (crcF c l) m:=by unfold crcF; rw [List.foldl_append]
theorem crcF_snoc (c:BitVec 32) (l:List Int) (z:Int):crcF c (l++[z])=byS (crcF c l) z:=by rw [crcF_append]; rfl
end Cm
namespace Fm
open Byt (isB)
open Cm
def be4 (n:Int):List Int:=[n / 16777216 % 256,n / 65536 % 256,n / 256 % 256,n % 256]
def hd (zs:List Int):List Int:=165::((zs.length:Int) % 256)::zs
def frm (zs:List Int):List Int:=hd zs++be4 (crcN (hd zs))
theorem frm_length (zs:List Int):(frm zs).length=zs.length+6:=by simp [frm,hd,be4]
theorem be4_isB (n:Int):∀ z∈be4 n,isB z:=by
 intro z hz
 simp only [be4,List.mem_cons,List.not_mem_nil,or_false] at hz
 unfold isB
 rcases hz with rfl | rfl | rfl | rfl <;> omega
theorem hd_isB {zs:List Int} (h:∀ z∈zs,isB z):∀ z∈hd zs,isB z:=by
 intro z hz
 simp only [hd,List.mem_cons] at hz
 rcases hz with rfl | rfl | hz
 ·unfold isB; omega
 ·unfold isB; omega
 ·exact h z hz
theorem frm_isB {zs:List Int} (h:∀ z∈zs,isB z):∀ z∈frm zs,isB z:=by
 intro z hz
 rcases List.mem_append.1 hz with h1 | h1
 ·exact hd_isB h z h1
 ·exact be4_isB _ z h1
def nextF:List Int→Option (List Int)×List Int
 | []=>(none,[])
 | x::r =>
  if x≠165 then nextF r
  else if r=[] then (none,x::r)
  else if r.getD 0 0 < 1∨64 < r.getD 0 0 then nextF r
  else if r.length < (r.getD 0 0).toNat+5 then (none,x::r)
  else if (x::r).take ((r.getD 0 0).toNat+6)=frm (r.tail.take (r.getD 0 0).toNat) then
   (some (r.tail.take (r.getD 0 0).toNat),(x::r).drop ((r.getD 0 0).toNat+6))
  else nextF r
theorem nextF_some:∀ (l p rest:List Int),nextF l=(some p,rest)→1≤p.length∧p.length≤64∧∃ i,l.drop i=frm p++rest
 | [],_,_,h=>by simp [nextF] at h
 | x::r,p,rest,h=>by
  have up:nextF r=(some p,rest)→1≤p.length∧p.length≤64∧∃ i,(x::r).drop i=frm p++rest:=fun h'=>by
   obtain ⟨h1,h2,i,hi⟩:=nextF_some r p rest h'
   exact ⟨h1,h2,i+1,by simpa using hi⟩
  rw [nextF] at h
  by_cases c1:x≠165
  ·rw [if_pos c1] at h; exact up h
  rw [if_neg c1] at h
  by_cases c2:r=[]
  ·rw [if_pos c2] at h; simp at h
  rw [if_neg c2] at h
  by_cases c3:r.getD 0 0 < 1∨64 < r.getD 0 0
  ·rw [if_pos c3] at h; exact up h
  rw [if_neg c3] at h
  by_cases c4:r.length < (r.getD 0 0).toNat+5
  ·rw [if_pos c4] at h; simp at h
  rw [if_neg c4] at h
  by_cases c5:(x::r).take ((r.getD 0 0).toNat+6)=frm (r.tail.take (r.getD 0 0).toNat)
  ·rw [if_pos c5] at h
   simp only [Prod.mk.injEq,Option.some.injEq] at h
   obtain ⟨rfl,rfl⟩:=h
   have hl:(r.tail.take (r.getD 0 0).toNat).length=(r.getD 0 0).toNat:=by
    rw [List.length_take,List.length_tail]; omega
   refine ⟨by omega,by omega,0, ?_⟩
   rw [← c5,List.drop_zero,List.take_append_drop]
  ·rw [if_neg c5] at h; exact up h
theorem nextF_less (l p rest:List Int) (h:nextF l=(some p,rest)):rest.length+p.length+6≤l.length:=by
 obtain ⟨_,_,i,hi⟩:=nextF_some l p rest h
 have:=congrArg List.length hi
 rw [List.length_drop,List.length_append,frm_length] at this
 omega
theorem nextF_end:∀ (l:List Int),∃ i,(nextF l).2=l.drop i
 | []=>⟨0,by simp [nextF]⟩
 | x::r=>by
  obtain ⟨i,hi⟩:=nextF_end r
  have up:∃ j,(nextF r).2=(x::r).drop j:=⟨i+1,by simpa using hi⟩
  rw [nextF]
  by_cases c1:x≠165
  ·rw [if_pos c1]; exact up
  rw [if_neg c1]
  by_cases c2:r=[]
  ·rw [if_pos c2]; exact ⟨0,rfl⟩
  rw [if_neg c2]
  by_cases c3:r.getD 0 0 < 1∨64 < r.getD 0 0
  ·rw [if_pos c3]; exact up
  rw [if_neg c3]
  by_cases c4:r.length < (r.getD 0 0).toNat+5
  ·rw [if_pos c4]; exact ⟨0,rfl⟩
  rw [if_neg c4]
  by_cases c5:(x::r).take ((r.getD 0 0).toNat+6)=frm (r.tail.take (r.getD 0 0).toNat)
  ·rw [if_pos c5]; exact ⟨_,rfl⟩
  ·rw [if_neg c5]; exact up
def framesN:Nat→List Int→List (List Int)×List Int
 | 0,l=>([],l)
 | n+1,l=>match nextF l with
  | (none,rest)=>([],rest)
  | (some p,rest)=>(p::(framesN n rest).1,(framesN n rest).2)
def frames (l:List Int):List (List Int)×List Int:=framesN (l.length+1) l
theorem framesN_any:∀ (n m:Nat) (l:List Int),l.length < n→l.length < m→framesN n l=framesN m l
 | 0,_,_,h,_=>by omega
 | _+1,0,_,_,h=>by omega
 | n+1,m+1,l,hn,hm=>by
  rw [framesN,framesN]
  match e:nextF l with
  | (none,rest)=>rfl
  | (some p,rest) =>
   have:=nextF_less l p rest e
   simp only [framesN_any n m rest (by omega) (by omega)]
theorem frames_none (l rest:List Int) (h:nextF l=(none,rest)):frames l=([],rest):=by
 unfold frames; rw [framesN,h]
theorem frames_some (l p rest:List Int) (h:nextF l=(some p,rest)):frames l=(p::(frames rest).1,(frames rest).2):=by
 have:=nextF_less l p rest h
 unfold frames
 rw [framesN,h]
 simp only [framesN_any l.length (rest.length+1) rest (by omega) (by omega)]
inductive G:List (List Int)→List Int→Prop
 | nil:G [] []
 | cons (p:List Int) (ps:List (List Int)) (j y:List Int) (hj:∀ z∈j,z≠165) (h1:1≤p.length) (h2:p.length≤64) (hy:G ps y):G (p::ps) (j++frm p++y)
end Fm
namespace Cw
open Go.RowKit
open Cm Byt
theorem ret_int {k:IntKind} {a b:Int} (h:a=b):Ending.returned (.int k a)=.returned (.int k b):=by rw [h]
theorem bit_c (X:BitVec 32):(bits .and .u32 (X.toNat:Int) 1 == 1)=X.getLsbD 0:=by
 have h:=u32_and_nat X.toNat 1 X.isLt (by omega)
 rw [show ((1:Nat):Int)=1 from rfl] at h
 rw [h,Nat.and_one_is_mod]
 have e:X.getLsbD 0=decide (X.toNat % 2=1):=by
  rw [BitVec.getLsbD,Nat.testBit_zero]
 rw [e]
 by_cases h1:X.toNat % 2=1
 ·simp [h1]
 ·have h2:X.toNat % 2=0:=by omega
  simp [h2]
theorem bit_z (z:Int) (h:isB z) (j:Nat):(bits .and .u8 (z / 2 ^ j) 1 == 1)=z.toNat.testBit j:=by
 obtain ⟨Z,rfl⟩:=Int.eq_ofNat_of_zero_le h.1
 have hz:=h.2
 have e:((Z:Int) / 2 ^ j)=((Z / 2 ^ j:Nat):Int):=by simp
 have hlt:Z / 2 ^ j < 256:=Nat.lt_of_le_of_lt (Nat.div_le_self _ _) (by omega)
 have h2:=u8_and_nat (Z / 2 ^ j) 1 hlt (by omega)
 rw [show ((1:Nat):Int)=1 from rfl] at h2
 rw [e,h2,Nat.and_one_is_mod,Int.toNat_natCast,Nat.testBit_eq_decide_div_mod_eq]
 by_cases h1:Z / 2 ^ j % 2=1
 ·simp [h1]
 ·have h3:Z / 2 ^ j % 2=0:=by omega
  simp [h3]
theorem half (X:BitVec 32):HDiv.hDiv (α:=Int) (X.toNat:Int) (2:Int)=((X >>> 1).toNat:Int):=by
 rw [BitVec.toNat_ushiftRight,Nat.shiftRight_eq_div_pow]; simp
theorem half_po (X:BitVec 32):bits .xor .u32 (HDiv.hDiv (α:=Int) (X.toNat:Int) (2:Int)) 3988292384=((X >>> 1 ^^^ po).toNat:Int):=by
 rw [half]
 have h:=u32_xor_nat (X >>> 1).toNat 3988292384 (X >>> 1).isLt (by omega)
 rw [show ((3988292384:Nat):Int)=3988292384 from rfl] at h
 rw [h,BitVec.toNat_xor]; rfl
theorem not_max (X:BitVec 32):bits .xor .u32 IntKind.u32.max (X.toNat:Int)=((~~~X).toNat:Int):=by
 have h:=u32_xor_nat 4294967295 X.toNat (by omega) X.isLt
 have e:IntKind.u32.max=((4294967295:Nat):Int):=by decide
 rw [e,h]
 have e2 : ~~~X=4294967295#32 ^^^ X:=by
  have h1:(4294967295#32)=BitVec.allOnes 32:=by decide
  rw [h1,BitVec.allOnes_xor]
 rw [e2,BitVec.toNat_xor]; rfl
theorem bst_f (X:BitVec 32) (x:Bool) (h:(X.getLsbD 0 ^^ x)=false):(X.toNat:Int) / 2=((bst X x).toNat:Int):=by
 unfold bst; rw [h]; exact half X
theorem bst_t (X:BitVec 32) (x:Bool) (h:(X.getLsbD 0 ^^ x)=true):bits .xor .u32 ((X.toNat:Int) / 2) 3988292384=((bst X x).toNat:Int):=by
 unfold bst; rw [h]; exact half_po X
def acc (zs:List Int) (k:Nat):BitVec 32:=crcF (~~~ 0#32) (zs.take k)
def accb (zs:List Int) (k j:Nat):BitVec 32:=runF (acc zs k) (fun i=>(zs.getD k 0).toNat.testBit i) j
theorem acc_succ (zs:List Int) (k:Nat) (h:k < zs.length) (hB:∀ z∈zs,isB z):acc zs (k+1)=accb zs k 8:=by
 unfold acc accb
 rw [List.take_succ_eq_append_getElem h,crcF_snoc]
 have hz:=hB _ (List.getElem_mem h)
 have hg:zs.getD k 0=zs[k]:=by simp [List.getD,h]
 rw [hg]
 generalize zs[k]=z at hz
 obtain ⟨Z,rfl⟩:=Int.eq_ofNat_of_zero_le hz.1
 have:=hz.2
 exact byS_run _ Z (by omega)
set_option maxHeartbeats 1000000 in
theorem crcR (a:Option Addr) (n cap:Nat) (zs:List Int) (w:World) (h:BV w a n zs) :
  Calls Tryz.prog 48 #[.slice a n cap] w fun e w'=>e=.returned (.int .u32 (crcN zs))∧w=w':=by
 obtain ⟨hl,hn,hB,hr⟩:=h
 rcases hr with h0 | ⟨b,off,rfl,_,hc⟩
 ·subst h0
  obtain rfl:zs=[]:=List.eq_nil_of_length_eq_zero hl
  go_enter Tryz.func48,Tryz.ntmps48
  go_wp2
  go_loop [3,4] (fun c i=>c=.int .u32 4294967295∧i=.int .i64 0) (fun _ _=>0)
  case atStart=>exact ⟨rfl,rfl⟩
  case round =>
   obtain ⟨rfl,rfl⟩:=hrel
   go_wp2
   go_ret
   exact ⟨congrArg Ending.returned (by kernel_rfl),rfl⟩
 ·have HL:=Lib.hid hl
  clear hl
  have HC:=Lib.hid hc
  clear hc
  go_enter Tryz.func48,Tryz.ntmps48
  go_wp2
  go_loop [3,4,5,6] (fun c i _ _=>∃ k:Nat,k≤n∧i=.int .i64 k∧c=.int .u32 ((acc zs k).toNat:Int)) (fun _ i _ _=>n - (intOf i).toNat)
  case atStart=>exact ⟨0,by omega,rfl,rfl⟩
  case round =>
   obtain ⟨k,hk,rfl,rfl⟩:=hrel
   by_cases hlt:k < n
   ·have hcell:=HC.out k hlt
    have hz:isB (zs.getD k 0):=by
     have hk':k < zs.length:=by have:=HL.out; omega
     have hg:zs.getD k 0=zs[k]:=by simp [List.getD,hk']
     rw [hg]; exact hB _ (List.getElem_mem _)
    have HZ:=Lib.hid hz
    clear hz
    generalize hzd:zs.getD k 0=z at hcell HZ
    have HD:=Lib.hid hzd
    clear hzd
    go_wp2
    go_loop [3,5,6] (fun c i _=>∃ j:Nat,j≤8∧i=.int .i64 j∧c=.int .u32 ((accb zs k j).toNat:Int)) (fun _ i _=>8 - (intOf i).toNat)
    case atStart=>exact ⟨0,by omega,rfl,rfl⟩
    case round =>
     obtain ⟨j,hj,rfl,rfl⟩:=hrel
     by_cases hlj:j < 8
     ·have hx:=(accb zs k j).isLt
      have b1:=bit_c (accb zs k j)
      have b2:=bit_z z HZ.out j
      have HN:Hid (accb zs k (j+1)=bst (accb zs k j) (z.toNat.testBit j)):=Lib.hid (by
       show bst (accb zs k j) ((zs.getD k 0).toNat.testBit j)=_
       rw [HD.out])
      generalize accb zs k j=X at hx b1 HN ⊢
      generalize hT:z.toNat.testBit j=t at b2 HN
      have HT':=Lib.hid hT
      clear hT
      cases hb:X.getLsbD 0 <;> cases ht:t
      ·rw [hb] at b1
       rw [ht] at b2
       have HB:=Lib.hid hb
       have HT:=Lib.hid ht
       clear hb ht
       go_wp2
       go_round
       case rel=>exact ⟨j+1,by omega,by go_num,congrArg (Value.int .u32) (by rw [HN.out]; exact bst_f X _ (by rw [HB.out,HT.out]; rfl))⟩
       case measure=>simp [intOf]; omega
      ·rw [hb] at b1
       rw [ht] at b2
       have HB:=Lib.hid hb
       have HT:=Lib.hid ht
       clear hb ht
       go_wp2
       go_round
       case rel=>exact ⟨j+1,by omega,by go_num,congrArg (Value.int .u32) (by rw [HN.out]; exact bst_t X _ (by rw [HB.out,HT.out]; rfl))⟩
       case measure=>simp [intOf]; omega
      ·rw [hb] at b1
       rw [ht] at b2
       have HB:=Lib.hid hb
       have HT:=Lib.hid ht
       clear hb ht
       go_wp2
       go_round
       case rel=>exact ⟨j+1,by omega,by go_num,congrArg (Value.int .u32) (by rw [HN.out]; exact bst_t X _ (by rw [HB.out,HT.out]; rfl))⟩
       case measure=>simp [intOf]; omega
      ·rw [hb] at b1
       rw [ht] at b2
       have HB:=Lib.hid hb
       have HT:=Lib.hid ht
       clear hb ht
       go_wp2
       go_round
       case rel=>exact ⟨j+1,by omega,by go_num,congrArg (Value.int .u32) (by rw [HN.out]; exact bst_f X _ (by rw [HB.out,HT.out]; rfl))⟩
       case measure=>simp [intOf]; omega
     ·obtain rfl:j=8:=by omega
      have HN:Hid (acc zs (k+1)=accb zs k 8):=Lib.hid (acc_succ zs k (by have:=HL.out; omega) hB)
      go_wp2
      go_round
      case rel=>exact ⟨k+1,by omega,by go_num,congrArg (Value.int .u32) (by rw [HN.out])⟩
      case measure=>simp [intOf]; omega
   ·obtain rfl:k=n:=by omega
    have HF:Hid (crcZ zs = ~~~ acc zs k):=Lib.hid (by
     unfold crcZ acc
     rw [List.take_of_length_le (by have:=HL.out; omega)])
    go_wp2
    go_ret
    exact ⟨ret_int (by unfold crcN; rw [HF.out]; exact not_max _),rfl⟩
end Cw
namespace Cl
open Go.RowKit
open Cm Byt Mem Cw
def SumSaid:Prop:=∀ (a:Option Addr) (n cap:Nat) (zs:List Int) (w:World),BV w a n zs →
 Calls Tryz.prog 240 #[.slice a n cap] w fun e w'=>e=.returned (.int .u32 (crcN zs))∧Below w.heap.size w w'
def MoreSaid:Prop:=∀ (c:Int) (pre:List Int) (a:Option Addr) (n cap:Nat) (zs:List Int) (w:World),c=crcN pre→BV w a n zs →
 Calls Tryz.prog 268 #[.int .u32 c,.slice a n cap] w fun e w'=>e=.returned (.int .u32 (crcN (pre++zs)))∧Below w.heap.size w w'
theorem SumSaid.on (hS:SumSaid) (a:Option Addr) (n cap:Nat) (zs:List Int) (w:World) (h:BV w a n zs) :
  Calls Tryz.prog 240 #[.slice a n cap] w fun e w'=>e=.returned (.int .u32 (crcN zs))∧Below w.heap.size w w':=hS a n cap zs w h
end Cl
namespace Cm
open Byt (isB)
theorem zn_high (n:Nat) (c:BitVec 32) (h:∀ i,i < n→c.getLsbD i=false):zn n c=c >>> n:=by
 induction n with
 | zero=>simp [zn]
 | succ n ih =>
  show zst (zn n c)=_
  rw [ih (fun i hi=>h i (by omega))]
  have h0:(c >>> n).getLsbD 0=false:=by rw [BitVec.getLsbD_ushiftRight]; exact h n (by omega)
  unfold zst
  rw [if_neg (by rw [h0]; decide),BitVec.shiftRight_add]
theorem low_xor (c:BitVec 32):low c 8 ^^^ (c ^^^ low c 8)=c:=by
 have:low c 8 ^^^ (c ^^^ low c 8)=c ^^^ (low c 8 ^^^ low c 8):=by ac_rfl
 rw [this]; simp
theorem byS_tab (c:BitVec 32) (z:Int):byS c z=zn 8 (low c 8 ^^^ BitVec.ofInt 32 z) ^^^ c >>> 8:=by
 have hh:∀ i,i < 8→(c ^^^ low c 8).getLsbD i=false:=by
  intro i hi
  rw [BitVec.getLsbD_xor,low_get _ _ _ (by omega)]
  simp [hi]
 have hs:(c ^^^ low c 8) >>> 8=c >>> 8:=by
  apply BitVec.eq_of_getLsbD_eq
  intro i hi
  rw [BitVec.getLsbD_ushiftRight,BitVec.getLsbD_ushiftRight,BitVec.getLsbD_xor]
  by_cases h:8+i < 32
  ·rw [low_get _ _ _ h,show decide (8+i < 8)=false from decide_eq_false (by omega)]; simp only [Bool.and_false,Bool.xor_false]
  ·rw [BitVec.getLsbD_of_ge _ _ (by omega),BitVec.getLsbD_of_ge _ _ (by omega)]; rfl
 unfold byS
 have e:c ^^^ BitVec.ofInt 32 z=(low c 8 ^^^ BitVec.ofInt 32 z) ^^^ (c ^^^ low c 8):=by
  have:(low c 8 ^^^ BitVec.ofInt 32 z) ^^^ (c ^^^ low c 8)=(low c 8 ^^^ (c ^^^ low c 8)) ^^^ BitVec.ofInt 32 z:=by ac_rfl
  rw [this,low_xor]
 rw [e,zn_xor,zn_high 8 _ hh,hs]
def at8 (c:BitVec 32) (Z:Nat):Nat:=(c.toNat % 256) ^^^ Z
theorem at8_lt (c:BitVec 32) (Z:Nat) (h:Z < 256):at8 c Z < 256:=by
 have:c.toNat % 256 ^^^ Z < 2 ^ 8:=Nat.xor_lt_two_pow (by omega) (by omega)
 unfold at8; omega
theorem low_at (c:BitVec 32) (Z:Nat) (h:Z < 256):low c 8 ^^^ BitVec.ofInt 32 Z=BitVec.ofNat 32 (at8 c Z):=by
 apply BitVec.eq_of_getLsbD_eq
 intro i hi
 rw [BitVec.getLsbD_xor,low_get _ _ _ hi,BitVec.ofInt_natCast,BitVec.getLsbD_ofNat,BitVec.getLsbD_ofNat]
 unfold at8
 rw [Nat.testBit_xor,show (256:Nat)=2 ^ 8 from rfl,Nat.testBit_mod_two_pow,BitVec.getLsbD]
 simp [hi,Bool.and_comm]
def tab (n:Nat):BitVec 32:=zn 8 (BitVec.ofNat 32 n)
theorem byS_at (c:BitVec 32) (Z:Nat) (h:Z < 256):byS c (Z:Int)=tab (at8 c Z) ^^^ c >>> 8:=by
 rw [byS_tab,low_at c Z h]; rfl
theorem zst_bst (c:BitVec 32):bst c false=zst c:=by rw [bst_eq]; simp [b32]
end Cm
namespace Cl
open Go.RowKit
open Cm Mem
open Byt (BV isB)
open Cw (bit_c half half_po not_max bst_f bst_t acc acc_succ)
open Ba
set_option maxRecDepth 100000
def znb (n j:Nat):BitVec 32:=zn j (BitVec.ofNat 32 n)
set_option maxHeartbeats 1000000 in
theorem shiftedT (n:Nat) (hn:n < 256) (w:World):Calls Tryz.prog 299 #[.int .u32 (n:Int)] w fun e w'=>e=.returned (.int .u32 ((tab n).toNat:Int))∧w=w':=by
 have H0:=Lib.hid (show (n:Int)=((znb n 0).toNat:Int) by unfold znb zn; rw [BitVec.toNat_ofNat,Nat.mod_eq_of_lt (by omega)])
 have HF:=Lib.hid (show tab n=znb n 8 from rfl)
 go_enter Tryz.func299,Tryz.ntmps299
 go_wp2
 go_loop [0,4] (fun x i=>∃ j:Nat,j≤8∧i=.int .i64 j∧x=.int .u32 ((znb n j).toNat:Int)) (fun _ i=>8 - (intOf i).toNat)
 case atStart=>exact ⟨0,by omega,rfl,congrArg (Value.int .u32) H0.out⟩
 case round =>
  obtain ⟨j,hj,rfl,rfl⟩:=hrel
  by_cases hlt:j < 8
  ·have hx:=(znb n j).isLt
   have b1:=bit_c (znb n j)
   have HN:=Lib.hid (show znb n (j+1)=bst (znb n j) false by rw [zst_bst]; rfl)
   generalize znb n j=X at hx b1 HN ⊢
   cases hb:X.getLsbD 0
   ·rw [hb] at b1
    have HB:=Lib.hid hb
    clear hb
    go_wp2
    go_round
    case rel=>exact ⟨j+1,by omega,by go_num,congrArg (Value.int .u32) (by rw [HN.out]; exact bst_f X _ (by rw [HB.out]; rfl))⟩
    case measure=>simp [intOf]; omega
   ·rw [hb] at b1
    have HB:=Lib.hid hb
    clear hb
    go_wp2
    go_round
    case rel=>exact ⟨j+1,by omega,by go_num,congrArg (Value.int .u32) (by rw [HN.out]; exact bst_t X _ (by rw [HB.out]; rfl))⟩
    case measure=>simp [intOf]; omega
  ·obtain rfl:j=8:=by omega
   go_wp2
   go_ret
   exact ⟨ret_int (by rw [HF.out]),rfl⟩
def tabC (k:Nat):Array Value:=((List.range 256).map fun i=>Value.int .u32 (if i < k then ((tab i).toNat:Int) else 0)).toArray
theorem tabC_size (k:Nat):(tabC k).size=256:=by simp [tabC]
theorem tabC_get (k i:Nat) (h:i < 256):(tabC k)[i]?=some (.int .u32 (if i < k then ((tab i).toNat:Int) else 0)):=by
 unfold tabC
 simp [h]
theorem tabC_set (k:Nat) (h:k < 256):(tabC k).setIfInBounds k (.int .u32 ((tab k).toNat:Int))=tabC (k+1):=by
 apply Array.ext_getElem?
 intro i
 rw [Array.getElem?_setIfInBounds]
 by_cases hi:i < 256
 ·rw [tabC_get _ _ hi,tabC_get _ _ hi,tabC_size]
  by_cases e:k=i
  ·subst e; simp [h]
  ·rw [if_neg e]
   by_cases h1:i < k
   ·rw [if_pos h1,if_pos (by omega)]
   ·rw [if_neg h1,if_neg (by omega)]
 ·rw [Array.getElem?_eq_none (by rw [tabC_size]; omega),Array.getElem?_eq_none (by rw [tabC_size]; omega),if_neg]
  intro e; omega
theorem run_alloc_tab (w:World) (ρ:Operand→Value) (o:Oper) (ho:o.op=.alloc 299):(execOp ρ o).run Tryz.prog w=.ok (.value (.pointer (some ⟨w.heap.size,0,none⟩))) (w.alloc (.cells (tabC 0) 299)):=by
 unfold execOp
 rw [ho]
 kernel_rfl
theorem tabC_one (k:Nat):(tabC k).all (·.oneCell')=true:=by
 rw [Array.all_eq_true]
 intro i hi
 have h:=tabC_get k i (by rw [tabC_size] at hi; exact hi)
 rw [Array.getElem?_eq_getElem hi] at h
 injection h with h
 rw [h]; rfl
set_option maxHeartbeats 1000000 in
theorem stepsT (w:World):Calls Tryz.prog 288 #[] w fun e w'=>e=.returned (.agg (tabC 256))∧Since w w':=by
 go_enter Tryz.func288,Tryz.ntmps288
 go_wp2_with (first | (refine wpList_mk rfl _ _ (run_alloc_tab _ _ _ rfl) ?_)|fail)
 go_loopw [2,3] (fun _ i wr=>∃ k:Nat,k≤256∧i=.int .i64 k∧Hid (Since w wr∧Blk wr w.heap.size 299 (tabC 0)∧Blk wr (w.heap.size+1) 299 (tabC k))) (fun _ i _=>256 - (intOf i).toNat)
 case atStart=>exact ⟨0,by omega,rfl,Lib.hid ⟨sn_,(Blk.new w _ _).alloc _,by have h:=Blk.new (w.alloc (.cells (tabC 0) 299)) 299 (tabC 0); simpa using h⟩⟩
 case round =>
  obtain ⟨k,hk,rfl,HO⟩:=hrel
  by_cases hlt:k < 256
  ·obtain ⟨S,B0,B1⟩:=HO.out
   have c1:wr.cell? ⟨w.heap.size+1,k,none⟩=some (.int .u32 0):=by rw [B1.cell,tabC_get _ _ hlt,if_neg (by omega)]
   have f1:wr.frozen? ⟨w.heap.size+1,k,none⟩=false:=B1.frozen k
   have hwk:IntKind.u32.wrap (k:Int)=(k:Int):=by simp [IntKind.wrap,IntKind.bits,IntKind.signed]; omega
   have HN:=Lib.hid (show Since w (wr.setCell ⟨w.heap.size+1,k,none⟩ (.int .u32 ((tab k).toNat:Int)))∧Blk (wr.setCell ⟨w.heap.size+1,k,none⟩ (.int .u32 ((tab k).toNat:Int))) w.heap.size 299 (tabC 0)∧Blk (wr.setCell ⟨w.heap.size+1,k,none⟩ (.int .u32 ((tab k).toNat:Int))) (w.heap.size+1) 299 (tabC (k+1)) from
    ⟨S.setCell (by simp) _,B0.far (by simp) _,by rw [← tabC_set k hlt]; exact B1.set_ k _⟩)
   clear S B0 B1 HO
   go_wp2_with (first | (go_at_call 299; refine (shiftedT k hlt _).mono ?_; rintro e w' ⟨rfl,rfl⟩)|fail)
   go_roundw
   case rel=>exact ⟨k+1,by omega,by go_num,HN⟩
   case measure=>simp [intOf]; omega
  ·obtain rfl:k=256:=by omega
   obtain ⟨S,B0,B1⟩:=HO.out
   have HB0:=Lib.hid B0
   have HB1:=Lib.hid B1
   have HS:=Lib.hid S
   clear S B0 B1 HO
   go_wp2_with (first | (refine wpList_load_row rfl 299 _ rfl _ rfl 299 _ (0,0) _ HB1.out Tryz.underlying299 rfl (by rw [tabC_size]; kernel_rfl) ?_)|(refine wpList_store_row rfl 299 _ _ rfl w.heap.size (tabC 256) rfl rfl 299 _ HB0.out (by rw [tabC_size]; kernel_rfl) (by rw [tabC_size,tabC_size]) (tabC_one 256) ?_)|fail)
   exact bodyPost_ret (results_cell_row rfl _ _ w.heap.size 299 (tabC 256) (0,0) _ rfl (Blk.row HB0.out (tabC 256)) Tryz.underlying299 rfl (by rw [tabC_size]; kernel_rfl)) rfl ⟨rfl,Since.setRow HS.out (Nat.le_refl _) _⟩
theorem shr8 (X:BitVec 32):HDiv.hDiv (α:=Int) (X.toNat:Int) (256:Int)=((X >>> 8).toNat:Int):=by
 rw [BitVec.toNat_ushiftRight,Nat.shiftRight_eq_div_pow]; simp
theorem xor_tab (X Y:BitVec 32):bits .xor .u32 (X.toNat:Int) (Y.toNat:Int)=((X ^^^ Y).toNat:Int):=by
 rw [u32_xor_nat X.toNat Y.toNat X.isLt Y.isLt,BitVec.toNat_xor]
theorem at8_int (X:BitVec 32) (Z:Nat) (h:Z < 256):bits .xor .u8 ((X.toNat:Int) % 256) (Z:Int)=((at8 X Z:Nat):Int):=by
 rw [show ((X.toNat:Int) % 256)=((X.toNat % 256:Nat):Int) by simp,u8_xor_nat _ _ (by omega) h]; rfl
set_option maxHeartbeats 1000000 in
theorem moreT (C:BitVec 32) (a:Option Addr) (n cap:Nat) (zs:List Int) (w:World) (h:BV w a n zs):Calls Tryz.prog 268 #[.int .u32 (C.toNat:Int),.slice a n cap] w fun e w'=>e=.returned (.int .u32 ((~~~ (crcF (~~~ C) zs)).toNat:Int))∧Since w w':=by
 have HV:=Lib.hid h
 have hn:(n:Int)≤9223372036854775807:=by have:=h.2.1; omega
 clear h
 have HC:=Lib.hid (not_max C)
 go_enter Tryz.func268,Tryz.ntmps268
 go_wp2_with (first | (go_at_call 288; refine (stepsT _).mono ?_; rintro e w1 ⟨rfl,hb1⟩; have HB1:=Lib.hid hb1; clear hb1)|(refine wpList_mk rfl _ _ (run_alloc_tab _ _ _ rfl) ?_)|(refine wpList_store_row rfl 299 _ _ rfl w1.heap.size (tabC 256) rfl rfl 299 (tabC 0) (heap_alloc_new _ _) (by rw [tabC_size]; kernel_rfl) (by rw [tabC_size,tabC_size]) (tabC_one 256) ?_; rw [World.setRow_alloc_new])|fail)
 obtain ⟨w2,hw2⟩:∃ w2,w2=w1.alloc (.cells (tabC 256) 299):=⟨_,rfl⟩
 rw [← hw2]
 have HB2:=Lib.hid (show Blk w2 w1.heap.size 299 (tabC 256) by rw [hw2]; exact Blk.new w1 _ _)
 have HS2:=Lib.hid (show Since w w2 by rw [hw2]; exact Since.alloc HB1.out _)
 have HV2:=Lib.hid (show BV w2 a n zs from HV.out.below HS2.out)
 generalize hb:w1.heap.size=B at HB2 ⊢
 clear hw2 HB1 HV hb w1
 obtain ⟨hl,hB,hA⟩:zs.length=n∧(∀ z∈zs,isB z)∧(n=0∨∃ b off,a=some ⟨b,off,none⟩∧b < w2.heap.size∧∀ j,j < n→w2.cell? ⟨b,off+j,none⟩=some (.int .u8 (zs.getD j 0))):=⟨HV2.out.1,HV2.out.2.2.1,HV2.out.2.2.2⟩
 have HL:=Lib.hid hl
 have HZ:=Lib.hid hB
 have HA:=Lib.hid hA
 clear hl hB hA HV2
 go_loop [0,13] (fun c i=>∃ k:Nat,k≤n∧i=.int .i64 k∧c=.int .u32 ((crcF (~~~ C) (zs.take k)).toNat:Int)) (fun _ i=>n - (intOf i).toNat)
 case atStart=>exact ⟨0,by omega,rfl,congrArg (Value.int .u32) HC.out⟩
 case round =>
  obtain ⟨k,hk,rfl,rfl⟩:=hrel
  by_cases hlt:k < n
  ·have hz:isB (zs.getD k 0):=by
    have hk':k < zs.length:=by have:=HL.out; omega
    have hg:zs.getD k 0=zs[k]:=by simp [List.getD,hk']
    rw [hg]; exact HZ.out _ (List.getElem_mem _)
   have HN:=Lib.hid (show crcF (~~~ C) (zs.take (k+1))=byS (crcF (~~~ C) (zs.take k)) (zs.getD k 0) by
    have hk':k < zs.length:=by have:=HL.out; omega
    have hg:zs.getD k 0=zs[k]:=by simp [List.getD,hk']
    rw [List.take_succ_eq_append_getElem hk',crcF_snoc,hg])
   rcases HA.out with h0 | ⟨b,off,ha,hlb,hc⟩
   ·omega
   have hcell:=hc k hlt
   have HA':=Lib.hid ha
   generalize zs.getD k 0=z at hz hcell HN
   obtain ⟨Z,rfl⟩:=Int.eq_ofNat_of_zero_le hz.1
   have hZ:Z < 256:=by have:=hz.2; omega
   have HZ0:=Lib.hid (byS_at (crcF (~~~ C) (zs.take k)) Z hZ)
   generalize crcF (~~~ C) (zs.take k)=X at HN HZ0 ⊢
   have hx:=X.isLt
   have hq:=at8_lt X Z hZ
   have hi:=at8_int X Z hZ
   generalize at8 X Z=q at hq hi HZ0
   have ht:w2.cell? ⟨B,q,none⟩=some (.int .u32 ((tab q).toNat:Int)):=by rw [HB2.out.cell,tabC_get _ _ hq,if_pos hq]
   have hx2:bits .xor .u32 ((tab q).toNat:Int) ((X.toNat:Int) / 256)=((tab q ^^^ X >>> 8).toNat:Int):=by rw [shr8,xor_tab]
   subst ha
   clear hc hz hlb
   go_wp2
   go_round
   case rel=>exact ⟨k+1,by omega,by go_num,congrArg (Value.int .u32) (by rw [HN.out,HZ0.out,BitVec.toNat_xor,BitVec.toNat_ushiftRight])⟩
   case measure=>simp [intOf]; omega
  ·obtain rfl:k=n:=by omega
   have HF:=Lib.hid (show zs.take k=zs from List.take_of_length_le (by have:=HL.out; omega))
   go_wp2
   go_ret
   exact ⟨ret_int (by rw [HF.out,not_max]; simp),HS2.out⟩
theorem more_said:MoreSaid:=fun c pre a n cap zs w hc h=>by
 subst hc
 refine (moreT (crcZ pre) a n cap zs w h).mono ?_
 rintro e w' ⟨rfl,hb⟩
 refine ⟨ret_int ?_,hb⟩
 unfold crcN crcZ
 rw [crcF_append]
 simp
theorem sum_said:SumSaid:=fun a n cap zs w h=>by
 go_enter Tryz.func240,Tryz.ntmps240
 go_wp2_with (first | (go_at_call 268; refine (more_said 0 [] _ _ _ zs _ (by decide +kernel) h).mono ?_; rintro e w1 ⟨rfl,hb1⟩)|fail)
 go_ret
 exact ⟨rfl,hb1⟩
end Cl
namespace Fq
open Go.RowKit Ba Mem Cm Fm
open En (tab tab_ok SV St Asr Row Cx den denL Hold ent entH sgo br_not br_t br_f br_dec br_b fin_s fin_r fin_e)
open Go.Proofs.YtepfmfalebmcnaaGreatDoor.Byt (BV isB cells)
set_option maxRecDepth 100000
attribute [local irreducible] Go.wpList
theorem sumT (a:Option Addr) (n cap:Nat) (zs:List Int) (w:World) (h:BV w a n zs):Calls Tryz.prog 240 #[.slice a n cap] w fun e w'=>e=.returned (.int .u32 (crcN zs))∧Since w w':=Cl.SumSaid.on Cl.sum_said a n cap zs w h
theorem bv_reads {w:World} {A:Option Addr} {n:Nat} {zs:List Int} (h:BV w A n zs):Reads w w.heap.size 1 A n (cells zs):=h.reads
theorem cells_app (x y:List Int):cells x++cells y=cells (x++y):=(Byt.cells_append x y).symm
def okN (n:Int):Bool:=decide (1≤n∧n≤64)
theorem countedV (n:Int) (b:Bool) (w:World) (hb:okN n=b):Calls Tryz.prog 193 #[.int .i64 n] w fun e w'=>e=.returned (.bool b)∧Since w w':=by
 subst hb
 unfold okN
 refine ent tab_ok [.i .i64 n] Tryz.func193 Tryz.ntmps193 rfl rfl ?_
 repeat' (first | refine gq_ ?_|((conv=>whnf); first | refine b3_ (fun h=>?_) (fun h=>?_)|refine fin_s ?_))
 all_goals (simp only [den]; congr 1; first | (symm; apply decide_eq_false; omega)|(apply decide_eq_decide.2; omega))
theorem bv_cell {w:World} {ad:Addr} {n:Nat} {zs:List Int} (h:BV w (some ad) n zs):∀ j v,(cells zs)[j]?=some v→w.cell? (ad.add j)=some v:=fun j v hj=>by
 have hl:=h.1
 have hj2:j < zs.length:=by have:=(List.getElem?_eq_some_iff.1 hj).1; simpa [cells] using this
 obtain ⟨ad',e,_,hc⟩:=(bv_reads h).2 (by omega)
 injection e with e
 subst e
 exact hc j v hj
theorem Byt.cells_length (zs:List Int):(cells zs).length=zs.length:=by simp [cells]
set_option maxHeartbeats 4000000 in
theorem sealedT (ad:Addr) (n c:Nat) (zs:List Int) (w:World) (hb:BV w (some ad) n zs) (h1:1≤n) (h2:n≤1000) (hc:n≤c):Calls Tryz.prog 194 #[.slice (some ad) n c] w fun e w'=>∃ A' c',e=.returned (.slice A' (n+4) c')∧w'.ownsRow w.heap.size 5 1 (.slice A' (n+4) c') (n+4) (cells (zs++be4 (crcN zs)))∧Since w w':=by
 have HB0:=Lib.hid hb
 have HB:=Lib.hid hb
 have HCAP:=Lib.hid hc
 clear hc
 clear hb
 have H1:=Lib.hid h1
 clear h1
 have H2:=Lib.hid h2
 clear h2
 go_enter Tryz.func194,Tryz.ntmps194
 go_upto_region 1 with fail
 have HS1:=Lib.hid (Since.refl w)
 refine wp_region_lit ?_
 refine tkL (.slice (some ad) n c) (h:=?_)
 try simp only[Act.put,sA,sB,sC]
 refine wpList_wp (by rfl) (fun K hK=>?_)
 (try go_simp)
 refine (sumT (some ad) n c zs _ HB.out).mono ?_
 rintro e w2 ⟨rfl,hb⟩
 (try go_wp2_with fail)
 refine hK.out _ _ ?_
 clear hK K
 try simp only[Act.put,sA,sB,sC]
 have HS2:=Lib.hid (Since.trans HS1.out hb)
 have HFbv2:=Lib.hid (keep_bv hb HB.out)
 clear HS1 HB
 clear hb
 refine tkL (.int .u32 (crcN zs)) (h:=?_)
 try simp only[Act.put,sA,sB,sC]
 refine wpList_nil ?_
 go_upto_region 2 with fail
 refine wp_region_lit ?_
 refine tkL (.slice (some ad) n c) (h:=?_)
 try simp only[Act.put,sA,sB,sC]
 refine tkL (.slice (some ad) n c) (h:=?_)
 try simp only[Act.put,sA,sB,sC]
 refine tkL (.int .i64 (n:Int)) (h:=?_)
 try simp only[Act.put,sA,sB,sC]
 refine tkL (.slice (some ad) n c) (h:=?_)
 try simp only[Act.put,sA,sB,sC]
 refine tkL (.int .i64 (n:Int)) (h:=?_)
 try simp only[Act.put,sA,sB,sC]
 refine wpList_q (by rfl) (.slice (some ad) n n) ?he ?_
 case he=>exact exec_slice (s:=1) 29 5 _ _ _ _ rfl rfl Tryz.underlying29 (by kernel_rfl) (sb_hm _ _ _ (h:=n) (m:=n) rfl rfl (Nat.le_refl _) HCAP.out) (by split <;> simp [Addr.add]) rfl rfl
 try simp only[Act.put,sA,sB,sC]
 refine tkL (.slice (some ad) n n) (h:=?_)
 try simp only[Act.put,sA,sB,sC]
 refine wpList_nil ?_
 go_upto_region 3 with fail
 refine wp_region_lit ?_
 refine tkL (.slice (some ad) n n) (h:=?_)
 try simp only[Act.put,sA,sB,sC]
 refine tkL (.int .u32 (crcN zs)) (h:=?_)
 try simp only[Act.put,sA,sB,sC]
 refine wpList_q (by rfl) (.int .u32 (crcN zs / 16777216)) ?he ?_
 case he=>(go_simp; (first | done | rfl | (simp; done)))
 try simp only[Act.put,sA,sB,sC]
 refine wpList_q (by rfl) (.int .u8 (crcN zs / 16777216 % 256)) ?he ?_
 case he=>(go_simp; (first | done | rfl | (simp; done)))
 try simp only[Act.put,sA,sB,sC]
 refine tkL (.int .u32 (crcN zs)) (h:=?_)
 try simp only[Act.put,sA,sB,sC]
 refine wpList_q (by rfl) (.int .u32 (crcN zs / 65536)) ?he ?_
 case he=>(go_simp; (first | done | rfl | (simp; done)))
 try simp only[Act.put,sA,sB,sC]
 refine wpList_q (by rfl) (.int .u8 (crcN zs / 65536 % 256)) ?he ?_
 case he=>(go_simp; (first | done | rfl | (simp; done)))
 try simp only[Act.put,sA,sB,sC]
 refine tkL (.int .u32 (crcN zs)) (h:=?_)
 try simp only[Act.put,sA,sB,sC]
 refine wpList_q (by rfl) (.int .u32 (crcN zs / 256)) ?he ?_
 case he=>(go_simp; (first | done | rfl | (simp; done)))
 try simp only[Act.put,sA,sB,sC]
 refine wpList_q (by rfl) (.int .u8 (crcN zs / 256 % 256)) ?he ?_
 case he=>(go_simp; (first | done | rfl | (simp; done)))
 try simp only[Act.put,sA,sB,sC]
 refine tkL (.int .u32 (crcN zs)) (h:=?_)
 try simp only[Act.put,sA,sB,sC]
 refine wpList_q (by rfl) (.int .u8 (crcN zs % 256)) ?he ?_
 case he=>(go_simp; (first | done | rfl | (simp; done)))
 try simp only[Act.put,sA,sB,sC]
 refine wpList_wp (by rfl) (fun K hK=>?_)
 refine wp_new (fun b=>.slice (some ⟨b,0,none⟩) 4 4) 5 #[.int .u8 (crcN zs / 16777216 % 256),.int .u8 (crcN zs / 65536 % 256),.int .u8 (crcN zs / 256 % 256),.int .u8 (crcN zs % 256)] (by rintro b rfl; first | rfl | kernel_rfl) ?_
 intro bn25 w3 hge hB hb
 refine hK.out _ _ ?_
 clear hK K
 try simp only[Act.put,sA,sB,sC]
 have HGn25:=Lib.hid (show w.heap.size≤bn25 by have:=Since.size HS2.out; omega)
 have HFAn25_bv:=Lib.hid (bv_far HFbv2.out hge)
 have HS3:=Lib.hid (Since.trans HS2.out hb)
 have HFbv3:=Lib.hid (keep_bv hb HFbv2.out)
 clear HS2 HFbv2
 clear hb hge
 have HBn253:=Lib.hid hB
 clear hB
 refine wpList_wp (by rfl) (fun K hK=>?_)
 refine wp_append_full _ _ 29 rfl w.heap.size 5 (Value.int .u8 0) 1 1 Tryz.underlying29 (by kernel_rfl) rfl (by decide) ad n n (cells zs) rfl (fun j v hj=>bv_cell HFbv3.out j v hj) (by rw [Nat.mul_one,Byt.cells_length]; exact HB0.out.1) _ (some ⟨bn25,0,none⟩) 4 4 (cells (be4 (crcN zs))) rfl (reads_blk HBn253.out rfl) (by omega) (Nat.le_refl _) (by have:=H2.out; omega) (Since.size HS3.out) (n+4) (cells (zs++be4 (crcN zs))) rfl (cells_app _ _) ?_
 intro A2 c2 w4 hown hb hfar
 refine hK.out _ _ ?_
 clear hK K hfar
 try simp only[Act.put,sA,sB,sC]
 have HSz:=Lib.hid (HS3.out.trans hb)
 have HOZ:=Lib.hid hown
 clear hb hown HS3
 refine tkL (.slice A2 (n+4) c2) (h:=?_)
 try simp only[Act.put,sA,sB,sC]
 refine wpList_nil ?_
 (try go_wp2_with fail)
 go_ret
 exact ⟨A2,c2,rfl,HOZ.out,HSz.out⟩
set_option maxHeartbeats 4000000 in
theorem putNo (A:Option Addr) (n c:Nat) (zs:List Int) (w:World) (hb:BV w A n zs) (ho:okN (n:Int)=false):Calls Tryz.prog 131 #[.slice A n c] w fun e w'=>e=.returned (.tuple #[.slice none 0 0,.bool false])∧Since w w':=by
 have HB:=Lib.hid hb
 clear hb
 have HO:=Lib.hid ho
 clear ho
 go_enter Tryz.func131,Tryz.ntmps131
 go_upto_region 1 with fail
 have HS1:=Lib.hid (Since.refl w)
 refine wp_region_lit ?_
 refine tkL (.slice A n c) (h:=?_)
 try simp only[Act.put,sA,sB,sC]
 refine tkL (.int .i64 (n:Int)) (h:=?_)
 try simp only[Act.put,sA,sB,sC]
 refine wpList_wp (by rfl) (fun K hK=>?_)
 (try go_simp)
 refine (countedV (n:Int) false _ HO.out).mono ?_
 rintro e w2 ⟨rfl,hb⟩
 (try go_wp2_with fail)
 refine hK.out _ _ ?_
 clear hK K
 try simp only[Act.put,sA,sB,sC]
 have HS2:=Lib.hid (Since.trans HS1.out hb)
 clear HS1 
 clear hb
 refine wpList_q (by rfl) (.bool true) ?he ?_
 case he=>(go_simp; (try with_reducible rfl))
 try simp only[Act.put,sA,sB,sC]
 refine wpList_nil ?_
 go_upto_region 2 with fail
 refine wp_region_lit ?_
 refine tkL (.slice none 0 0) (h:=?_)
 try simp only[Act.put,sA,sB,sC]
 refine tkL (.bool false) (h:=?_)
 try simp only[Act.put,sA,sB,sC]
 refine wpList_nil ?_
 (try go_wp2_with fail)
 go_ret2
 exact ⟨rfl,HS2.out⟩
set_option maxHeartbeats 4000000 in
theorem putOk (A:Option Addr) (n c:Nat) (zs:List Int) (w:World) (hb:BV w A n zs) (ho:okN (n:Int)=true):Calls Tryz.prog 131 #[.slice A n c] w fun e w'=>∃ A' c',e=.returned (.tuple #[.slice A' (n+6) c',.bool true])∧w'.ownsRow w.heap.size 5 1 (.slice A' (n+6) c') (n+6) (cells (frm zs))∧Since w w':=by
 have HB:=Lib.hid hb
 clear hb
 have HO:=Lib.hid ho
 clear ho
 go_enter Tryz.func131,Tryz.ntmps131
 go_upto_region 1 with fail
 have HS1:=Lib.hid (Since.refl w)
 refine wp_region_lit ?_
 refine tkL (.slice A n c) (h:=?_)
 try simp only[Act.put,sA,sB,sC]
 refine tkL (.int .i64 (n:Int)) (h:=?_)
 try simp only[Act.put,sA,sB,sC]
 refine wpList_wp (by rfl) (fun K hK=>?_)
 (try go_simp)
 refine (countedV (n:Int) true _ HO.out).mono ?_
 rintro e w2 ⟨rfl,hb⟩
 (try go_wp2_with fail)
 refine hK.out _ _ ?_
 clear hK K
 try simp only[Act.put,sA,sB,sC]
 have HS2:=Lib.hid (Since.trans HS1.out hb)
 clear HS1 
 clear hb
 refine wpList_q (by rfl) (.bool false) ?he ?_
 case he=>(go_simp; (try with_reducible rfl))
 try simp only[Act.put,sA,sB,sC]
 refine wpList_nil ?_
 have HN:=Lib.hid (show 1≤n∧n≤64 by have q:=HO.out; unfold okN at q; have:=of_decide_eq_true q; omega)
 go_upto_region 3 with fail
 refine wp_region_lit ?_
 refine tkL (.slice A n c) (h:=?_)
 try simp only[Act.put,sA,sB,sC]
 refine tkL (.int .i64 (n:Int)) (h:=?_)
 try simp only[Act.put,sA,sB,sC]
 refine wpList_q (by rfl) (.int .u8 ((n:Int) % 256)) ?he ?_
 case he=>(go_simp; (first | done | rfl | (simp; done)))
 try simp only[Act.put,sA,sB,sC]
 refine wpList_wp (by rfl) (fun K hK=>?_)
 refine wp_new (fun b=>.slice (some ⟨b,0,none⟩) 2 2) 5 #[.int .u8 165,.int .u8 ((n:Int) % 256)] (by rintro b rfl; first | rfl | kernel_rfl) ?_
 intro bn12 w3 hge hB hb
 refine hK.out _ _ ?_
 clear hK K
 try simp only[Act.put,sA,sB,sC]
 have HGn12:=Lib.hid (show w.heap.size≤bn12 by have:=Since.size HS2.out; omega)
 have HS3:=Lib.hid (Since.trans HS2.out hb)
 clear HS2 
 clear hb hge
 have HBn123:=Lib.hid hB
 clear hB
 refine tkL (.slice A n c) (h:=?_)
 try simp only[Act.put,sA,sB,sC]
 refine wpList_wp (by rfl) (fun K hK=>?_)
 have HOE:=Lib.hid (own_new HBn123.out HGn12.out (by rfl) (by simp))
 clear HBn123
 refine wp_append_row (.tmp 12) (.tmp 13) 29 rfl w.heap.size 5 (Value.int .u8 0) 1 1 Tryz.underlying29 (by kernel_rfl) rfl (by decide) (by decide) (some ⟨bn12,0,none⟩) 2 2 (cells [165,(n:Int) % 256]) rfl HOE.out _ A n c (cells zs) rfl (bv_reads (keep_bv HS3.out HB.out)) (Byt.cells_one zs) (by have:=HN.out; omega) (Since.size HS3.out) (n+2) (cells (hd zs)) (by omega) (by rw [cells_app]; congr 1; unfold hd; rw [HB.out.1]; rfl) ?_
 intro A_1 c_1 w4 hown hupd hfar
 refine hK.out _ _ ?_
 clear hK K
 try simp only[Act.put,sA,sB,sC]
 have HS4:=Lib.hid (Since.upd HS3.out hupd (own_low HOE.out))
 have HFr4:=Lib.hid hown
 clear hupd hown hfar HS3 HOE
 refine tkL (.slice A_1 (n+2) c_1) (h:=?_)
 try simp only[Act.put,sA,sB,sC]
 refine wpList_nil ?_
 obtain ⟨g,hg⟩:=own_addr HFr4.out (by omega)
 subst hg
 have HBV:=Lib.hid (BV.of_own HFr4.out (hd_isB HB.out.2.2.1))
 have HCP:=Lib.hid (own_cap2 HFr4.out)
 go_upto_region 4 with fail
 refine wp_region_lit ?_
 refine tkL (.slice (some ⟨g,0,none⟩) (n+2) c_1) (h:=?_)
 try simp only[Act.put,sA,sB,sC]
 refine wpList_wp (by rfl) (fun K hK=>?_)
 (try go_simp)
 refine (sealedT ⟨g,0,none⟩ (n+2) c_1 (hd zs) _ HBV.out (by omega) (by have:=HN.out; omega) HCP.out).mono ?_
 rintro e w5 ⟨A3,c3,rfl,hown,hb⟩
 (try go_wp2_with fail)
 refine hK.out _ _ ?_
 clear hK K
 try simp only[Act.put,sA,sB,sC]
 have hown2:=own_base (lo':=w.heap.size) hown (Since.size HS4.out)
 have HS5:=Lib.hid (Since.trans HS4.out hb)
 have HFr5:=Lib.hid (keep_own hb HFr4.out)
 clear HS4 HFr4
 clear hb
 have HOZ:=Lib.hid hown2
 clear hown hown2
 refine tkL (.slice A3 (n+2+4) c3) (h:=?_)
 try simp only[Act.put,sA,sB,sC]
 refine tkL (.bool true) (h:=?_)
 try simp only[Act.put,sA,sB,sC]
 refine wpList_nil ?_
 (try go_wp2_with fail)
 go_ret2
 exact ⟨A3,c3,rfl,HOZ.out,HS5.out⟩
set_option maxHeartbeats 4000000 in
theorem cloneNil (c:Nat) (w:World):Calls Tryz.prog 135 #[.slice none 0 c] w fun e w'=>e=.returned (.slice none 0 0)∧Since w w':=by
 go_enter Tryz.func135,Tryz.ntmps135
 go_upto_region 1 with fail
 have HS1:=Lib.hid (Since.refl w)
 refine wp_region_lit ?_
 refine tkL (.slice none 0 c) (h:=?_)
 try simp only[Act.put,sA,sB,sC]
 refine tkL (.bool true) (h:=?_)
 try simp only[Act.put,sA,sB,sC]
 refine wpList_nil ?_
 go_upto_region 2 with fail
 refine wp_region_lit ?_
 refine tkL (.slice none 0 0) (h:=?_)
 try simp only[Act.put,sA,sB,sC]
 refine wpList_nil ?_
 (try go_wp2_with fail)
 go_ret
 exact ⟨rfl,HS1.out⟩
set_option maxHeartbeats 4000000 in
theorem cloneSome (ad:Addr) (n c:Nat) (zs:List Int) (w:World) (hb:BV w (some ad) n zs) (hn:n≤1000000):Calls Tryz.prog 135 #[.slice (some ad) n c] w fun e w'=>∃ A' c',e=.returned (.slice A' n c')∧w'.ownsRow w.heap.size 5 1 (.slice A' n c') n (cells zs)∧Since w w':=by
 have HB:=Lib.hid hb
 clear hb
 have HN:=Lib.hid hn
 clear hn
 go_enter Tryz.func135,Tryz.ntmps135
 go_upto_region 1 with fail
 have HS1:=Lib.hid (Since.refl w)
 refine wp_region_lit ?_
 refine tkL (.slice (some ad) n c) (h:=?_)
 try simp only[Act.put,sA,sB,sC]
 refine tkL (.bool false) (h:=?_)
 try simp only[Act.put,sA,sB,sC]
 refine wpList_nil ?_
 go_upto_region 3 with fail
 refine wp_region_lit ?_
 refine wpList_wp (by rfl) (fun K hK=>?_)
 refine wp_new (fun b=>.slice (some ⟨b,0,none⟩) 0 0) 5 #[] (by rintro b rfl; first | rfl | kernel_rfl) ?_
 intro bn5 w2 hge hB hb
 refine hK.out _ _ ?_
 clear hK K
 try simp only[Act.put,sA,sB,sC]
 have HGn5:=Lib.hid (show w.heap.size≤bn5 by have:=Since.size HS1.out; omega)
 have HS2:=Lib.hid (Since.trans HS1.out hb)
 clear HS1 
 clear hb hge
 have HBn52:=Lib.hid hB
 clear hB
 refine tkL (.slice (some ad) n c) (h:=?_)
 try simp only[Act.put,sA,sB,sC]
 refine wpList_wp (by rfl) (fun K hK=>?_)
 have HOE:=Lib.hid (own_empty (e:=5) (size:=1) HBn52.out HGn5.out)
 clear HBn52
 refine wp_append_row (.tmp 5) (.tmp 6) 29 rfl w.heap.size 5 (Value.int .u8 0) 1 1 Tryz.underlying29 (by kernel_rfl) rfl (by decide) (by decide) (some ⟨bn5,0,none⟩) 0 0 ([]) rfl HOE.out _ (some ad) n c (cells zs) rfl (bv_reads (keep_bv HS2.out HB.out)) (Byt.cells_one zs) (by have:=HN.out; omega) (Since.size HS2.out) n (cells zs) (Nat.zero_add _) rfl ?_
 intro A_1 c_1 w3 hown hupd hfar
 refine hK.out _ _ ?_
 clear hK K
 try simp only[Act.put,sA,sB,sC]
 have HS3:=Lib.hid (Since.upd HS2.out hupd (own_low HOE.out))
 have HFr3:=Lib.hid hown
 clear hupd hown hfar HS2 HOE
 refine tkL (.slice A_1 n c_1) (h:=?_)
 try simp only[Act.put,sA,sB,sC]
 refine wpList_nil ?_
 (try go_wp2_with fail)
 go_ret
 exact ⟨A_1,c_1,rfl,HFr3.out,HS3.out⟩
theorem cloneB (A:Option Addr) (n c:Nat) (zs:List Int) (w:World) (hb:BV w A n zs) (hn:n≤1000000):Calls Tryz.prog 135 #[.slice A n c] w fun e w'=>∃ A' c',e=.returned (.slice A' n c')∧w'.ownsRow w.heap.size 5 1 (.slice A' n c') n (cells zs)∧Since w w':=by
 cases A with
 | some ad=>exact cloneSome ad n c zs w hb hn
 | none =>
  have h0:n=0:=by
   rcases hb.2.2.2 with h | ⟨_,_,h,_⟩
   ·exact h
   ·cases h
  subst h0
  have hz:zs=[]:=List.eq_nil_of_length_eq_zero hb.1
  subst hz
  refine (cloneNil c w).mono ?_
  rintro e w1 ⟨rfl,hs⟩
  exact ⟨none,0,rfl,World.ownsRow_nil _ _ _ _,hs⟩
set_option maxHeartbeats 4000000 in
theorem equalYes (A:Option Addr) (n c:Nat) (A2:Option Addr) (m c2:Nat) (zs ys:List Int) (w:World) (ha:BV w A n zs) (hb:BV w A2 m ys) (he:zs=ys):Calls Tryz.prog 195 #[.slice A n c,.slice A2 m c2] w fun e w'=>e=.returned (.bool true)∧Since w w':=by
 have HA:=Lib.hid ha
 clear ha
 have HB:=Lib.hid hb
 clear hb
 have HE:=Lib.hid he
 clear he
 go_enter Tryz.func195,Tryz.ntmps195
 go_upto_region 1 with fail
 have HS1:=Lib.hid (Since.refl w)
 refine wp_region_lit ?_
 refine tkL (.slice A n c) (h:=?_)
 try simp only[Act.put,sA,sB,sC]
 refine wpList_q (by rfl) (.string (strOfNums zs)) ?he ?_
 case he=>exact exec_str 29 5 9 _ (keep_bv HS1.out HA.out) rfl rfl Tryz.underlying29 Tryz.underlying5 Tryz.underlying9
 try simp only[Act.put,sA,sB,sC]
 refine tkL (.slice A2 m c2) (h:=?_)
 try simp only[Act.put,sA,sB,sC]
 refine wpList_q (by rfl) (.string (strOfNums ys)) ?he ?_
 case he=>exact exec_str 29 5 9 _ (keep_bv HS1.out HB.out) rfl rfl Tryz.underlying29 Tryz.underlying5 Tryz.underlying9
 try simp only[Act.put,sA,sB,sC]
 refine wpList_q (by rfl) (.bool true) ?he ?_
 case he=>(have q:=HE.out; subst q; go_simp; (first | done | rfl | simp))
 try simp only[Act.put,sA,sB,sC]
 refine tkL (.bool true) (h:=?_)
 try simp only[Act.put,sA,sB,sC]
 refine wpList_nil ?_
 (try go_wp2_with fail)
 go_ret
 exact ⟨rfl,HS1.out⟩
set_option maxHeartbeats 4000000 in
theorem equalNo (A:Option Addr) (n c:Nat) (A2:Option Addr) (m c2:Nat) (zs ys:List Int) (w:World) (ha:BV w A n zs) (hb:BV w A2 m ys) (he:zs≠ys):Calls Tryz.prog 195 #[.slice A n c,.slice A2 m c2] w fun e w'=>e=.returned (.bool false)∧Since w w':=by
 have HA:=Lib.hid ha
 clear ha
 have HB:=Lib.hid hb
 clear hb
 have HE:=Lib.hid he
 clear he
 go_enter Tryz.func195,Tryz.ntmps195
 go_upto_region 1 with fail
 have HS1:=Lib.hid (Since.refl w)
 refine wp_region_lit ?_
 refine tkL (.slice A n c) (h:=?_)
 try simp only[Act.put,sA,sB,sC]
 refine wpList_q (by rfl) (.string (strOfNums zs)) ?he ?_
 case he=>exact exec_str 29 5 9 _ (keep_bv HS1.out HA.out) rfl rfl Tryz.underlying29 Tryz.underlying5 Tryz.underlying9
 try simp only[Act.put,sA,sB,sC]
 refine tkL (.slice A2 m c2) (h:=?_)
 try simp only[Act.put,sA,sB,sC]
 refine wpList_q (by rfl) (.string (strOfNums ys)) ?he ?_
 case he=>exact exec_str 29 5 9 _ (keep_bv HS1.out HB.out) rfl rfl Tryz.underlying29 Tryz.underlying5 Tryz.underlying9
 try simp only[Act.put,sA,sB,sC]
 refine wpList_q (by rfl) (.bool false) ?he ?_
 case he=>(have q:strOfNums zs≠strOfNums ys:=fun h=>HE.out ((Byt.strOfNums_eq HA.out.2.2.1 HB.out.2.2.1).1 h); have q2:(strOfNums zs == strOfNums ys)=false:=(by rw [Byt.ba_beq]; exact decide_eq_false q); go_simp; (first | done | exact q2 | rw [q2]|(exact fun h=>q (Go.WideShapes.bytes_inj (by rw [← Lib.toList_data,← Lib.toList_data]; exact h)))))
 try simp only[Act.put,sA,sB,sC]
 refine tkL (.bool false) (h:=?_)
 try simp only[Act.put,sA,sB,sC]
 refine wpList_nil ?_
 (try go_wp2_with fail)
 go_ret
 exact ⟨rfl,HS1.out⟩
end Fq
end Go.Proofs.YtepfmfalebmcnaaGreatDoor
