/-
  Wanted: GatewayStale 0.
  No condition.
-/
import Derived.Test.YtepfmfalebmcnaaGreatDoorQH0
import Derived.OpenShut
import Derived.Laws.BytesArg
import Derived.ChangeKeysEq
import Derived.Test.YtepfmfalebmcnaaGreatDoorQH3
import Derived.Great.BuildSlice
import Derived.Great.FillDense
import Derived.Test.YtepfmfalebmcnaaGreatDoorProg
import Derived.Test.YtepfmfalebmcnaaGreatDoorQH5
import Derived.Test.YtepfmfalebmcnaaGreatDoorQH6
import Derived.Test.YtepfmfalebmcnaaGreatDoorQH7
import Derived.Test.YtepfmfalebmcnaaGreatDoorQH8
import Derived.Test.YtepfmfalebmcnaaGreatDoorQH9
import Derived.Test.YtepfmfalebmcnaaGreatDoorQH10
import Derived.Test.YtepfmfalebmcnaaGreatDoorQH11
import Derived.Test.YtepfmfalebmcnaaGreatDoorQH14
import Derived.Test.YtepfmfalebmcnaaGreatDoorQH15
import Derived.Test.YtepfmfalebmcnaaGreatDoorQH16
import Derived.Test.YtepfmfalebmcnaaGreatDoorQH12
set_option linter.all false
namespace Go.Proofs.YtepfmfalebmcnaaGreatDoor
namespace Byt
open Go.RowKit
open Mem
section
variable {w w':World} {a:Option Addr} {n:Nat} {zs:List Int}
theorem BV.of_row {len cap:Nat} (h:(a=none∧len=0∧cap=0∧zs=[]) ∨
  ∃ x,a=some x∧len≤cap∧cap≤maxLen∧zs.length=cap∧(∀ i,i < zs.length→w.cell? (x.add i)=some (.int .u8 (zs.getD i 0)))∧∀ n∈zs,(Lit.int .u8 n).wf=true):BV w a len (zs.take len):=by
 rcases h with ⟨rfl,rfl,rfl,rfl⟩ | ⟨x,rfl,hlc,hm,hz,hc,hw⟩
 ·exact BV.nil _ _
 ·have hB:∀ z∈zs,isB z:=fun z hz'=>by
   have:=bounds_u8 (hw z hz')
   unfold isB; omega
  refine ⟨by rw [List.length_take]; omega,by unfold maxLen at hm; omega,fun z hz'=>hB z (List.mem_of_mem_take hz'), ?_⟩
  rcases Nat.eq_zero_or_pos len with h0 | h0
  ·exact .inl h0
  ·obtain ⟨b,off,rfl,hc'⟩:=ints_at hc (by omega)
   refine .inr ⟨b,off,rfl, ?_,fun j hj=>?_⟩
   ·have:=hc' 0 (by omega)
    exact World.block_lt_of_cell? _ _ this
   ·rw [hc' j (by omega)]
    congr 2
    simp [List.getD,List.getElem?_take,hj]
end
theorem str_tl {x y:List Int} (hx:∀ z∈x,isB z) (hy:∀ z∈y,isB z):((strOfNums x).toList == (strOfNums y).toList)=decide (y=x):=by
 rw [Bool.eq_iff_iff,beq_iff_eq,decide_eq_true_iff,ByteArray.toList_eq,ByteArray.toList_eq]
 constructor
 ·intro h; exact ((strOfNums_eq hx hy).1 (Go.WideShapes.bytes_inj h)).symm
 ·intro h; rw [h]
def Since (W W':World):Prop:=Below W.heap.size W W'
theorem Since.trans {a b c:World} (h:Since a b) (k:Below b.heap.size b c):Since a c:=Below.trans (show Below a.heap.size a b from h) (k.mono (show Below a.heap.size a b from h).size)
end Byt
namespace Ba
open Go.RowKit Mem
open Byt (BV isB cells)
def Grw (e:TypeId) (B:Nat) (w w':World):Prop:=Below B w w'∧∀ g t cs,Blk w g t cs→t≠e→Blk w' g t cs
theorem Grw.trans {e:TypeId} {B:Nat} {a b c:World} (h:Grw e B a b) (k:Grw e B b c):Grw e B a c:=⟨Below.trans h.1 k.1,fun g t cs hb ht=>k.2 g t cs (h.2 g t cs hb ht) ht⟩
theorem Grw.since {e:TypeId} {B:Nat} {a b c:World} (h:Grw e B a b) (k:Since b c) (hB:B≤b.heap.size):Grw e B a c:=⟨Below.trans h.1 (Below.mono k hB),fun g t cs hb ht=>keep_blk k (h.2 g t cs hb ht)⟩
end Ba
namespace Ba
open Go.RowKit Mem
def From (e:TypeId) (B:Nat) (w W:World):Prop:=Grw e B w W∧B≤w.heap.size
section
variable {e:TypeId} {B:Nat} {w W W':World}
theorem From.size (h:From e B w W):B≤W.heap.size:=Nat.le_trans h.2 h.1.1.size
theorem From.trans (h:From e B w W) (k:Since W W'):From e B w W':=⟨Grw.since h.1 k h.size,h.2⟩
end
end Ba
namespace En
open Go.RowKit Ba Mem
section
variable {X:Cx} {m m':List Row} {ob:List Asr} {w w':World} {s:St} {a:Act}
theorem br_eq {x y:Int} {A B:Prop} (h:x=y→A) (k:x≠y→B):Br (x == y) A B:=br_b (fun e=>h (by simpa using e)) (fun e=>k (by simpa using e))
end
end En
namespace En
open Go.RowKit Ba Mem
structure Meet (X:Cx) {ι:Type} (I:ι→St) (s:St):Prop where
 out:∃ y,Wk X s (I y)
def mtK (X:Cx) {ι:Type} (I:ι→St) (K:Exit→St→Prop) (e:Exit) (s:St):Prop :=
 match e with
 | .normal=>Meet X I s
 | e=>K e s
section
variable {X:Cx} {m m':List Row} {ob:List Asr} {w w':World} {s:St} {a:Act}
theorem ctt (hX:X.Ok) {ι:Type} (I:ι→St) {c d:Code} {K:Exit→St→Prop} (h:run X c s (mtK X I K)) (hr:∀ x,run X d (I x) K):Sm X (.seq c d) s K:=by
 refine ⟨fun a w hR=>?_⟩
 refine wp_seq (Code.wp_mono (fun e a' w' hq=>?_) ((run_of hX h).out a w hR))
 cases e with
 | normal =>
  obtain ⟨s',r',hb⟩:=hq
  obtain ⟨y,hw⟩:=hb.out
  exact (run_of hX (hr y)).out a' w' (hw.out a' w' r')
 | exit id=>exact hq
 | ret=>exact hq
 | _=>exact hq.elim
theorem meet {ι:Type} {I:ι→St} (y:ι) (h:Wk X s (I y)):Meet X I s:=⟨⟨y,h⟩⟩
end
end En
namespace Qu
open Go.RowKit Ba Mem Go.Proofs.YtepfmfalebmcnaaGreatDoor.Ty
set_option maxRecDepth 100000
attribute [local irreducible] Go.wpList
namespace CA
set_option maxHeartbeats 4000000 in
theorem cloneNil (w:World):Calls Tryz.prog 80 #[.slice none 0 0] w fun e w'=>e=.returned (.slice none 0 0)∧Since w w':=by
 go_enter Tryz.func80,Tryz.ntmps80
 go_upto_region 1 with fail
 have HS1:=Lib.hid (Since.refl w)
 refine wp_region_lit ?_
 refine tkL (.slice none 0 0) (h:=?_)
 try simp only[Act.put,sA,sB,sC]
 refine tkL (.bool true) (h:=?_)
 try simp only[Act.put,sA,sB,sC]
 refine wpList_nil ?_
 go_upto_region 2 with fail
 refine wp_region_lit ?_
 refine tkL (.slice none 0 0) (h:=?_)
 try simp only[Act.put,sA,sB,sC]
 refine wpList_nil ?_
 (try go_wp2_with fail)
 go_ret
 exact ⟨rfl,HS1.out⟩
set_option maxHeartbeats 4000000 in
theorem cloneSome (ad:Addr) (n c:Nat) (ls:List AskV) (w:World) (hR:Reads w w.heap.size 5 (some ad) n (rowsOf askC ls)) (hN:n≤1000000):Calls Tryz.prog 80 #[.slice (some ad) n c] w fun e w'=>∃ A' c',e=.returned (.slice A' n c')∧w'.ownsRow w.heap.size 69 5 (.slice A' n c') n (rowsOf askC ls)∧Since w w':=by
 have HR:=Lib.hid hR
 clear hR
 have HN:=Lib.hid hN
 clear hN
 go_enter Tryz.func80,Tryz.ntmps80
 go_upto_region 1 with fail
 have HS1:=Lib.hid (Since.refl w)
 refine wp_region_lit ?_
 refine tkL (.slice (some ad) n c) (h:=?_)
 try simp only[Act.put,sA,sB,sC]
 refine tkL (.bool false) (h:=?_)
 try simp only[Act.put,sA,sB,sC]
 refine wpList_nil ?_
 go_upto_region 3 with fail
 refine wp_region_lit ?_
 refine wpList_wp (by rfl) (fun K hK=>?_)
 refine wp_new (fun b=>.slice (some ⟨b,0,none⟩) 0 0) 69 #[] (by rintro b rfl; first | rfl | kernel_rfl) ?_
 intro bn5 w2 hge hB hb
 refine hK.out _ _ ?_
 clear hK K
 try simp only[Act.put,sA,sB,sC]
 have HGn5:=Lib.hid (show w.heap.size≤bn5 by have:=Since.size HS1.out; omega)
 have HS2:=Lib.hid (Since.trans HS1.out hb)
 clear HS1 
 clear hb hge
 have HBn52:=Lib.hid hB
 clear hB
 refine tkL (.slice (some ad) n c) (h:=?_)
 try simp only[Act.put,sA,sB,sC]
 refine wpList_wp (by rfl) (fun K hK=>?_)
 have HOE:=Lib.hid (own_empty (e:=69) (size:=5) HBn52.out HGn5.out)
 clear HBn52
 refine wp_append_row (.tmp 5) (.tmp 6) 51 rfl w.heap.size 69 (Value.agg #[.int .i64 0,.int .i64 0,.int .i64 0,.int .i64 0,.int .i64 0]) 5 40 Tryz.underlying51 (by kernel_rfl) rfl (by decide) (by decide) (some ⟨bn5,0,none⟩) 0 0 ([]) rfl HOE.out _ (some ad) n c (rowsOf askC ls) rfl (own_reads_since HS2.out (Nat.le_refl _) HR.out) (asks_one ls) (by have:=HN.out; omega) HS2.out.size n (rowsOf askC ls) (Nat.zero_add _) rfl ?_
 intro A_1 c_1 w3 hown hupd hfar
 refine hK.out _ _ ?_
 clear hK K
 try simp only[Act.put,sA,sB,sC]
 have HS3:=Lib.hid (Since.upd HS2.out hupd (own_low HOE.out))
 have HFr3:=Lib.hid hown
 clear hupd hown hfar HS2 HOE
 refine tkL (.slice A_1 n c_1) (h:=?_)
 try simp only[Act.put,sA,sB,sC]
 refine wpList_nil ?_
 (try go_wp2_with fail)
 go_ret
 exact ⟨A_1,c_1,rfl,HFr3.out,HS3.out⟩
theorem cloneT (lo:Nat) (A:Option Addr) (c:Nat) (ls:List AskV) (w:World) (hO:w.ownsRow lo 69 5 (.slice A ls.length c) ls.length (rowsOf askC ls)) (hl:ls.length≤1000000):Calls Tryz.prog 80 #[.slice A ls.length c] w fun e w'=>∃ A' c',e=.returned (.slice A' ls.length c')∧w'.ownsRow w.heap.size 69 5 (.slice A' ls.length c') ls.length (rowsOf askC ls)∧Since w w':=by
 rcases own_at hO with ⟨rfl,h0,hx⟩ | ⟨g,cur,rfl,_⟩
 ·have hc:c=0:=by
   rcases hO.2 with ⟨hv,_⟩ | ⟨_,_,_,hv,_⟩
   ·simp at hv; exact hv.2
   ·simp at hv
  subst hc
  rw [hx,h0]
  refine (cloneNil w).mono ?_
  rintro e w1 ⟨rfl,hb⟩
  exact ⟨none,0,rfl,World.ownsRow_nil _ _ _ _,hb⟩
 ·exact cloneSome _ _ c ls w (own_reads hO) hl
end CA
end Qu
namespace Qu
open Go.RowKit Ba Mem En Go.Proofs.YtepfmfalebmcnaaGreatDoor.Ty
set_option maxRecDepth 100000
attribute [local irreducible] Go.Calls
theorem listT {q lo c:Nat} {room:Int} {ls:List AskV} {A:Option Addr} (w:World) (hq:Blk w q 142 #[.int .i64 room,.slice A ls.length c]) (ho:askE.At lo A ls.length c ls w) (hl:ls.length≤1000000) :
  Calls Tryz.prog 55 #[.pointer (some ⟨q,0,none⟩)] w fun e w'=>∃ A' c',e=.returned (.slice A' ls.length c')∧askE.At w.heap.size A' ls.length c' ls w'∧Since w w':=by
 refine entH tab_ok (hold_qr hq ho) [.p 0 0] Tryz.func55 Tryz.ntmps55 rfl rfl ?_
 repeat' (first | refine gs_ ?_|((conv=>whnf); first | intro b | refine callN (f:=80) (ι:={x:Nat×Option Addr×Nat // w.heap.size≤x.1}) (fun x=>.v (.slice x.1.2.1 ls.length x.1.2.2)) (fun x=>rwO askE x.1.1 x.1.2.1 ls.length x.1.2.2 ls true) (fun w1 hH=>(CA.cloneT lo A c ls w1 (hH.obj (rwO askE lo A ls.length c ls false) (List.mem_singleton.2 rfl)) hl).mono (by rintro e w' ⟨A',c',rfl,hO,hs⟩; exact ⟨⟨(w1.heap.size,A',c'),hH.upd.size⟩,rfl,hO,hs,own_low hO⟩)) (fun x=>?_)|refine fin fun w' hH=>⟨_,_,rfl,own_base (hH.obj (rwO askE _ _ _ _ _ true) (List.mem_cons_of_mem _ (List.mem_cons_self ..))) x.2,hH.upd.since⟩|refine fin_s ?_))
attribute [local irreducible] atS oM
attribute [local irreducible] oQ atI
end Qu
namespace Co
open Go.RowKit Ba Mem En Go.Proofs.YtepfmfalebmcnaaGreatDoor.Ty Mo
open Gr (GrV GO CarsAt WaitsAt carL waitL WaitV pairO newG okT okW)
open Qu (QO askE intE askC btw)
open Le (TO)
open Fl (leaE)
open Ri (MsgV msgC)
open Et (carsO)
set_option maxRecDepth 100000
attribute [local irreducible] Go.Calls
section
variable {w:World} {lo:Nat} {p:Pt} {K:KV} {S:List Nat}
theorem BD.asks (h:BD lo p K S w) (hl:K.Q.length≤10000):Calls Tryz.prog 55 #[.pointer (some ⟨p.q,0,none⟩)] w fun e w'=>∃ A' c',e=.returned (.slice A' K.Q.length c')∧askE.At w.heap.size A' K.Q.length c' K.Q w'∧Since w w':=by
 obtain ⟨S1,S2,S3,rfl,h1,⟨_,A,c,rfl,B,O⟩,h3,d⟩:=h
 exact Qu.listT w B O (by omega)
end
end Co
namespace Co
open Go.RowKit Ba Mem En Go.Proofs.YtepfmfalebmcnaaGreatDoor.Ty Mo Go.Proofs.YtepfmfalebmcnaaGreatDoor.St
open Gr (GrV GO CarsAt WaitsAt newG okT okW waitsO tickP)
open Qu (QO askE qO)
open Le (TO tO)
open Fl (leaE)
open Ri (MsgV msgC)
open Et (carsO)
set_option maxRecDepth 100000
attribute [local irreducible] Go.Calls
section
variable {lo q:Nat} {p:Pt} {K:KV} {S:List Nat} {w:World}
theorem leasesK (h:KW lo q p K S w) (hl:K.L.length≤10000):Calls Tryz.prog 28 #[.pointer (some ⟨q,0,none⟩)] w fun e w'=>∃ A' c',e=.returned (.slice A' K.L.length c')∧leaE.At w.heap.size A' K.L.length c' K.L w'∧Since w w':=by
 obtain ⟨S0,hk,hb⟩:=h.rd
 refine entH tab_ok (hold_kr hk hb) [.p 0 0] Tryz.func28 Tryz.ntmps28 rfl rfl ?_
 repeat' (first | refine gs_ ?_|((conv=>whnf); first | intro b | refine callN (f:=54) (ι:=NrA w.heap.size) (fun x=>.v (.slice x.1.2.1 K.L.length x.1.2.2)) (fun x=>rwO leaE x.1.1 x.1.2.1 K.L.length x.1.2.2 K.L true) (fun w1 hH=>toN ((Hold.ob hH (A:=bdO lo p K S0 false) 0 rfl).leases hl) hH.upd.size) (fun x=>?_)|refine fin fun w' hH=>⟨_,_,rfl,own_base (Hold.ob hH (A:=rwO leaE x.1.1 x.1.2.1 K.L.length x.1.2.2 K.L true) 1 rfl) x.2,hH.upd.since⟩|refine fin_s ?_))
theorem queueK (h:KW lo q p K S w) (hl:K.Q.length≤10000):Calls Tryz.prog 30 #[.pointer (some ⟨q,0,none⟩)] w fun e w'=>∃ A' c',e=.returned (.slice A' K.Q.length c')∧askE.At w.heap.size A' K.Q.length c' K.Q w'∧Since w w':=by
 obtain ⟨S0,hk,hb⟩:=h.rd
 refine entH tab_ok (hold_kr hk hb) [.p 0 0] Tryz.func30 Tryz.ntmps30 rfl rfl ?_
 repeat' (first | refine gs_ ?_|((conv=>whnf); first | intro b | refine callN (f:=55) (ι:=NrA w.heap.size) (fun x=>.v (.slice x.1.2.1 K.Q.length x.1.2.2)) (fun x=>rwO askE x.1.1 x.1.2.1 K.Q.length x.1.2.2 K.Q true) (fun w1 hH=>toN ((Hold.ob hH (A:=bdO lo p K S0 false) 0 rfl).asks hl) hH.upd.size) (fun x=>?_)|refine fin fun w' hH=>⟨_,_,rfl,own_base (Hold.ob hH (A:=rwO askE x.1.1 x.1.2.1 K.Q.length x.1.2.2 K.Q true) 1 rfl) x.2,hH.upd.since⟩|refine fin_s ?_))
end
end Co
namespace En
open Go.RowKit Ba Mem
section
variable {X:Cx} {s:St} {o:Oper} {K:St→Prop} {t e:TypeId} {n:Nat} {parts:Array (Nat×Operand)}
theorem opsl (hX:X.Ok) {y y2:Ty} {x:Operand} {lo hi:Option Operand} {ad:Addr} {len cap l h1:Nat} {k1 k2:IntKind} {L H:Int} {a1 a2:Operand} (ho:o.op=.slice t x (some a1) (some a2) none) (hx:evO x s.fr=some (.v (.slice (some ad) len cap))) (h2:evO a1 s.fr=some (.i k1 L)) (h3:evO a2 s.fr=some (.i k2 H)) (hy:tyO t X.tab=some y) (hs:y.sl=true) (he:tyO y.el X.tab=some y2)
  (hb:(L=l∧H=h1)∧l≤h1∧h1≤cap) (hc:l < cap) (h:put X.n o.dst (.v (.slice (some (ad.add (l*y2.size))) (h1 - l) (cap - l))) s K):OpVC X o s K :=
 opq (.v (.slice (some (ad.add (l*y2.size))) (h1 - l) (cap - l))) (fun a w hf _=>by
  obtain ⟨d,i,T⟩:=(hX.tab _ _ hy).out
  obtain ⟨d',i',T'⟩:=(hX.tab _ _ he).out
  exact exec_slice (s:=y2.size) t y.el x (some a1) (some a2) none ho (by rw [(evO_of hf hx).2]; rfl) (by rw [T.un,T.sl hs]) (by rw [T'.inf]; simp [T'.size]) (by
   have e1:=(evO_of hf h2).2
   have e2:=(evO_of hf h3).2
   simp only [Option.map,e1,e2,den]
   exact sb_lh w k1 k2 hb.1.1 hb.1.2 hb.2.1 hb.2.2) (by rw [if_neg (by omega)]; rfl) rfl rfl) h rfl
end
end En
namespace Mg
open Byt (isB)
theorem two_back (n:Int) (h0:0≤n) (h1:n≤65535):num2 (n / 256 % 256) (n % 256)=n:=by unfold num2; omega
theorem four_back (n:Int) (h0:0≤n) (h1:n≤2147483647):num4 (n / 16777216 % 256) (n / 65536 % 256) (n / 256 % 256) (n % 256)=n:=by unfold num4; omega
theorem back (p:PktV) (h:mayB p=true):getV (bytesOf p)=(p,0):=by
 obtain ⟨se,ep,sq,ak,has,ki,a,b,c⟩:=p
 cases has
 ·rw [may_not rfl,Bool.and_eq_true] at h
  obtain ⟨h1,h2⟩:=h
  rw [head_iff] at h1
  have h2':=of_decide_eq_true h2
  simp only at h1 h2'
  obtain ⟨rfl,rfl,rfl,rfl⟩:=h2'
  unfold getV
  rw [if_neg (by simp [bytesOf,headL,z]),if_pos (by simp [bytesOf,headL])]
  simp only [headP,bytesOf,headL,z,List.getD,List.getElem?_cons_succ,List.getElem?_cons_zero,Option.getD_some,Bool.false_eq_true,if_false]
  rw [two_back ep (by omega) (by omega),two_back sq (by omega) (by omega),two_back ak (by omega) (by omega),show se % 256=se by omega]
 ·rw [may_has rfl,Bool.and_eq_true] at h
  obtain ⟨h1,h2⟩:=h
  have h3:=h1
  have h4:=h2
  rw [head_iff] at h1
  rw [msg_iff] at h2
  simp only at h1 h2
  have e:bodyP (bytesOf ⟨se,ep,sq,ak,true,ki,a,b,c⟩)=⟨se,ep,sq,ak,true,ki,a,b,c⟩:=by
   simp only [bodyP,bytesOf,headL,bodyL,z,List.getD,List.cons_append,List.nil_append,List.getElem?_cons_succ,List.getElem?_cons_zero,Option.getD_some,if_true]
   rw [two_back ep (by omega) (by omega),two_back sq (by omega) (by omega),two_back ak (by omega) (by omega),show se % 256=se by omega,
    four_back a (by omega) (by omega),four_back b (by omega) (by omega),four_back c (by omega) (by omega),show ki % 256=ki by omega]
  have e8:z (bytesOf ⟨se,ep,sq,ak,true,ki,a,b,c⟩) 8=ki:=congrArg PktV.ki e
  have hl:(bytesOf ⟨se,ep,sq,ak,true,ki,a,b,c⟩).length=21:=by simp [bytesOf,headL,bodyL]
  have h0:z (bytesOf ⟨se,ep,sq,ak,true,ki,a,b,c⟩) 0=1:=by simp [bytesOf,headL,z]
  unfold getV
  rw [hl,h0,e8,e,if_neg (by simp),if_neg (by simp),if_neg (by omega),if_pos (by rw [may_has rfl,h3,h4]; rfl)]
end Mg
namespace Fm
open Byt (isB)
open Cm
theorem nextF_junk (j l:List Int) (h:∀ z∈j,z≠165):nextF (j++l)=nextF l:=by
 induction j with
 | nil=>rfl
 | cons x j ih =>
  rw [List.cons_append,nextF,if_pos (h x (by simp))]
  exact ih fun z hz=>h z (by simp [hz])
theorem nextF_frame (p l:List Int) (h1:1≤p.length) (h2:p.length≤64):nextF (frm p++l)=(some p,l):=by
 have e:frm p++l=165::((p.length:Int) % 256)::(p++(be4 (crcN (hd p))++l)):=by simp [frm,hd]
 have hc:((p.length:Int) % 256)=(p.length:Int):=by omega
 rw [e,hc,nextF,if_neg (by simp),if_neg (by simp)]
 have hg:(((p.length:Int)::(p++(be4 (crcN (hd p))++l))).getD 0 0)=(p.length:Int):=rfl
 rw [hg,if_neg (by omega),Int.toNat_natCast,if_neg (by simp [be4])]
 have ht:(((p.length:Int)::(p++(be4 (crcN (hd p))++l))).tail.take p.length)=p:=by simp
 have hf:(165::(p.length:Int)::(p++(be4 (crcN (hd p))++l)))=frm p++l:=by rw [e,hc]
 rw [ht,hf,if_pos (by rw [List.take_append_of_le_length (by rw [frm_length]; exact Nat.le_refl _),List.take_of_length_le (by rw [frm_length]; exact Nat.le_refl _)])]
 congr 1
 rw [List.drop_append_of_le_length (by rw [frm_length]; exact Nat.le_refl _),List.drop_of_length_le (by rw [frm_length]; exact Nat.le_refl _)]
 rfl
end Fm
namespace Fm
theorem frames_junk (j p:List Int) (hj:∀ z∈j,z≠165) (h1:1≤p.length) (h2:p.length≤64):frames (j++frm p)=([p],[]):=by
 have e:nextF (j++frm p)=(some p,[]):=by
  rw [nextF_junk j _ hj]
  have:=nextF_frame p [] h1 h2
  rwa [List.append_nil] at this
 rw [frames_some _ p [] e,frames_none [] [] rfl]
end Fm
namespace Gw
open Go.RowKit Ba Mem En Go.Proofs.YtepfmfalebmcnaaGreatDoor.Ty Mp
open Ri (MsgV)
open Co (KV Pt KW Nr NrA toN Hold.ob)
open Gr (doR)
open Lc (hallW pressW loadW2 curtW faultW)
open Et (carsO)
set_option maxRecDepth 100000
attribute [local irreducible] Go.Calls
section
variable {lo gq M:Nat} {c:CfgV} {x:Gp} {ep sk sa sb i:Int} {K:KV} {Sk:List Nat} {D:Fam} {w:World} {dA:Option Addr} {dn dc:Nat}
theorem coreT (hb:Blk w gq 96 (gwA c x ep)):Calls Tryz.prog 27 #[.pointer (some ⟨gq,0,none⟩)] w fun e w'=>e=.returned (.pointer (some ⟨x.q,0,none⟩))∧Since w w':=by
 refine entH tab_ok (hold_q (S:=[]) (gwS c x ep) hb) [.p 0 0] Tryz.func27 Tryz.ntmps27 rfl rfl ?_
 repeat' (first | refine gs_ ?_|((conv=>whnf); first | intro b | refine fin_s ?_))
 all_goals rfl
end
end Gw
namespace Lc
open Go.RowKit Ba Mem En Go.Proofs.YtepfmfalebmcnaaGreatDoor.Ty Mo Go.Proofs.YtepfmfalebmcnaaGreatDoor.St Co
open Gr (GrV one giveR aimR takeR tickG)
theorem SU.trans {G G' G'':GrV} (h:SU G G') (k:SU G' G''):SU G G'':=⟨k.1.trans h.1,fun i x hx=>by
 obtain ⟨y,h1,h2,h3⟩:=h.2 i x hx
 obtain ⟨z,k1,k2,k3⟩:=k.2 i y h1
 exact ⟨z,k1,k2.trans h2,k3.trans h3⟩⟩
end Lc
namespace Gw
open Go.RowKit Ba Mem En Go.Proofs.YtepfmfalebmcnaaGreatDoor.Ty
open Byt (BV isB)
open Co (Hold.ob)
set_option maxRecDepth 100000
attribute [local irreducible] Go.Calls
theorem light22 {a:Option Addr} {len cap:Nat} {ss:Nat→StepD} {w:World} (h:StR a len ss w) (hlen:len≤9223372036854775807):Calls Tryz.prog 16 #[.slice a len cap] w fun e w'=>e=.returned (.bool (litB ss len))∧Since w w':=by
 obtain ⟨gb,off,hb⟩:=Ek.rd_addr h.r
 refine entH tab_ok (hold_st h) [.v (.slice a len cap)] Tryz.func16 Tryz.ntmps16 rfl rfl ?_
 repeat' (first | refine gs_ ?_|((conv=>whnf); first | intro b | refine fin_s ?_))
 conv=>whnf
 refine lp ⟨tab_ok⟩ (ι:={k:Nat // k≤len}) (fun x=>match x with | ⟨k,_⟩=>⟨[(0,.v (.slice a len cap)),(3,.i .i64 (sumW ss k)),(4,.i .i64 (k:Int))],[],[stO a len ss]⟩) (fun k=>len - k.1) ⟨0,Nat.zero_le _⟩ (wk ?_) ?_
 ·repeat' (first | exact trivial | rfl | ((conv=>whnf); refine And.intro ?_ ?_))
 rintro ⟨k,hk⟩
 by_cases hlt:k < len
 ·have hb:=hb (by omega)
  subst hb
  repeat' (first | refine gs_ ?_|((conv=>whnf); first | intro b | refine bto ?_|refine bfo ?_|refine wr_i ?_|refine wr_lit ?_|refine iv_ ?_|refine ui_ ?_|refine fv_ ?_|refine uf_ ?_|refine opxc (g:=gb) (off:=off+k*4+3) (.v (.slice (ss k).A (ss k).n (ss k).c)) (fun w hH=>rng_at (Ek.rd_rng (StR.r (Hold.ob hH (A:=stO (some ⟨gb,off,none⟩) len ss) 0 rfl)) hlt) rfl) ⟨tab_ok⟩ (by rfl) (by rfl) (by simp only [Go.WideShapes.add_plain]; rfl) ?_|refine En.back ⟨k+1,by omega⟩ (wk ?_) ?_|refine fin_s ?_))
  all_goals first | (show len - (k+1) < len - k; omega)|skip
  all_goals (repeat' (first | exact trivial | rfl | ((conv=>whnf); refine And.intro ?_ ?_)))
 ·obtain rfl:k=len:=by omega
  repeat' (first | refine gs_ ?_|((conv=>whnf); first | intro b | refine bto ?_|refine bfo ?_|refine b3_ (fun h=>?_) (fun h=>?_)|refine fin_s ?_))
  all_goals (simp [den,litB, *])
end Gw
namespace Gw
open Go.RowKit Ba Mem En Go.Proofs.YtepfmfalebmcnaaGreatDoor.Ty
open Fm (frames)
open Byt (BV isB)
open Co (KV newK Hold.ob)
set_option maxRecDepth 100000
attribute [local irreducible] Go.Calls
section
variable {X:Cx} {s:St}
theorem doX {K:SV→St→Prop} {f:FuncId} {vs:List SV} (i j:Nat) {gq B:Nat} {c:CfgV} {x:Gp} {m:Gm} {g:Gs} {k a b:Int} {dA:Option Addr} {dn dc:Nat} (d:List Int) (B':Nat) {i0:Nat} {g':Gs} {o':List (Int×List Int)} {r:Int} (he:doV c g k a b d=(g',o',r)) (hg:GI c i0 B g) (hi:i0 < 10000) (hB:B+d.length≤60000) (hB2:B+d.length≤B')
  (hk:(Lit.int .i64 k).wf=true) (hz:∀ w,Hold X s.m s.ob w→BV w dA dn d∧∀ y∈rdF dA dn,y∉gmF gq x m)
  (hf:f=24) (hP:X.P=Tryz.prog) (hA:s.ob[i]?=some (gsO gq c x B m g true)) (hT:s.ob[j]?=some tbO) (hv:denL s.m vs=[.pointer (some ⟨gq,0,none⟩),.agg #[.int .i64 k,.int .i64 a,.int .i64 b,.slice dA dn dc]]) (hij:j≠i)
  (h:∀ y:DoI o',setO i (gsO gq c x B' y.1.1 g' true) s.ob fun ob=>appO ob (osO y.1.2.1 y.1.2.2.1 y.1.2.2.2) fun ob=>K (.t [.v (.slice y.1.2.1 o'.length y.1.2.2.1),.i .i64 r]) ⟨s.fr,s.m,ob⟩)
  (hen:entChk X.P f=true:=by kernel_rfl):CallVC X f vs s K:=by
 refine callON i (A:=gsO gq c x B m g true) (fun y:DoI o'=>.t [.v (.slice y.1.2.1 o'.length y.1.2.2.1),.i .i64 r]) (fun y=>gsO gq c x B' y.1.1 g' true) (fun y=>osO y.1.2.1 y.1.2.2.1 y.1.2.2.2) (fun w hH hA1=>?_) h hA rfl hen (fun _=>rfl)
 subst hf
 rw [hP,hv]
 obtain ⟨z1,z2⟩:=hz w hH
 have hTb:=hH.obj _ (List.mem_of_getElem? hT)
 have hdis:∀ y∈gmF gq x m,y∉tbO.F:=pair_at (R:=DisR) (fun _ _ h=>h.symm) hH.dis hA hT (Ne.symm hij) (.inl rfl)
 refine (doD (k:=k) (a:=a) (b:=b) (dc:=dc) hA1 hg hi hB z1 z2 hTb (tb_far (A:=gsO gq c x B m g true) hdis) hk).mono ?_
 rintro e w' hq
 unfold DoQ at hq
 rw [he] at hq
 obtain ⟨y,h1,h2,h3,h4,h5,h6⟩:=hq
 refine ⟨⟨y.1,y.2,fun h0=>?_⟩,h1,h2.more hB2,h3,h4,h5,h6⟩
 obtain ⟨q,hq⟩:=Ek.addr h3.r
 have e:y.1.2.2.2.length=o'.length:=(List.length_map ..).symm.trans (congrArg List.length y.2)
 exact ⟨q,hq (by omega)⟩
end
end Gw
namespace Mg
open Go.RowKit Ba Mem En Go.Proofs.YtepfmfalebmcnaaGreatDoor.Ty
open Byt (BV isB cells)
open Co (Hold.ob)
set_option maxRecDepth 100000
attribute [local irreducible] Go.Calls
theorem bytesF (p:PktV) (h0:headB p=true) (hh:p.has=false) (w:World):Calls Tryz.prog 20 #[.agg (pktC p)] w fun e w'=>∃ x:Option Addr×Nat,e=.returned (.slice x.1 8 x.2)∧byteE.At w.heap.size x.1 8 x.2 (headL p) w'∧Since w w':=by
 have hp:pktC p=#[.int .i64 p.se,.int .i64 p.ep,.int .i64 p.sq,.int .i64 p.ak,.bool false,.int .i64 p.ki,.int .i64 p.a,.int .i64 p.b,.int .i64 p.c]:=by unfold pktC; rw [hh]
 rw [hp]
 have hb:=(head_iff p).1 h0
 refine ent tab_ok [.a [.i .i64 p.se,.i .i64 p.ep,.i .i64 p.sq,.i .i64 p.ak,.b false,.i .i64 p.ki,.i .i64 p.a,.i .i64 p.b,.i .i64 p.c]] Tryz.func20 Tryz.ntmps20 rfl rfl ?_
 repeat' (first | refine gs_ ?_|((conv=>whnf); first | intro b | refine cd (by first | decide | omega) ?_|refine bto ?_|refine bfo ?_|refine And.intro ?_ ?_|refine wr (u8_m _ (by omega)) ?_|refine wr (u8_wrap _) ?_|refine wr_q ?_|refine opbo ⟨tab_ok⟩ byteE (headL p) [_,_,_,_,_,_,_,_] [.i .u8 1,.i .u8 (p.se % 256),.i .u8 (p.ep / 256 % 256),.i .u8 (p.ep % 256),.i .u8 (p.sq / 256 % 256),.i .u8 (p.sq % 256),.i .u8 (p.ak / 256 % 256),.i .u8 (p.ak % 256)] (by rfl) (by rfl) (by rfl) rfl rfl (fun g0=>?_)|refine fin fun w' hH=>⟨(some ⟨g0,0,none⟩,8),rfl,Hold.ob hH (A:=rwO byteE w.heap.size (some ⟨g0,0,none⟩) 8 8 (headL p) true) 0 rfl,hH.upd.since⟩|refine fin_s ?_))
end Mg
namespace Gw
open Go.RowKit Ba Mem En Go.Proofs.YtepfmfalebmcnaaGreatDoor.Ty Mg
open Fm (frm)
open Co (Hold.ob)
set_option maxRecDepth 100000
attribute [local irreducible] Go.Calls
def cfg0:CfgV:=⟨2,5,2,4,2,3,9,1,30,2,1,300,5,2,8,4,60,8⟩
def cfgA (c:CfgV):Value:=(aCfg c)
theorem configT (w:World):Calls Tryz.prog 46 #[] w fun e w'=>e=.returned (cfgA cfg0)∧Since w w':=by
 refine ent tab_ok [] Tryz.func46 Tryz.ntmps46 rfl rfl ?_
 repeat' (first | refine gs_ ?_|((conv=>whnf); first | intro b | refine fin_s ?_))
 all_goals rfl
theorem helloT (n:Int) (h0:mayB (helP n 7)=true) (w:World):Calls Tryz.prog 47 #[.int .i64 n] w fun e w'=>∃ x:Option Addr×Nat,e=.returned (.slice x.1 27 x.2)∧byteE.At w.heap.size x.1 27 x.2 (frm (bytesOf (helP n 7))) w'∧Since w w':=by
 have hbo:=bytes_b (helP n 7) rfl
 refine ent tab_ok [.i .i64 n] Tryz.func47 Tryz.ntmps47 rfl rfl ?_
 repeat' (first | refine gs_ ?_|((conv=>whnf); first | intro b | refine callN (f:=20) (ι:=Option Addr×Nat) (fun x=>.v (.slice x.1 21 x.2)) (fun x=>rwO byteE w.heap.size x.1 21 x.2 (bytesOf (helP n 7)) true) (fun w1 hH=>(bytesH (helP n 7) h0 rfl w1).mono (by rintro e w' ⟨x,rfl,h1,h2⟩; rw [← hbo] at h1; exact ⟨x,rfl,Ek.base h1 hH.upd.size,h2,Ek.lows h1⟩)) (fun x=>?_)|refine callN (f:=19) (ι:=Option Addr×Nat) (fun y=>.v (.slice y.1 27 y.2)) (fun y=>rwO byteE w.heap.size y.1 27 y.2 (frm (bytesOf (helP n 7))) true) (fun w1 hH=>(frmE x.1 x.2 (bytesOf (helP n 7)) 21 27 w1 (Hold.ob hH (A:=rwO byteE w.heap.size x.1 21 x.2 (bytesOf (helP n 7)) true) 0 rfl) (bytes_isB _) (by omega) (by rw [Fm.frm_length,hbo]; rfl)).mono (by rintro e w' ⟨y,rfl,h1,h2⟩; exact ⟨y,rfl,Ek.base h1 hH.upd.size,h2,Ek.lows h1⟩)) (fun y=>?_)|refine fin fun w' hH=>⟨y,rfl,Hold.ob hH (A:=rwO byteE w.heap.size y.1 27 y.2 (frm (bytesOf (helP n 7))) true) 1 rfl,hH.upd.since⟩|refine fin_s ?_))
end Gw
namespace Gw
open Go.RowKit Ba Mem En Go.Proofs.YtepfmfalebmcnaaGreatDoor.Ty Mg
open Fm (frm frames)
open Co (newK)
set_option maxRecDepth 100000
def hel3:List Int:=frm (bytesOf (helP 3 7))
def wan3:PktV:=⟨3,1,0,0,true,2,1,0,0⟩
def an1:Kv×Int:=runL cfg0 ((newK cfg0,fun _=>none),0) [bytesOf (helP 3 7)]
def an2:Ko:=tickG an1.1
theorem hel3_f:frames hel3=([bytesOf (helP 3 7)],[]):=by kernel_rfl
theorem an1_ep:an1.2=1:=by kernel_rfl
theorem an2_out:an2.2=[(3,frm (bytesOf wan3))]:=by kernel_rfl
theorem an2_ep:epochV an2.1.2 3=1:=by kernel_rfl
theorem an2_len:an2.1.1.G.cars.length=2:=by kernel_rfl
theorem hel3_may:mayB (helP 3 7)=true:=by kernel_rfl
theorem wan3_may:mayB wan3=true:=by kernel_rfl
end Gw
namespace Gw
open Go.RowKit Ba Mem En Go.Proofs.YtepfmfalebmcnaaGreatDoor.Ty Mg
open Fm (frm frames)
open Byt (BV)
open Co (newK Hold.ob KV)
set_option maxRecDepth 100000
attribute [local irreducible] Go.Calls
abbrev ow3 (p:Option Addr×Nat):List OutD:=[⟨3,p.1,p.2,frm (bytesOf wan3)⟩]
abbrev oR (lo:Nat) (y:(Nat×Nat)×Option Addr×Nat):Asr:=rwO outE lo (some ⟨y.1.1,0,none⟩) 1 y.1.2 (ow3 y.2) true
section
variable {gq M N:Nat} {c:CfgV} {x:Gp} {ep sa sb:Int} {K:KV} {xs:List Int} {Sk Ss:List Nat} {D:Fam} {w:World} {dA:Option Addr} {dn dc:Nat}
theorem hel3_len:hel3.length=27:=by kernel_rfl
theorem bytes0 (h:GWt gq cfg0 x 0 0 (newK cfg0) 0 [] Sk (fun _=>none) Ss w) (hz:BV w dA 27 hel3) (hz1:∀ g∈rdF dA 27,g∉gwF gq x Sk (fun _=>none) Ss) :
  Calls Tryz.prog 24 #[.pointer (some ⟨gq,0,none⟩),.agg #[.int .i64 2,.int .i64 sa,.int .i64 sb,.slice dA 27 dc]] w fun e w'=>∃ y:{y:List Nat×Fam×List Nat // vals y.2.1=an1.1.2},e=.returned (.tuple #[.slice none 0 0,.int .i64 0])∧GWt gq cfg0 x 27 27 an1.1.1 1 [] y.1.1 y.1.2.1 y.1.2.2 w'∧Upd (gwF gq x Sk (fun _=>none) Ss) w w'∧∀ g∈gwF gq x y.1.1 y.1.2.1 y.1.2.2,g∈gwF gq x Sk (fun _=>none) Ss∨w.heap.size≤g:=by
 have e0:frames ([]++hel3)=([bytesOf (helP 3 7)],[]):=hel3_f
 have e1:runL cfg0 ((newK cfg0,vals fun _=>none),0) (frames ([]++hel3)).1=an1:=by rw [e0]; rfl
 have e2:([]++hel3).length=27:=hel3_len
 refine (bytesD h hz hz1 (JI.new cfg0) (by decide) (by rw [e2]; decide) (by decide)).mono ?_
 rintro e w' ⟨⟨y,hy⟩,rfl,h1,h2,h3⟩
 simp only [e1] at hy h1
 rw [e2,e0,an1_ep] at h1
 exact ⟨⟨y,hy⟩,rfl,h1,h2,h3⟩
theorem tick0 (h:GWt gq cfg0 x 27 27 an1.1.1 1 [] Sk D Ss w) (hv:vals D=an1.1.2) :
  Calls Tryz.prog 24 #[.pointer (some ⟨gq,0,none⟩),.agg #[.int .i64 1,.int .i64 sa,.int .i64 sb,.slice dA dn dc]] w fun e w'=>∃ y:{y:List Nat×Fam×(Nat×Nat)×(Option Addr×Nat) // vals y.2.1=an2.1.2},e=.returned (.tuple #[.slice (some ⟨y.1.2.2.1.1,0,none⟩) 1 y.1.2.2.1.2,.int .i64 0])∧GWt gq cfg0 x 27 27 an2.1.1 1 [] y.1.1 y.1.2.1 Ss w'∧(oR w.heap.size y.1.2.2).st w'∧(daO w.heap.size (ow3 y.1.2.2.2) true).st w'∧Upd (gwF gq x Sk D Ss) w w'∧(∀ g∈gwF gq x y.1.1 y.1.2.1 Ss,g∈gwF gq x Sk D Ss∨w.heap.size≤g)∧(∀ g∈[y.1.2.2.1.1],w.heap.size≤g∧g∉gwF gq x y.1.1 y.1.2.1 Ss)∧(∀ g∈datF (ow3 y.1.2.2.2),w.heap.size≤g∧g∉gwF gq x y.1.1 y.1.2.1 Ss)∧∀ g∈[y.1.2.2.1.1],g∉datF (ow3 y.1.2.2.2):=by
 have hj:JI cfg0 0 0 (an1.1.1,vals D):=by rw [hv]; exact JI.run (by decide) _ (JI.new cfg0)
 have e1:tickG (an1.1.1,vals D)=an2:=by rw [hv]; rfl
 refine (tickD h hj (by decide) (by decide) (by decide)).mono ?_
 rintro e w' ⟨⟨S',D',A,cp,os⟩,rfl,h1,h2,h3,h4,h5,h6,h7,h8,h9,h10⟩
 rw [e1] at h1 h9 h10
 rw [an2_out] at h10
 obtain ⟨A1,c1,rfl⟩:=outs_one h10
 obtain ⟨g,hg⟩:=Ek.addr h2
 have hg:=hg (Nat.zero_lt_one)
 dsimp only at hg
 subst hg
 exact ⟨⟨(S',D',(g,cp),(A1,c1)),h9⟩,rfl,h1,h2,h3,h4,h5,h6,h7,h8⟩
end
end Gw
namespace Gw
open Go.RowKit Ba Mem En Go.Proofs.YtepfmfalebmcnaaGreatDoor.Ty
open Fm (frames)
open Byt (BV isB)
open Co (KV newK Hold.ob)
set_option maxRecDepth 100000
attribute [local irreducible] Go.Calls
theorem do_len (c:CfgV) (g:Gs) (k a b:Int) (d:List Int):(doV c g k a b d).2.1.length≤64:=by
 unfold doV
 split
 ·have h1:=tickL_len (keysL (tellF (Co.tickK g.x.1,g.x.2) (Co.tickE g.x.1)).2) (tellF (Co.tickK g.x.1,g.x.2) (Co.tickE g.x.1),[])
  have h2:=keys_len (tellF (Co.tickK g.x.1,g.x.2) (Co.tickE g.x.1)).2
  simp only [List.length_nil,Nat.zero_add] at h1
  exact Nat.le_trans h1 h2
 split
 ·exact Nat.zero_le _
 split
 ·exact Nat.zero_le _
 split
 ·show 1≤64; decide
 ·exact Nat.zero_le _
theorem outs_len {os:List OutD} {o:List (Int×List Int)} (h:outsV os=o):os.length=o.length:=by rw [← h]; exact (List.length_map ..).symm
theorem cut_at (cut:Int) (h:0≤cut∧cut≤255) (n:Nat):∃ k,k≤n∧(n=0→k=0)∧(0 < n→cut.tmod (n:Int)=(k:Int)):=by
 rcases Nat.eq_zero_or_pos n with h0 | h0
 ·exact ⟨0,Nat.zero_le _,fun _=>rfl,fun h=>by omega⟩
 ·refine ⟨cut.toNat % n,Nat.le_of_lt (Nat.mod_lt _ h0),fun h=>by omega,fun _=>?_⟩
  rw [Int.tmod_eq_emod_of_nonneg h.1]
  have:cut=(cut.toNat:Int):=by omega
  rw [this]
  simp
theorem u8_of {I:Int} (h:(Lit.int .u8 I).wf=true):0≤I∧I≤255:=bounds_u8 h
section
variable {gq B:Nat} {c:CfgV} {x:Gp} {m:Gm} {g:Gs} {w:World}
theorem epochS {i:Int} (h:GSt gq c x B m g w) (hi:(Lit.int .i64 i).wf=true):Calls Tryz.prog 23 #[.pointer (some ⟨gq,0,none⟩),.int .i64 i] w fun e w'=>e=.returned (.int .i64 (epochV g.x.2 i))∧Since w w':=by
 have:=epochT h.t.b h.t.k h.t.g1 hi
 rw [h.v] at this; exact this
theorem coreS (h:GSt gq c x B m g w):Calls Tryz.prog 27 #[.pointer (some ⟨gq,0,none⟩)] w fun e w'=>e=.returned (.pointer (some ⟨x.q,0,none⟩))∧Since w w':=coreT h.t.b
theorem leasesS (h:GSt gq c x B m g w) (hl:g.x.1.L.length≤10000):Calls Tryz.prog 28 #[.pointer (some ⟨x.q,0,none⟩)] w fun e w'=>∃ A' c',e=.returned (.slice A' g.x.1.L.length c')∧Fl.leaE.At w.heap.size A' g.x.1.L.length c' g.x.1.L w'∧Since w w':=Co.leasesK h.t.k.k hl
theorem queueS (h:GSt gq c x B m g w) (hl:g.x.1.Q.length≤10000):Calls Tryz.prog 30 #[.pointer (some ⟨x.q,0,none⟩)] w fun e w'=>∃ A' c',e=.returned (.slice A' g.x.1.Q.length c')∧Qu.askE.At w.heap.size A' g.x.1.Q.length c' g.x.1.Q w'∧Since w w':=Co.queueK h.t.k.k hl
end
end Gw
namespace Gw
open Go.RowKit Ba Mem En Go.Proofs.YtepfmfalebmcnaaGreatDoor.Ty Mg
open Fm (frm frames)
open Byt (BV)
open Co (newK Hold.ob KV)
set_option maxRecDepth 100000
attribute [local irreducible] Go.Calls
theorem opcs {X:Cx} {s:St} {o:Oper} {K:St→Prop} {t d:TypeId} {x:Operand} {A:Option Addr} {n c:Nat} {zs:List Int} (ho:o.op=.convert t d x) (hx:evO x s.fr=some (.v (.slice A n c))) (hz:∀ w,Hold X s.m s.ob w→BV w A n zs) (h1:X.P.underlying t=some (.slice 5)) (h2:X.P.underlying 5=some (.int .u8)) (h3:X.P.underlying d=some .string) (h:put X.n o.dst (.v (.string (strOfNums zs))) s K):OpVC X o s K :=
 opq (.v (.string (strOfNums zs))) (fun a w hf hH=>exec_str t 5 d x (hz w hH) ho (by rw [(evO_of hf hx).2]; rfl) h1 h2 h3) h rfl
theorem frm_isB (p:PktV) (hl:(bytesOf p).length≤255):∀ z∈frm (bytesOf p),Byt.isB z:=Fm.frm_isB (bytes_isB p)
theorem wan3_len:(frm (bytesOf wan3)).length=27:=by kernel_rfl
theorem rng_k {w:World} {g off k:Nat} {cs:List Value} {v:Value} (h:w.rangeAt g off cs) (hk:cs[k]?=some v):w.rangeAt g (off+k) [v]:=fun j u hj=>by
 cases j with
 | zero =>
  simp at hj; subst hj
  simpa using h k _ hk
 | succ j=>simp at hj
set_option maxHeartbeats 4000000 in
theorem answersT (w:World):Calls Tryz.prog 18 #[] w fun e w'=>e=.returned (.bool true)∧Since w w':=by
 refine ent tab_ok [] Tryz.func18 Tryz.ntmps18 rfl rfl ?_
 repeat' (first | refine gq_ ?_|((conv=>whnf); first | refine callH (f:=46) (.a [.i .i64 2,.i .i64 5,.i .i64 2,.i .i64 4,.i .i64 2,.i .i64 3,.i .i64 9,.i .i64 1,.i .i64 30,.i .i64 2,.i .i64 1,.i .i64 300,.i .i64 5,.i .i64 2,.i .i64 8,.i .i64 4,.i .i64 60,.i .i64 8]) (fun w1 hH=>configT w1) ?_|refine callN (f:=21) (ι:=Nat×Gp×List Nat) (fun y=>.v (.pointer (some ⟨y.1,0,none⟩))) (fun y=>gwO y.1 cfg0 y.2.1 0 0 (newK cfg0) 0 [] y.2.2 (fun _=>none) [y.2.1.s] true) (fun w1 hH=>newX cfg0 w1) (fun y=>?_)|refine callN (f:=47) (ι:=Option Addr×Nat) (fun z=>.v (.slice z.1 27 z.2)) (fun z=>rwO byteE w.heap.size z.1 27 z.2 hel3 true) (fun w1 hH=>(helloT 3 hel3_may w1).mono (by rintro e w' ⟨z,rfl,h1,h2⟩; exact ⟨z,rfl,Ek.base h1 hH.upd.size,h2,Ek.lows h1⟩)) (fun z=>?_)|refine callO (f:=24) (A:=gwO y.1 cfg0 y.2.1 0 0 (newK cfg0) 0 [] y.2.2 (fun _=>none) [y.2.1.s] true) 0 (fun _:{u:List Nat×Fam×List Nat // vals u.2.1=an1.1.2}=>.t [.v (.slice none 0 0),.i .i64 0]) (fun u=>gwO y.1 cfg0 y.2.1 27 27 an1.1.1 1 [] u.1.1 u.1.2.1 u.1.2.2 true) (fun w1 hH hA=>bytes0 hA (Byt.BV.of_own (byte_own.1 (Hold.ob hH (A:=rwO byteE w.heap.size z.1 27 z.2 hel3 true) 1 rfl)) (frm_isB _ (by decide))) (fun g hg hm=>(pair_at (R:=DisR) (fun _ _ h=>h.symm) hH.dis (i:=0) (j:=1) rfl rfl (by decide) (.inl rfl)) g hm hg)) (fun u=>?_)|refine callO2N (f:=24) (A:=gwO y.1 cfg0 y.2.1 27 27 an1.1.1 1 [] u.1.1 u.1.2.1 u.1.2.2 true) 0 (fun v:{v:List Nat×Fam×(Nat×Nat)×(Option Addr×Nat) // vals v.2.1=an2.1.2}=>.t [.v (.slice (some ⟨v.1.2.2.1.1,0,none⟩) 1 v.1.2.2.1.2),.i .i64 0]) (fun v=>gwO y.1 cfg0 y.2.1 27 27 an2.1.1 1 [] v.1.1 v.1.2.1 u.1.2.2 true) (fun v=>oR w.heap.size v.1.2.2) (fun v=>daO w.heap.size (ow3 v.1.2.2.2) true) (fun w1 hH hA=>(tick0 hA u.2).mono (by rintro e w' ⟨v,rfl,h1,h2,h3,h4,h5,h6,h7,h8⟩; exact ⟨v,rfl,h1,Ek.base h2 hH.upd.size,fun o ho=>Ek.base (h3 o ho) hH.upd.size,h4,h5,h6,h7,h8⟩)) (fun v=>?_)|refine callH (f:=24) (.t [.v (.slice none 0 0),.i .i64 1]) (fun w1 hH=>doNo (Hold.ob hH (A:=gwO y.1 cfg0 y.2.1 27 27 an2.1.1 1 [] v.1.1 v.1.2.1 u.1.2.2 true) 0 rfl) (wf_small (by decide)) (by decide)) ?_|intro b | refine fin_s ?_))
 repeat' (first | refine gq_ ?_|((conv=>whnf); first | refine drA (id:=6) ⟨tab_ok⟩ [19,26,27,31] ?_|refine drA ⟨tab_ok⟩ [] ?_|refine And.intro ?_ ?_|refine br_t (by rfl) ?_|refine opiv ⟨tab_ok⟩ (by rfl) (by rfl) (by rfl) (by rfl) (by rfl) (by rfl) ⟨by decide,by decide⟩ ?_|refine puiv ⟨tab_ok⟩ (by rfl) (by rfl) (by rfl) (by rfl) (by rfl) (by rfl) ⟨by decide,by decide⟩ ?_|refine fv_ ?_|refine uf_ ?_|refine opxc (g:=v.1.2.2.1.1) (off:=0+0*2+0) (.i .i64 3) (fun w1 hH=>rng_k (v:=.int .i64 3) (Ek.rng (x:=(⟨3,v.1.2.2.2.1,v.1.2.2.2.2,frm (bytesOf wan3)⟩:OutD)) (k:=0) (Hold.ob hH (A:=oR w.heap.size v.1.2.2) 2 rfl) rfl) rfl) ⟨tab_ok⟩ (by rfl) (by rfl) (by show Addr.add (Addr.add ⟨v.1.2.2.1.1,0,none⟩ (0*2)) 0=_; rw [Go.WideShapes.add_plain,Go.WideShapes.add_plain]) ?_|refine opxc (g:=v.1.2.2.1.1) (off:=0+0*2+1) (.v (.slice v.1.2.2.2.1 27 v.1.2.2.2.2)) (fun w1 hH=>rng_k (v:=.slice v.1.2.2.2.1 27 v.1.2.2.2.2) (Ek.rng (x:=(⟨3,v.1.2.2.2.1,v.1.2.2.2.2,frm (bytesOf wan3)⟩:OutD)) (k:=0) (Hold.ob hH (A:=oR w.heap.size v.1.2.2) 2 rfl) rfl) (by show [Value.int .i64 3,Value.slice v.1.2.2.2.1 (frm (bytesOf wan3)).length v.1.2.2.2.2][1]?=_; rw [wan3_len]; rfl)) ⟨tab_ok⟩ (by rfl) (by rfl) (by show Addr.add (Addr.add ⟨v.1.2.2.1.1,0,none⟩ (0*2)) 1=_; rw [Go.WideShapes.add_plain,Go.WideShapes.add_plain]) ?_|refine opcs (A:=v.1.2.2.2.1) (n:=27) (zs:=frm (bytesOf wan3)) (by rfl) (by rfl) (fun w1 hH=>Byt.BV.of_own (byte_own.1 ((Hold.ob hH (A:=daO w.heap.size (ow3 v.1.2.2.2) true) 3 rfl) _ (List.mem_singleton.2 rfl))) (frm_isB _ (by decide))) (Tryz.underlying29) (Tryz.underlying5) (Tryz.underlying9) ?_|refine callN (f:=20) (ι:=Option Addr×Nat) (fun q=>.v (.slice q.1 21 q.2)) (fun q=>rwO byteE w.heap.size q.1 21 q.2 (bytesOf wan3) true) (fun w1 hH=>(bytesH wan3 wan3_may rfl w1).mono (by rintro e w' ⟨q,rfl,h1,h2⟩; exact ⟨q,rfl,Ek.base h1 hH.upd.size,h2,Ek.lows h1⟩)) (fun q=>?_)|refine br_t (beq_self_eq_true _) ?_|refine callN (f:=19) (ι:=Option Addr×Nat) (fun r=>.v (.slice r.1 27 r.2)) (fun r=>rwO byteE w.heap.size r.1 27 r.2 (frm (bytesOf wan3)) true) (fun w1 hH=>(frmE q.1 q.2 (bytesOf wan3) 21 27 w1 (Hold.ob hH (A:=rwO byteE w.heap.size q.1 21 q.2 (bytesOf wan3) true) 4 rfl) (bytes_isB _) (by omega) wan3_len).mono (by rintro e w' ⟨r,rfl,h1,h2⟩; exact ⟨r,rfl,Ek.base h1 hH.upd.size,h2,Ek.lows h1⟩)) (fun r=>?_)|refine opcs (A:=r.1) (n:=27) (zs:=frm (bytesOf wan3)) (by rfl) (by rfl) (fun w1 hH=>Byt.BV.of_own (byte_own.1 (Hold.ob hH (A:=rwO byteE w.heap.size r.1 27 r.2 (frm (bytesOf wan3)) true) 5 rfl)) (frm_isB _ (by decide))) (Tryz.underlying29) (Tryz.underlying5) (Tryz.underlying9) ?_|refine callH (f:=23) (.i .i64 1) (fun w1 hH=>have hW:=Hold.ob hH (A:=gwO y.1 cfg0 y.2.1 27 27 an2.1.1 1 [] v.1.1 v.1.2.1 u.1.2.2 true) 0 rfl; (epochT hW.b hW.k hW.g1 (wf_small (by decide))).mono (by rintro e w' ⟨rfl,h2⟩; rw [v.2,an2_ep]; exact ⟨rfl,h2⟩)) ?_|refine callN (f:=32) (ι:=Option Addr×Nat) (fun r2=>.v (.slice r2.1 2 r2.2)) (fun r2=>rwO viewE w.heap.size r2.1 2 r2.2 (an2.1.1.G.cars.map viewOf) true) (fun w1 hH=>have hW:=Hold.ob hH (A:=gwO y.1 cfg0 y.2.1 27 27 an2.1.1 1 [] v.1.1 v.1.2.1 u.1.2.2 true) 0 rfl; (viewsT hW.b hW.k hW.g1 (by rw [an2_len]; decide) (by rw [an2_len]; decide)).mono (by rintro e w' ⟨A,c,rfl,h1,h2⟩; rw [an2_len] at h1 ⊢; exact ⟨(A,c),rfl,Ek.base h1 hH.upd.size,h2,Ek.lows h1⟩)) (fun r2=>?_)|refine fin fun w' hH=>⟨rfl,hH.upd.since⟩|refine fin_s ?_))
end Gw
namespace Gw
open Go.RowKit Ba Mem En Go.Proofs.YtepfmfalebmcnaaGreatDoor.Ty
open Byt (BV isB)
open Co (Hold.ob)
set_option maxRecDepth 100000
attribute [local irreducible] Go.Calls
theorem opct {X:Cx} {s:St} {o:Oper} {K:St→Prop} {t d:TypeId} {x:Operand} {A:Option Addr} {n c:Nat} {zs:List Int} (ho:o.op=.convert t d x) (hx:evO x s.fr=some (.v (.slice A n c))) (hz:∀ w,Hold X s.m s.ob w→BV w A n zs) (h1:X.P.underlying t=some (.slice 5)) (h2:X.P.underlying 5=some (.int .u8)) (h3:X.P.underlying d=some .string) (h:put X.n o.dst (.v (.string (strOfNums zs))) s K):OpVC X o s K :=
 opq (.v (.string (strOfNums zs))) (fun a w hf hH=>exec_str t 5 d x (hz w hH) ho (by rw [(evO_of hf hx).2]; rfl) h1 h2 h3) h rfl
theorem hold_os {A B:Option Addr} {ca cb nt:Nat} {os os':List OutD} {w:World} (h1:OsAt A ca os w) (h2:OsAt B cb os' w):Hold ⟨Tryz.prog,tab,[],w,nt,[]⟩ [] [osO A ca os,osO B cb os'] w :=
 Hold.addObj (Hold.addObj (Hold.nil _ tab [] _ w) (osO A ca os) h1 (by intro k; cases k) (by intro r hr; cases hr) (by intro A hA; cases hA)) (osO B cb os') h2 (by intro k; cases k) (by intro r hr; cases hr) (by intro G hG k; rcases List.mem_append.1 hG with hG | hG; cases hG; rw [List.mem_singleton] at hG; subst hG; rcases k with k | k <;> cases k)
theorem outs_at {os os':List OutD} (h:outsV os=outsV os') {k:Nat} {o:OutD} (ho:os[k]?=some o):∃ A c,os'[k]?=some ⟨o.s,A,c,o.zs⟩:=by
 have e:=congrArg (fun l:List (Int×List Int)=>l[k]?) h
 simp only [outsV,List.getElem?_map,ho] at e
 cases hq:os'[k]? with
 | none=>rw [hq] at e; cases e
 | some q =>
  rw [hq] at e
  obtain ⟨s2,A2,c2,z2⟩:=q
  simp only [Option.map_some,Option.some.injEq,Prod.mk.injEq] at e
  obtain ⟨rfl,rfl⟩:=e
  exact ⟨A2,c2,rfl⟩
set_option maxHeartbeats 4000000 in
theorem sameT {A B:Option Addr} {ca cb n n2:Nat} {os os':List OutD} {w:World} (h1:OsAt A ca os w) (h2:OsAt B cb os' w) (hv:outsV os=outsV os') (hn:os.length=n) (hn2:os'.length=n2) (hl:n≤1000000):Calls Tryz.prog 25 #[.slice A n ca,.slice B n2 cb] w fun e w'=>e=.returned (.bool true)∧Since w w':=by
 have hlen:os.length=os'.length:=by have:=congrArg List.length hv; simpa [outsV] using this
 obtain rfl:n2=n:=by omega
 subst hn2
 obtain ⟨gA,hgA⟩:=Ek.addr h1.r
 obtain ⟨gB,hgB⟩:=Ek.addr h2.r
 refine entH tab_ok (hold_os h1 h2) [.v (.slice A os'.length ca),.v (.slice B os'.length cb)] Tryz.func25 Tryz.ntmps25 rfl rfl ?_
 repeat' (first | refine gs_ ?_|((conv=>whnf); first | intro b | refine br_f (bne_refl _) ?_|refine br_t (beq_self_eq_true _) ?_|refine fin_s ?_))
 conv=>whnf
 refine lp ⟨tab_ok⟩ (ι:={k:Nat // k≤os'.length}) (fun x=>match x with | ⟨k,_⟩=>⟨[(0,.v (.slice A os'.length ca)),(1,.v (.slice B os'.length cb)),(5,.i .i64 (k:Int))],[],[osO A ca os,osO B cb os']⟩) (fun k=>os'.length - k.1) ⟨0,Nat.zero_le _⟩ (wk ?_) ?_
 ·repeat' (first | exact trivial | rfl | ((conv=>whnf); refine And.intro ?_ ?_))
 rintro ⟨k,hk⟩
 by_cases hlt:k < os'.length
 ·obtain ⟨o,ho⟩:∃ o,os[k]?=some o:=⟨_,List.getElem?_eq_getElem (by omega)⟩
  obtain ⟨A2,c2,ho2⟩:=outs_at hv ho
  have hgA:=hgA (by omega)
  have hgB:=hgB (by omega)
  subst hgA hgB
  repeat' (first | refine gq_ ?_|((conv=>whnf); first | intro b | refine bto ?_|refine bfo ?_|refine wr_i ?_|refine drA (id:=6) ⟨tab_ok⟩ [4,9,16,17,22,23] ?_|refine And.intro ?_ ?_|refine br_f (bne_refl _) ?_|refine br_t (beq_self_eq_true _) ?_|refine iv_ ?_|refine ui_ ?_|refine fv_ ?_|refine uf_ ?_|refine opxc (g:=gA) (off:=0+k*2+0) (.i .i64 o.s) (fun w hH=>rng_at (Ek.rng (OsAt.r (Hold.ob hH (A:=osO (some ⟨gA,0,none⟩) ca os) 0 rfl)) ho) rfl) ⟨tab_ok⟩ (by rfl) (by rfl) (by simp only [Go.WideShapes.add_plain]; rfl) ?_|refine opxc (g:=gB) (off:=0+k*2+0) (.i .i64 o.s) (fun w hH=>rng_at (Ek.rng (OsAt.r (Hold.ob hH (A:=osO (some ⟨gB,0,none⟩) cb os') 1 rfl)) ho2) rfl) ⟨tab_ok⟩ (by rfl) (by rfl) (by simp only [Go.WideShapes.add_plain]; rfl) ?_|refine opxc (g:=gA) (off:=0+k*2+1) (.v (.slice o.A o.zs.length o.c)) (fun w hH=>rng_at (Ek.rng (OsAt.r (Hold.ob hH (A:=osO (some ⟨gA,0,none⟩) ca os) 0 rfl)) ho) rfl) ⟨tab_ok⟩ (by rfl) (by rfl) (by simp only [Go.WideShapes.add_plain]; rfl) ?_|refine opxc (g:=gB) (off:=0+k*2+1) (.v (.slice A2 o.zs.length c2)) (fun w hH=>rng_at (Ek.rng (OsAt.r (Hold.ob hH (A:=osO (some ⟨gB,0,none⟩) cb os') 1 rfl)) ho2) rfl) ⟨tab_ok⟩ (by rfl) (by rfl) (by simp only [Go.WideShapes.add_plain]; rfl) ?_|refine opct (A:=o.A) (n:=o.zs.length) (zs:=o.zs) (by rfl) (by rfl) (fun w1 hH=>OsAt.d (Hold.ob hH (A:=osO (some ⟨gA,0,none⟩) ca os) 0 rfl) o (List.mem_of_getElem? ho)) (Tryz.underlying29) (Tryz.underlying5) (Tryz.underlying9) ?_|refine opct (A:=A2) (n:=o.zs.length) (zs:=o.zs) (by rfl) (by rfl) (fun w1 hH=>OsAt.d (Hold.ob hH (A:=osO (some ⟨gB,0,none⟩) cb os') 1 rfl) _ (List.mem_of_getElem? ho2)) (Tryz.underlying29) (Tryz.underlying5) (Tryz.underlying9) ?_|refine En.back ⟨k+1,by omega⟩ (wk ?_) ?_|refine fin_s ?_))
  all_goals first | (show os'.length - (k+1) < os'.length - k; omega)|skip
  all_goals (repeat' (first | exact trivial | rfl | ((conv=>whnf); refine And.intro ?_ ?_)))
 ·repeat' (first | refine gs_ ?_|((conv=>whnf); first | intro b | refine bto ?_|refine bfo ?_|refine fin_s ?_))
  all_goals rfl
end Gw
namespace Gw
open Go.RowKit Ba Mem En Go.Proofs.YtepfmfalebmcnaaGreatDoor.Ty Tm
open Ri (MsgV)
open Mg (PktV)
open Fm (frames)
open Ln (LkV winV mx2)
open Co (KV KI KT EvV ansK hearK goneK tickK tickE inC newK setK stepK foldK tkK1 grantK grK)
open Lc (PI CI UQ)
set_option maxRecDepth 100000
theorem come_stale {c:CfgV} {x:Kv} {ep:Int} {p:PktV} (h0:p.ep≠0) (h1:p.ep≠epochV x.2 p.se):comeK c x ep p=(x,ep):=by
 have hb:helB c p=false:=by
  unfold helB
  have:(p.ep == 0)=false:=by simpa using h0
  rw [this]; simp
 unfold comeK
 rw [if_neg (by rw [hb]; decide)]
 cases hv:x.2 p.se with
 | none=>rfl
 | some v =>
  have he:epochV x.2 p.se=v.k.ep:=by unfold epochV; rw [hv]
  rw [he] at h1
  have ho:Ln.okB v.k (toK p)=false:=by
   unfold Ln.okB
   have:decide ((toK p).ep=v.k.ep)=false:=decide_eq_false h1
   rw [this]; simp
  have ht:Ln.takeB v.k (toK p)=false:=by unfold Ln.takeB; rw [ho]; simp
  have hr:recvS v p x.1.G.now v.hd=v:=by
   unfold recvS Ln.recvK Ln.recvL
   rw [ho]; rfl
  simp only []
  rw [if_neg (by rw [ht]; decide),hr]
  have:setV x.2 p.se (some v)=x.2:=by
   funext j
   unfold setV
   by_cases h:j=p.se
   ·rw [if_pos h,h,hv]
   ·rw [if_neg h]
  rw [this]
end Gw
namespace En
open Go.RowKit Ba Mem
section
open En
theorem xc_ {X:Cx} {s:St} {o:Oper} {K:St→Prop} {t:TypeId} {x:Operand} {g off:Nat} {ad:Addr} (v:SV) (hr:∀ w,Hold X s.m s.ob w→w.rangeAt g off [den s.m v]) (h:put X.n o.dst v s K) (hX:X.Ok:=by exact ⟨En.tab_ok⟩) (ho:o.op=.load t x:=by rfl) (hx:evO x s.fr=some (.v (.pointer (some ad))):=by rfl) (had:ad=⟨g,off,none⟩:=by first | (simp only [Go.WideShapes.add_plain]; done)|(simp only [Go.WideShapes.add_plain]; rfl)) (hn:(match tyO t X.tab with | some y=>!y.row | none=>false)=true:=by rfl) (hv:okV s.m.length v=true:=by rfl):OpVC X o s K:=opxc v hr hX ho hx had h hn hv
end
section
variable {X:Cx} {s:St} {o:Oper} {t:TypeId}
theorem run_b0 {P:Program} (w:World) (t e:TypeId) (ie:TypeInfo) (hu:P.underlying t=some (.slice e)) (hie:P.info? e=some ie):(Instr.buildSlice t 0 #[]).run P w=.ok (.slice (some ⟨w.heap.size,0,none⟩) 0 0) (w.alloc (.cells #[] e)):=by
 have e:(Array.map (fun _:Nat=>(default:Value)) (Array.range 0))=#[]:=by simp
 simp [Instr.buildSlice,run_underlying hu,sizeOf,typeInfo,hie,Instr.fill,newRow,e]
theorem opb0 {K:St→Prop} {α:Type} (E:Ek α) (ho:o.op=.buildSlice t 0 #[]) (hu:X.P.underlying t=some (.slice E.t)) (hie:(X.P.info? E.t).isSome=true)
  (h:∀ g:Nat,appO s.ob (rwO E X.w0.heap.size (some ⟨g,0,none⟩) 0 0 [] true) fun ob=>put X.n o.dst (.v (.slice (some ⟨g,0,none⟩) 0 0)) ⟨s.fr,s.m,ob⟩ K):OpVC X o s K:=⟨fun a w Q hR=>by
 obtain ⟨ie,hie⟩:=Option.isSome_iff_exists.1 hie
 have hst:(rwO E X.w0.heap.size (some ⟨w.heap.size,0,none⟩) 0 0 [] true).st (w.alloc (.cells #[] E.t)) :=
  ⟨by simp [rowsOf],.inr ⟨w.heap.size,0,#[],rfl,hR.h.upd.size,Blk.new _ _ _,Nat.le_refl _,by unfold maxLen; omega,by simp,by simp [rowsOf]⟩⟩
 have hH:=hR.h.obj_new (B:=rwO E X.w0.heap.size (some ⟨w.heap.size,0,none⟩) 0 0 [] true) hst ((Since.refl w).alloc _) (by intro g hg; simp only [rwO,blkOf,List.mem_singleton] at hg; omega)
 obtain ⟨s',r1,r2,r3,r4⟩:=put_of (a:=a) (s:=⟨s.fr,s.m,s.ob++[rwO E X.w0.heap.size (some ⟨w.heap.size,0,none⟩) 0 0 [] true]⟩) (v:=.v (.slice (some ⟨w.heap.size,0,none⟩) 0 0)) hR.ds hR.sz hR.fr hH rfl (appO_of (h w.heap.size))
 unfold Oper.wp execOp
 simp only [ho,Array.map_empty,Sem.run_bind,run_b0 w t E.t ie hu hie,Result.andThen_ok]
 exact ⟨s',r1,by rw [r2]; exact Ext.refl _,r4⟩⟩
theorem pusl (hX:X.Ok) {K:SV→Prop} {y y2:Ty} {x a1 a2:Operand} {ad:Addr} {len cap l h1:Nat} {k1 k2:IntKind} {L H:Int} (ho:o.op=.slice t x (some a1) (some a2) none) (hx:evO x s.fr=some (.v (.slice (some ad) len cap))) (h2:evO a1 s.fr=some (.i k1 L)) (h3:evO a2 s.fr=some (.i k2 H)) (hy:tyO t X.tab=some y) (hs:y.sl=true) (he:tyO y.el X.tab=some y2)
  (hb:(L=l∧H=h1)∧l≤h1∧h1≤cap) (hc:l < cap) (h:K (.v (.slice (some (ad.add (l*y2.size))) (h1 - l) (cap - l)))):PuVC X o s K :=
 ⟨⟨.v (.slice (some (ad.add (l*y2.size))) (h1 - l) (cap - l)),rfl,fun a hf w=>by
  obtain ⟨d,i,T⟩:=(hX.tab _ _ hy).out
  obtain ⟨d',i',T'⟩:=(hX.tab _ _ he).out
  exact exec_slice (s:=y2.size) t y.el x (some a1) (some a2) none ho (by rw [(evO_of hf hx).2]; rfl) (by rw [T.un,T.sl hs]) (by rw [T'.inf]; simp [T'.size]) (by
   have e1:=(evO_of hf h2).2
   have e2:=(evO_of hf h3).2
   simp only [Option.map,e1,e2,den]
   exact sb_lh w k1 k2 hb.1.1 hb.1.2 hb.2.1 hb.2.2) (by rw [if_neg (by omega)]; rfl) rfl rfl,h⟩⟩
theorem push (hX:X.Ok) {K:SV→Prop} {y y2:Ty} {x a1:Operand} {A:Option Addr} {len cap h1:Nat} {k1:IntKind} {H:Int} (ho:o.op=.slice t x none (some a1) none) (hx:evO x s.fr=some (.v (.slice A len cap))) (h3:evO a1 s.fr=some (.i k1 H)) (hy:tyO t X.tab=some y) (hs:y.sl=true) (he:tyO y.el X.tab=some y2)
  (hb:H=h1∧h1≤cap) (h:K (.v (.slice A h1 cap))):PuVC X o s K :=
 ⟨⟨.v (.slice A h1 cap),rfl,fun a hf w=>by
  obtain ⟨d,i,T⟩:=(hX.tab _ _ hy).out
  obtain ⟨d',i',T'⟩:=(hX.tab _ _ he).out
  refine exec_slice (s:=y2.size) t y.el x none (some a1) none ho (by rw [(evO_of hf hx).2]; rfl) (by rw [T.un,T.sl hs]) (by rw [T'.inf]; simp [T'.size]) (by
   have e2:=(evO_of hf h3).2
   simp only [Option.map,e2,den]
   exact sb_h w k1 hb.1 hb.2) ?_ (Nat.sub_zero _) (Nat.sub_zero _)
  split
  ·rfl
  ·cases A with
   | none=>rfl
   | some a=>simp [Addr.add],h⟩⟩
end
end En
namespace Gw
open Go.RowKit Ba Mem En Go.Proofs.YtepfmfalebmcnaaGreatDoor.Ty
open Fm (frm frames nextF frames_none frames_some)
open Byt (BV isB)
open Co (Hold.ob opbi)
set_option maxRecDepth 100000
theorem hold_bv {A:Option Addr} {n nt:Nat} {d:List Int} {w:World} (h:BV w A n d):Hold ⟨Tryz.prog,tab,[],w,nt,[]⟩ [] [bvO A n d] w :=
 Hold.addObj (Hold.nil _ tab [] _ w) (bvO A n d) h (by intro k; cases k) (by intro r hr; cases hr) (by intro A hA; cases hA)
def slE:Ek (Option Addr×Nat×Nat):=⟨29,1,fun x=>[.slice x.1 x.2.1 x.2.2],fun _=>rfl,fun a u hu=>by
 rw [List.mem_singleton.1 hu]; rfl⟩
theorem left_skip {x:Int} {r:List Int} (h:nextF (x::r)=nextF r):(frames (x::r)).2=(frames r).2:=by
 match e:nextF r with
 | (none,rest)=>rw [frames_none _ _ (h.trans e),frames_none _ _ e]
 | (some p,rest)=>rw [frames_some _ _ _ (h.trans e),frames_some _ _ _ e]
theorem bv_rng {w:World} {g off n i:Nat} {zs:List Int} {v:Int} (h:BV w (some ⟨g,off,none⟩) n zs) (hi:i < n) (hv:zs.getD i 0=v):w.rangeAt g (off+i) [.int .u8 v]:=fun j u hj=>by
 obtain ⟨b,o,e,_,hc⟩:=h.addr (by omega)
 cases e
 cases j with
 | zero =>
  simp at hj
  subst hj
  rw [← hv]
  exact hc i hi
 | succ j=>simp at hj
section
variable {x:Int} {r:List Int} {nb:Nat}
theorem nf_0 (h:x≠165):nextF (x::r)=nextF r:=by rw [nextF,if_pos h]
theorem nf_1:nextF [165]=(none,[165]):=by rw [nextF,if_neg (by simp),if_pos rfl]
theorem nf_2 (hr:r≠[]) (h:r.getD 0 0 < 1∨64 < r.getD 0 0):nextF (165::r)=nextF r:=by rw [nextF,if_neg (by simp),if_neg hr,if_pos h]
theorem nf_3 (hr:r≠[]) (hb:r.getD 0 0=(nb:Int)) (h:1≤nb∧nb≤64) (hl:r.length < nb+5):nextF (165::r)=(none,165::r):=by rw [nextF,if_neg (by simp),if_neg hr,hb,if_neg (by omega),if_pos (by rw [Int.toNat_natCast]; exact hl)]
theorem nf_4 (hr:r≠[]) (hb:r.getD 0 0=(nb:Int)) (h:1≤nb∧nb≤64) (hl:¬ r.length < nb+5):nextF (165::r)=if (165::r).take (nb+6)=frm (r.tail.take nb) then (some (r.tail.take nb),(165::r).drop (nb+6)) else nextF r:=by rw [nextF,if_neg (by simp),if_neg hr,hb,if_neg (by omega),if_neg (by rw [Int.toNat_natCast]; exact hl),Int.toNat_natCast]
end
attribute [local irreducible] Go.Calls frames frm nextF
set_option maxHeartbeats 8000000 in
theorem framesL {A:Option Addr} {n c0:Nat} {d:List Int} {w:World} (h:BV w A n d) (hn:n≤30000) (hc:n≤c0):Calls Tryz.prog 51 #[.slice A n c0] w fun e w'=>∃ y:Value×Option Addr×Nat,e=.returned (.tuple #[y.1,.slice y.2.1 (frames d).2.length y.2.2])∧Since w w':=by
 obtain ⟨g,off,hA⟩:∃ g off,0 < n→A=some ⟨g,off,none⟩:=by
  rcases Nat.eq_zero_or_pos n with h0 | h0
  ·exact ⟨0,0,fun h=>by omega⟩
  ·obtain ⟨b,o,e,_⟩:=h.addr (by omega)
   exact ⟨b,o,fun _=>e⟩
 have hdl:=h.1
 have hdb:=h.2.2.1
 refine entH tab_ok (Hold.addObj (hold_bv h) (rwO slE w.heap.size none 0 0 [] true) (Ek.nil _ _ _) (by intro _ g hg; cases hg) (by intro r hr; cases hr) (by intro A hA _ g hg hg2; cases hg2)) [.v (.slice A n c0)] Tryz.func51 Tryz.ntmps51 rfl rfl ?_
 repeat' (first | refine gq_ ?_|((conv=>whnf); first | refine bto ?_|refine bfo ?_|refine fin_s ?_))
 conv=>whnf
 refine lp ⟨tab_ok⟩ (ι:={v:(Option Addr×Nat×Nat×Nat)×(Option Addr×Nat×List (Option Addr×Nat×Nat)) // v.1.2.1+v.1.2.2.2=n∧v.1.2.1≤v.1.2.2.1∧(0 < v.1.2.1→v.1.1=some ⟨g,off+v.1.2.2.2,none⟩)∧v.2.2.2.length≤v.1.2.2.2∧(frames (d.drop v.1.2.2.2)).2=(frames d).2}) (fun v=>match v with | ⟨((A',m,c',k),(B,cb,os)),_⟩=>⟨[(0,.v (.slice A' m c')),(4,.v (.slice B os.length cb))],[],[bvO A n d,rwO slE w.heap.size B os.length cb os true]⟩) (fun v=>v.1.1.2.1) ⟨((A,n,c0,0),(none,0,[])),rfl,hc,fun h=>hA h,Nat.le_refl _,rfl⟩ (wk ?_) ?_
 ·repeat' (first | exact trivial | rfl | ((conv=>whnf); refine And.intro ?_ ?_))
 rintro ⟨⟨⟨A',m,c',k⟩,⟨B,cb,os⟩⟩,h1,h2,h3,h4,hfr⟩
 have h1:m+k=n:=h1
 have h2:m≤c':=h2
 have h3:0 < m→A'=some ⟨g,off+k,none⟩:=h3
 have h4:os.length≤k:=h4
 have hfr:(frames (d.drop k)).2=(frames d).2:=hfr
 by_cases hz:m=0
 ·have hm:(frames d).2.length=0:=by
   rw [← hfr,List.drop_eq_nil_of_le (by omega),frames_none [] [] (by unfold nextF; rfl)]; rfl
  repeat' (first | refine gs_ ?_|((conv=>whnf); first | refine bto ?_|refine bfo ?_|refine fin fun w' hH=>⟨(.slice B os.length cb,none,0),by rw [hm]; rfl,hH.upd.since⟩|refine fin_s ?_))
 have h3:=h3 (by omega)
 subst h3
 have hA:=hA (by omega)
 obtain ⟨x,r,hxr⟩:∃ x r,d.drop k=x::r:=⟨_,_,List.drop_eq_getElem_cons (by omega)⟩
 have hl:r.length+1=m:=by
  have:=congrArg List.length hxr
  rw [List.length_drop,List.length_cons] at this
  omega
 have hdr:d.drop (k+1)=r:=by rw [← List.drop_drop,hxr]; rfl
 have hxb:∀ z∈x::r,isB z:=fun z hz=>hdb z (List.mem_of_mem_drop (by rw [hxr]; exact hz))
 have bvk:∀ w1:World,BV w1 A n d→BV w1 (some ⟨g,off+k,none⟩) m (x::r):=fun w1 hb=>by
  rw [hA] at hb
  have q:=hb.drop (k:=k) (by omega)
  rw [hxr,show n - k=m by omega] at q
  exact q
 have hcut:∀ j,0 < m - j→cutA c' j (some ⟨g,off+k,none⟩) 1=some ⟨g,off+(k+j),none⟩:=fun j h=>by
  unfold cutA
  rw [if_neg (by omega)]
  simp [Go.WideShapes.add_plain,Nat.add_assoc]
 obtain ⟨nb,hb1⟩:∃ nb:Nat,r.getD 0 0=(nb:Int):=by
  cases r with
  | nil=>exact ⟨0,rfl⟩
  | cons y q =>
   have:isB y:=hxb y (by simp)
   unfold isB at this
   exact ⟨y.toNat,by show y=_; omega⟩
 have hbn:(x::r).getD 1 0=(nb:Int):=by rw [← hb1]; simp [List.getD]
 have hnb:nb < 256:=by
  cases r with
  | nil=>have:(0:Int)=nb:=hb1; omega
  | cons y q =>
   have:isB y:=hxb y (by simp)
   unfold isB at this
   have:y=(nb:Int):=hb1
   omega
 obtain ⟨pz,hpz⟩:∃ pz,pz=((x::r).drop 2).take (2+nb - 2):=⟨_,rfl⟩
 obtain ⟨tz,htz⟩:∃ tz,tz=(x::r).take (nb+6):=⟨_,rfl⟩
 have hpz2:pz=r.tail.take nb:=by rw [hpz,show 2+nb - 2=nb by omega]; cases r <;> rfl
 have hpb:∀ z∈pz,isB z:=fun z hz=>hxb z (List.mem_of_mem_drop (List.mem_of_mem_take (by rw [← hpz]; exact hz)))
 have htb:∀ z∈tz,isB z:=fun z hz=>hxb z (List.mem_of_mem_take (by rw [← htz]; exact hz))
 have hst:=Byt.str_tl (Fm.frm_isB hpb) htb
 have hr:2≤m→r≠[]:=fun h e=>by rw [e] at hl; simp at hl; omega
 have bvp:nb+6≤m→∀ w1:World,BV w1 A n d→BV w1 (some (Addr.add ⟨g,off+k,none⟩ (2*1))) (2+nb - 2) pz:=fun h w1 hb=>by
  rw [Go.WideShapes.add_plain,hpz]
  exact ((bvk w1 hb).drop (k:=2) (by omega)).cut (by omega)
 have hfl:nb+6≤m→(frm pz).length=nb+6:=fun h=>by rw [Fm.frm_length,hpz2,List.length_take,List.length_tail]; omega
 have hnf:x=165→1≤nb∧nb≤64→nb+6≤m→nextF (x::r)=if tz=frm pz then (some pz,(x::r).drop (nb+6)) else nextF r:=fun hx h h2=>by
  subst hx; rw [htz,hpz2]; exact nf_4 (hr (by omega)) hb1 h (by omega)
 have hnx:(x≠165∨x=165∧2≤m∧(nb < 1∨64 < nb))∨(x=165∧(1≤nb∧nb≤64)∧nb+6≤m)∧decide (tz=frm pz)=false→nextF (x::r)=nextF r:=by
  rintro ((h | ⟨h,h2,h3⟩) | ⟨⟨h,h2,h3⟩,h4⟩)
  ·exact nf_0 h
  ·subst h; exact nf_2 (hr h2) (by rw [hb1]; omega)
  ·rw [hnf h h2 h3,if_neg (of_decide_eq_false h4)]
 have hm:x=165∧(m < 2∨(1≤nb∧nb≤64)∧2≤m∧m < nb+6)→(frames d).2.length=m:=by
  rintro ⟨h,h2⟩
  subst h
  rw [← hfr,hxr]
  rcases h2 with h2 | ⟨h2,h3,h4⟩
  ·obtain rfl:r=[]:=List.eq_nil_of_length_eq_zero (by omega)
   rw [frames_none _ _ nf_1]; exact hl
  ·rw [frames_none _ _ (nf_3 (hr h3) hb1 h2 (by omega)),List.length_cons]; exact hl
 have hfr2:(x=165∧(1≤nb∧nb≤64)∧nb+6≤m)→decide (tz=frm pz)=true→(frames (d.drop (k+(nb+6)))).2=(frames d).2:=fun h h2=>by
  rw [← List.drop_drop,← hfr,hxr,frames_some _ _ _ ((hnf h.1 h.2.1 h.2.2).trans (if_pos (of_decide_eq_true h2)))]
 have hol:∀ x:Option Addr×Nat×Nat,(os++[x]).length≤k+(nb+6):=fun x=>by rw [List.length_append]; simp only [List.length_cons,List.length_nil]; omega
 repeat' (first | refine gq_ ?_|((conv=>whnf); first | refine drA (id:=8) ⟨tab_ok⟩ [5,10] ?_|refine And.intro ?_ ?_|refine bto ?_|refine bfo ?_|refine wr_i ?_|refine br_ne (fun hx=>?_) (fun hx=>?_)|refine br_dec (fun hq=>?_) (fun hq=>?_)|refine br_b (fun hne=>?_) (fun hne=>?_)|refine iv_ ?_|refine ui_ ?_|refine xc_ (g:=g) (off:=off+k+0) (.i .u8 x) (fun w1 hH=>bv_rng (bvk w1 (Hold.ob hH (A:=bvO A n d) 0 rfl)) (by omega) rfl) ?_|refine xc_ (g:=g) (off:=off+k+1) (.i .u8 (nb:Int)) (fun w1 hH=>bv_rng (bvk w1 (Hold.ob hH (A:=bvO A n d) 0 rfl)) (by omega) hbn) ?_|refine pusl ⟨tab_ok⟩ (l:=2) (h1:=2+nb) (by rfl) (by rfl) (by rfl) (by rfl) (by rfl) (by rfl) (by rfl) ⟨⟨rfl,by omega⟩,by omega,by omega⟩ (by omega) ?_|refine push ⟨tab_ok⟩ (h1:=nb+6) (by rfl) (by rfl) (by rfl) (by rfl) (by rfl) (by rfl) ⟨by omega,by omega⟩ ?_|refine callN (f:=19) (ι:=Option Addr×Nat) (fun y=>.v (.slice y.1 (nb+6) y.2)) (fun y=>rwO byteE w.heap.size y.1 (nb+6) y.2 (frm pz) true) (fun w1 hH=>(Fw.frameR (some (Addr.add ⟨g,off+k,none⟩ (2*1))) (2+nb - 2) (c' - 2) pz w1 (bvp (by omega) w1 (Hold.ob hH (A:=bvO A n d) 0 rfl)) (by omega)).mono (by rintro e w' ⟨A1,c1,rfl,h1,h2⟩; rw [hfl (by omega)] at h1 ⊢; exact ⟨(A1,c1),rfl,Ek.base (byte_own.2 h1) hH.upd.size,h2,Ek.lows (byte_own.2 h1)⟩)) (fun y=>?_)|refine opcs (A:=y.1) (n:=nb+6) (zs:=frm pz) (by rfl) (by rfl) (fun w1 hH=>Byt.BV.of_own (byte_own.1 (Hold.ob hH (A:=rwO byteE w.heap.size y.1 (nb+6) y.2 (frm pz) true) 2 rfl)) (Fm.frm_isB hpb)) (Tryz.underlying29) (Tryz.underlying5) (Tryz.underlying9) ?_|refine opcs (A:=some ⟨g,off+k,none⟩) (n:=nb+6) (zs:=tz) (by rfl) (by rfl) (fun w1 hH=>by rw [htz]; exact (bvk w1 (Hold.ob hH (A:=bvO A n d) 0 rfl)).cut (by omega)) (Tryz.underlying29) (Tryz.underlying5) (Tryz.underlying9) ?_|refine opb0 byteE (by rfl) (Tryz.underlying29) (by kernel_rfl) (fun g0=>?_)|refine opsl (lo:=none) (hi:=none) ⟨tab_ok⟩ (l:=2) (h1:=2+nb) (by rfl) (by rfl) (by rfl) (by rfl) (by rfl) (by rfl) (by rfl) ⟨⟨rfl,by omega⟩,by omega,by omega⟩ (by omega) ?_|refine opapo 3 0 (e:=5) (lo:=w.heap.size) (size:=1) (bytes:=1) (z:=.int .u8 0) (A:=rwO byteE w.heap.size (some ⟨g0,0,none⟩) 0 0 [] true) (C:=bvO A n d) (vals:=[]) (cells:=Byt.cells pz) (zs:=Byt.cells pz) (n2:=2+nb - 2) (fun A1 c1=>rwO byteE w.heap.size A1 (2+nb - 2) c1 pz true) (by rfl) (by rfl) (by rfl) (by rfl) rfl rfl (fun w h=>h) (fun A' c' w h=>byte_own.2 h) (fun _ _=>rfl) (by rfl) (fun w1 h=>(bvp (by omega) w1 h).reads) Tryz.underlying29 (by kernel_rfl) rfl (by decide) (by decide) (by intro u hu; obtain ⟨z,_,rfl⟩:=List.mem_map.1 hu; rfl) (by omega) (fun w hH=>hH.upd.size) (by omega) rfl (fun A1 c1=>?_)|refine opbi (e:=29) ⟨tab_ok⟩ (.v (.slice A1 (2+nb - 2) c1)) (by rfl) (by rfl) ?_|intro gb | refine opap 1 0 (e:=29) (lo:=w.heap.size) (size:=1) (bytes:=24) (z:=.slice none 0 0) (A:=rwO slE w.heap.size B os.length cb os true) (vals:=rowsOf slE.c os) (cells:=[.slice A1 (2+nb - 2) c1]) (zs:=rowsOf slE.c (os++[(A1,2+nb - 2,c1)])) (n2:=(os++[(A1,2+nb - 2,c1)]).length) (fun A2 c2=>rwO slE w.heap.size A2 (os++[(A1,2+nb - 2,c1)]).length c2 (os++[(A1,2+nb - 2,c1)]) true) (by rfl) (by rfl) (by rfl) (by rfl) rfl rfl (fun w h=>h) (fun A' c' w h=>h) (fun _ _=>rfl) (by rfl) (by rfl) (by rfl) (by rfl) Tryz.underlying97 (by kernel_rfl) rfl (by decide) (by decide) (by intro u hu; simp at hu; rcases hu with rfl; rfl) (by omega) (fun w hH=>hH.upd.size) (by rw [List.length_append]; rfl) (by rw [rowsOf_append]; rfl) (fun A2 c2=>?_)|refine opst_ ⟨tab_ok⟩ (nb+6) (by rfl) (by rfl) (by rfl) (by rfl) (by rfl) (by rfl) ⟨by omega,by omega⟩ ?_|refine opst_ ⟨tab_ok⟩ 1 (by rfl) (by rfl) (by rfl) (by rfl) (by rfl) (by rfl) ⟨rfl,by omega⟩ ?_|refine En.back ⟨((cutA c' (nb+6) (some ⟨g,off+k,none⟩) 1,m - (nb+6),c' - (nb+6),k+(nb+6)),(A2,c2,os++[(A1,2+nb - 2,c1)])),(by show m - (nb+6)+(k+(nb+6))=n; omega),(by show m - (nb+6)≤c' - (nb+6); omega),hcut _,hol _,hfr2 (by omega) (hst.symm.trans hne)⟩ (wkd ?_) ?_|refine En.back ⟨((cutA c' 1 (some ⟨g,off+k,none⟩) 1,m - 1,c' - 1,k+1),(B,cb,os)),(by show m - 1+(k+1)=n; omega),(by show m - 1≤c' - 1; omega),hcut _,(by show os.length≤k+1; omega),(by show (frames (d.drop (k+1))).2=_; rw [hdr,← hfr,hxr,left_skip (hnx (by first | exact .inl (by omega)|exact .inr ⟨by omega,hst.symm.trans hne⟩))])⟩ (wkd ?_) ?_|refine fin fun w' hH=>⟨(.slice B os.length cb,some ⟨g,off+k,none⟩,c'),by rw [hm (by omega)]; rfl,hH.upd.since⟩|refine fin_s ?_))
 all_goals first | (show m - 1 < m; omega)|(show m - (nb+6) < m; omega)|skip
 all_goals (repeat' (first | exact trivial | rfl | ((conv=>whnf); refine And.intro ?_ ?_)))
end Gw
namespace Gw
open Go.RowKit Ba Mem En Go.Proofs.YtepfmfalebmcnaaGreatDoor.Ty
open Ri (MsgV)
open Ln (winV)
open Mg (bytesOf mayB may_has head_iff msg_iff bytes_isB bytesH)
open Fm (frm frames)
open Byt (BV isB)
open Lc (UQ)
open Co (EvV Hold.ob)
set_option maxRecDepth 100000
theorem do_xs {c:CfgV} {g:Gs} {k a b:Int} {d:List Int} (hx:g.xs=[]) (hd:(frames d).2=[]):(doV c g k a b d).1.xs=[]:=by
 unfold doV
 by_cases h1:k=1
 ·rw [if_pos h1]; exact hx
 rw [if_neg h1]
 by_cases h2:k=2
 ·rw [if_pos h2]
  show (frames (g.xs++d)).2=[]
  rw [hx]; exact hd
 rw [if_neg h2]
 by_cases h3:3≤k∧k≤7
 ·rw [if_pos h3]; exact hx
 rw [if_neg h3]
 by_cases h8:k=8
 ·rw [if_pos h8]; exact hx
 ·rw [if_neg h8]; exact hx
theorem do_xs2 {c:CfgV} {g:Gs} {k a b:Int} {d:List Int} (hx:g.xs=[]) (hd:k=2→(frames d).2=[]):(doV c g k a b d).1.xs=[]:=by
 by_cases h2:k=2
 ·exact do_xs hx (hd h2)
 ·unfold doV
  by_cases h1:k=1
  ·rw [if_pos h1]; exact hx
  rw [if_neg h1,if_neg h2]
  by_cases h3:3≤k∧k≤7
  ·rw [if_pos h3]; exact hx
  rw [if_neg h3]
  by_cases h8:k=8
  ·rw [if_pos h8]; exact hx
  ·rw [if_neg h8]; exact hx
def noO:Asr:=⟨[],true,fun _=>True,fun _ _ _=>trivial,fun _ _ hg=>by cases hg⟩
attribute [local irreducible] Go.Calls frames
theorem leftT {A:Option Addr} {n c0:Nat} {d:List Int} {w:World} (h:BV w A n d) (hn:n≤30000) (hc:n≤c0):Calls Tryz.prog 22 #[.slice A n c0] w fun e w'=>∃ y:Option Addr×Nat,e=.returned (.slice y.1 (frames d).2.length y.2)∧Since w w':=by
 refine entH tab_ok (hold_bv h) [.v (.slice A n c0)] Tryz.func22 Tryz.ntmps22 rfl rfl ?_
 repeat' (first | refine gs_ ?_|((conv=>whnf); first | intro b | refine callN (f:=51) (ι:=Value×Option Addr×Nat) (fun y=>.t [.v y.1,.v (.slice y.2.1 (frames d).2.length y.2.2)]) (fun _=>noO) (fun w1 hH=>(framesL (Hold.ob hH (A:=bvO A n d) 0 rfl) hn hc).mono (by rintro e w' ⟨y,rfl,h5⟩; exact ⟨y,rfl,trivial,h5,fun g hg=>by cases hg⟩)) (fun y=>?_)|refine fin fun w' hH=>⟨y.2,rfl,hH.upd.since⟩|refine fin_s ?_))
end Gw
namespace Lc
open Go.RowKit Ba Mem En Go.Proofs.YtepfmfalebmcnaaGreatDoor.Ty Mo Go.Proofs.YtepfmfalebmcnaaGreatDoor.St Co
open Fl (leaE)
open Qu (askE)
set_option maxRecDepth 100000
attribute [local irreducible] Go.Calls
theorem two_rows {α:Type} {E:Ek α} {la lb ca cb n nt:Nat} {A B:Option Addr} {xs ys:List α} {w:World} (ha:E.At la A n ca xs w) (hb:E.At lb B n cb ys w):Hold ⟨Tryz.prog,tab,[],w,nt,[]⟩ [] [rwO E la A n ca xs false,rwO E lb B n cb ys false] w :=
 Hold.addObj (Hold.addObj (Hold.nil _ tab [] _ w) (rwO E la A n ca xs false) ha (by intro k; cases k) (by intro r hr; cases hr) (by intro A hA; cases hA)) (rwO E lb B n cb ys false) hb (by intro k; cases k) (by intro r hr; cases hr) (by intro G hG k; rcases List.mem_append.1 hG with hG | hG; cases hG; rw [List.mem_singleton] at hG; subst hG; rcases k with k | k <;> cases k)
set_option maxHeartbeats 4000000 in
theorem sameL {la lb ca cb:Nat} {A B:Option Addr} {ls:List LeaseV} {w:World} (hl:ls.length≤10000) (ha:leaE.At la A ls.length ca ls w) (hb:leaE.At lb B ls.length cb ls w):Calls Tryz.prog 26 #[.slice A ls.length ca,.slice B ls.length cb] w fun e w'=>e=.returned (.bool true)∧Since w w':=by
 obtain ⟨g,hg⟩:=Ek.addr ha
 obtain ⟨g2,hg2⟩:=Ek.addr hb
 refine entH tab_ok (two_rows ha hb) [.v (.slice A ls.length ca),.v (.slice B ls.length cb)] Tryz.func26 Tryz.ntmps26 rfl rfl ?_
 repeat' (first | refine gs_ ?_|((conv=>whnf); first | intro b | refine br_t (beq_self_eq_true _) ?_|refine fin_s ?_))
 conv=>whnf
 refine lp ⟨tab_ok⟩ (ι:={k:Nat // k≤ls.length}) (fun x=>match x with | ⟨k,_⟩=>⟨[(0,.v (.slice A ls.length ca)),(1,.v (.slice B ls.length cb)),(5,.i .i64 (k:Int))],[],[rwO leaE la A ls.length ca ls false,rwO leaE lb B ls.length cb ls false]⟩) (fun k=>ls.length - k.1) ⟨0,Nat.zero_le _⟩ (wk ?_) ?_
 ·repeat' (first | exact trivial | rfl | ((conv=>whnf); refine And.intro ?_ ?_))
 rintro ⟨k,hkl⟩
 by_cases hlt:k < ls.length
 ·obtain ⟨x,hx⟩:∃ x,ls[k]?=some x:=⟨_,List.getElem?_eq_getElem (by omega)⟩
  have hg:=hg (by omega)
  have hg2:=hg2 (by omega)
  subst hg hg2
  repeat' (first | refine gq_ ?_|((conv=>whnf); first | intro b | refine bto ?_|refine bfo ?_|refine wr_i ?_|refine drA ⟨tab_ok⟩ [3,7] ?_|refine And.intro ?_ ?_|refine iv_ ?_|refine ui_ ?_|refine opix (g:=g) (off:=0+k*10) [.i .i64 x.se,.i .i64 x.fl,.i .i64 x.fm,.i .i64 x.to,.i .i64 x.ma,.i .i64 x.ca,.i .i64 x.ph,.i .i64 x.un,.i .i64 x.re,.i .i64 x.gr] (fun w hH=>Ek.rng (Hold.ob hH (A:=rwO leaE la (some ⟨g,0,none⟩) ls.length ca ls false) 0 rfl) hx) ⟨tab_ok⟩ (by rfl) (by rfl) (by simp only [Go.WideShapes.add_plain]; rfl) ?_|refine opix (g:=g2) (off:=0+k*10) [.i .i64 x.se,.i .i64 x.fl,.i .i64 x.fm,.i .i64 x.to,.i .i64 x.ma,.i .i64 x.ca,.i .i64 x.ph,.i .i64 x.un,.i .i64 x.re,.i .i64 x.gr] (fun w hH=>Ek.rng (Hold.ob hH (A:=rwO leaE lb (some ⟨g2,0,none⟩) ls.length cb ls false) 1 rfl) hx) ⟨tab_ok⟩ (by rfl) (by rfl) (by simp only [Go.WideShapes.add_plain]; rfl) ?_|refine br_t (by simp only [beq_self_eq_true,Bool.and_self]) ?_|refine back ⟨k+1,by omega⟩ (wkd ?_) ?_|refine fin_s ?_))
  all_goals first | (show ls.length - (k+1) < ls.length - k; omega)|skip
  all_goals (repeat' (first | exact trivial | rfl | ((conv=>whnf); refine And.intro ?_ ?_)))
 ·repeat' (first | refine gs_ ?_|((conv=>whnf); first | intro b | refine bto ?_|refine bfo ?_|refine fin_s ?_))
  all_goals rfl
set_option maxHeartbeats 4000000 in
theorem sameA {la lb ca cb:Nat} {A B:Option Addr} {ls:List AskV} {w:World} (hl:ls.length≤10000) (ha:askE.At la A ls.length ca ls w) (hb:askE.At lb B ls.length cb ls w):Calls Tryz.prog 29 #[.slice A ls.length ca,.slice B ls.length cb] w fun e w'=>e=.returned (.bool true)∧Since w w':=by
 obtain ⟨g,hg⟩:=Ek.addr ha
 obtain ⟨g2,hg2⟩:=Ek.addr hb
 refine entH tab_ok (two_rows ha hb) [.v (.slice A ls.length ca),.v (.slice B ls.length cb)] Tryz.func29 Tryz.ntmps29 rfl rfl ?_
 repeat' (first | refine gs_ ?_|((conv=>whnf); first | intro b | refine br_t (beq_self_eq_true _) ?_|refine fin_s ?_))
 conv=>whnf
 refine lp ⟨tab_ok⟩ (ι:={k:Nat // k≤ls.length}) (fun x=>match x with | ⟨k,_⟩=>⟨[(0,.v (.slice A ls.length ca)),(1,.v (.slice B ls.length cb)),(5,.i .i64 (k:Int))],[],[rwO askE la A ls.length ca ls false,rwO askE lb B ls.length cb ls false]⟩) (fun k=>ls.length - k.1) ⟨0,Nat.zero_le _⟩ (wk ?_) ?_
 ·repeat' (first | exact trivial | rfl | ((conv=>whnf); refine And.intro ?_ ?_))
 rintro ⟨k,hkl⟩
 by_cases hlt:k < ls.length
 ·obtain ⟨x,hx⟩:∃ x,ls[k]?=some x:=⟨_,List.getElem?_eq_getElem (by omega)⟩
  have hg:=hg (by omega)
  have hg2:=hg2 (by omega)
  subst hg hg2
  repeat' (first | refine gq_ ?_|((conv=>whnf); first | intro b | refine bto ?_|refine bfo ?_|refine wr_i ?_|refine drA ⟨tab_ok⟩ [3,7] ?_|refine And.intro ?_ ?_|refine iv_ ?_|refine ui_ ?_|refine opix (g:=g) (off:=0+k*5) [.i .i64 x.se,.i .i64 x.fl,.i .i64 x.fm,.i .i64 x.to,.i .i64 x.ma] (fun w hH=>Ek.rng (Hold.ob hH (A:=rwO askE la (some ⟨g,0,none⟩) ls.length ca ls false) 0 rfl) hx) ⟨tab_ok⟩ (by rfl) (by rfl) (by simp only [Go.WideShapes.add_plain]; rfl) ?_|refine opix (g:=g2) (off:=0+k*5) [.i .i64 x.se,.i .i64 x.fl,.i .i64 x.fm,.i .i64 x.to,.i .i64 x.ma] (fun w hH=>Ek.rng (Hold.ob hH (A:=rwO askE lb (some ⟨g2,0,none⟩) ls.length cb ls false) 1 rfl) hx) ⟨tab_ok⟩ (by rfl) (by rfl) (by simp only [Go.WideShapes.add_plain]; rfl) ?_|refine br_t (by simp only [beq_self_eq_true,Bool.and_self]) ?_|refine back ⟨k+1,by omega⟩ (wkd ?_) ?_|refine fin_s ?_))
  all_goals first | (show ls.length - (k+1) < ls.length - k; omega)|skip
  all_goals (repeat' (first | exact trivial | rfl | ((conv=>whnf); refine And.intro ?_ ?_)))
 ·repeat' (first | refine gs_ ?_|((conv=>whnf); first | intro b | refine bto ?_|refine bfo ?_|refine fin_s ?_))
  all_goals rfl
end Lc
namespace Gw
open Go.RowKit Ba Mem En Go.Proofs.YtepfmfalebmcnaaGreatDoor.Ty
open Mg (PktV pktC bytesOf mayB headB msgB noMsg may_has may_not head_iff msg_iff)
open Fm (frm frames)
open Byt (BV isB)
open Co (Hold.ob)
set_option maxRecDepth 100000
theorem by_len (p:PktV):1≤(bytesOf p).length∧(bytesOf p).length≤21:=by
 unfold bytesOf
 split <;> simp [Mg.headL,Mg.bodyL]
theorem do_stale {c:CfgV} {g:Gs} {p:PktV} {J:List Int} (hx:g.xs=[]) (hJ:∀ z∈J,z≠165) (hm:mayB p=true) (h0:p.ep≠0) (h1:p.ep≠epochV g.x.2 p.se):doV c g 2 0 0 (J++frm (bytesOf p))=(g,[],0):=by
 have hl:=by_len p
 have hf:frames (g.xs++(J++frm (bytesOf p)))=([bytesOf p],[]):=by
  rw [hx,List.nil_append]; exact Fm.frames_junk J _ hJ hl.1 (by omega)
 have hr:runL c (g.x,g.ep) [bytesOf p]=(g.x,g.ep):=by
  show (if (Mg.getV (bytesOf p)).2=0 then comeK c g.x g.ep (Mg.getV (bytesOf p)).1 else (g.x,g.ep))=_
  rw [Mg.back _ hm,if_pos rfl]
  exact come_stale h0 h1
 unfold doV
 rw [if_neg (by decide),if_pos rfl,hf,hr]
 obtain ⟨x,ep,xs⟩:=g
 simp only at hx
 subst hx
 rfl
attribute [local irreducible] Go.Calls
set_option maxHeartbeats 2000000 in
theorem mayMsgT (p:PktV) (w:World):Calls Tryz.prog 45 #[.agg #[.int .i64 p.ki,.int .i64 p.a,.int .i64 p.b,.int .i64 p.c]] w fun e w'=>e=.returned (.bool (msgB p))∧Since w w':=by
 refine ent tab_ok [.a [.i .i64 p.ki,.i .i64 p.a,.i .i64 p.b,.i .i64 p.c]] Tryz.func45 Tryz.ntmps45 rfl rfl ?_
 repeat' (first | refine gs_ ?_|((conv=>whnf); first | intro b | refine b3_ (fun h=>?_) (fun h=>?_)|refine fin_s ?_))
 all_goals (refine congrArg Value.bool ?_; unfold msgB; first | (simp; omega)|(rw [Bool.eq_iff_iff]; simp; omega))
set_option maxHeartbeats 4000000 in
theorem mayPT (p:PktV) (w:World):Calls Tryz.prog 17 #[.agg (pktC p)] w fun e w'=>e=.returned (.bool (mayB p))∧Since w w':=by
 cases hh:p.has with
 | false =>
  have hp:pktC p=#[.int .i64 p.se,.int .i64 p.ep,.int .i64 p.sq,.int .i64 p.ak,.bool false,.int .i64 p.ki,.int .i64 p.a,.int .i64 p.b,.int .i64 p.c]:=by unfold pktC; rw [hh]
  rw [hp]
  refine ent tab_ok [.a [.i .i64 p.se,.i .i64 p.ep,.i .i64 p.sq,.i .i64 p.ak,.b false,.i .i64 p.ki,.i .i64 p.a,.i .i64 p.b,.i .i64 p.c]] Tryz.func17 Tryz.ntmps17 rfl rfl ?_
  repeat' (first | refine gs_ ?_|((conv=>whnf); first | intro b | refine b3_ (fun h=>?_) (fun h=>?_)|refine fin_s ?_))
  all_goals (refine congrArg Value.bool ?_; rw [may_not hh]; unfold headB noMsg; first | (simp; omega)|(rw [Bool.eq_iff_iff]; simp; omega))
 | true =>
  have hp:pktC p=#[.int .i64 p.se,.int .i64 p.ep,.int .i64 p.sq,.int .i64 p.ak,.bool true,.int .i64 p.ki,.int .i64 p.a,.int .i64 p.b,.int .i64 p.c]:=by unfold pktC; rw [hh]
  rw [hp]
  refine ent tab_ok [.a [.i .i64 p.se,.i .i64 p.ep,.i .i64 p.sq,.i .i64 p.ak,.b true,.i .i64 p.ki,.i .i64 p.a,.i .i64 p.b,.i .i64 p.c]] Tryz.func17 Tryz.ntmps17 rfl rfl ?_
  repeat' (first | refine gs_ ?_|((conv=>whnf); first | intro b | refine b3_ (fun h=>?_) (fun h=>?_)|refine callH (f:=45) (.b (msgB p)) (fun w1 hH=>mayMsgT p w1) ?_|refine fin_s ?_))
  all_goals (refine congrArg Value.bool ?_; rw [may_has hh]; unfold headB; first | (simp; done)|(simp; omega)|(rw [Bool.eq_iff_iff]; simp; omega))
end Gw
end Go.Proofs.YtepfmfalebmcnaaGreatDoor
