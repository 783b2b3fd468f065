/-
  Wanted: WholeBusy 0.
  No condition.
-/
import Derived.Test.YtepfmfalebmcnaaGreatDoorProg
import Derived.Test.YtepfmfalebmcnaaGreatDoorQH0
import Derived.Test.YtepfmfalebmcnaaGreatDoorQH5
import Derived.Test.YtepfmfalebmcnaaGreatDoorQH6
import Derived.Test.YtepfmfalebmcnaaGreatDoorQH7
import Derived.Test.YtepfmfalebmcnaaGreatDoorQH8
import Derived.Test.YtepfmfalebmcnaaGreatDoorQH9
import Derived.Test.YtepfmfalebmcnaaGreatDoorQH14
import Derived.Test.YtepfmfalebmcnaaGreatDoorQH16
import Derived.Test.YtepfmfalebmcnaaGreatDoorQH12
set_option linter.all false
namespace Go.Proofs.YtepfmfalebmcnaaGreatDoor
namespace Qu
open Go.RowKit Ba Mem Go.Proofs.YtepfmfalebmcnaaGreatDoor.Ty
set_option maxRecDepth 100000
attribute [local irreducible] Go.wpList
namespace CA
set_option maxHeartbeats 4000000 in
theorem cloneNil (w:World):Calls Tryz.prog 80 #[.slice none 0 0] w fun e w'=>e=.returned (.slice none 0 0)∧Since w w':=by
 go_enter Tryz.func80,Tryz.ntmps80
 go_upto_region 1 with fail
 have HS1:=Lib.hid (Since.refl w)
 refine wp_region_lit ?_
 refine tkL (.slice none 0 0) (h:=?_)
 try simp only[Act.put,sA,sB,sC]
 refine tkL (.bool true) (h:=?_)
 try simp only[Act.put,sA,sB,sC]
 refine wpList_nil ?_
 go_upto_region 2 with fail
 refine wp_region_lit ?_
 refine tkL (.slice none 0 0) (h:=?_)
 try simp only[Act.put,sA,sB,sC]
 refine wpList_nil ?_
 (try go_wp2_with fail)
 go_ret
 exact ⟨rfl,HS1.out⟩
set_option maxHeartbeats 4000000 in
theorem cloneSome (ad:Addr) (n c:Nat) (ls:List AskV) (w:World) (hR:Reads w w.heap.size 5 (some ad) n (rowsOf askC ls)) (hN:n≤1000000):Calls Tryz.prog 80 #[.slice (some ad) n c] w fun e w'=>∃ A' c',e=.returned (.slice A' n c')∧w'.ownsRow w.heap.size 69 5 (.slice A' n c') n (rowsOf askC ls)∧Since w w':=by
 have HR:=Lib.hid hR
 clear hR
 have HN:=Lib.hid hN
 clear hN
 go_enter Tryz.func80,Tryz.ntmps80
 go_upto_region 1 with fail
 have HS1:=Lib.hid (Since.refl w)
 refine wp_region_lit ?_
 refine tkL (.slice (some ad) n c) (h:=?_)
 try simp only[Act.put,sA,sB,sC]
 refine tkL (.bool false) (h:=?_)
 try simp only[Act.put,sA,sB,sC]
 refine wpList_nil ?_
 go_upto_region 3 with fail
 refine wp_region_lit ?_
 refine wpList_wp (by rfl) (fun K hK=>?_)
 refine wp_new (fun b=>.slice (some ⟨b,0,none⟩) 0 0) 69 #[] (by rintro b rfl; first | rfl | kernel_rfl) ?_
 intro bn5 w2 hge hB hb
 refine hK.out _ _ ?_
 clear hK K
 try simp only[Act.put,sA,sB,sC]
 have HGn5:=Lib.hid (show w.heap.size≤bn5 by have:=Since.size HS1.out; omega)
 have HS2:=Lib.hid (Since.trans HS1.out hb)
 clear HS1 
 clear hb hge
 have HBn52:=Lib.hid hB
 clear hB
 refine tkL (.slice (some ad) n c) (h:=?_)
 try simp only[Act.put,sA,sB,sC]
 refine wpList_wp (by rfl) (fun K hK=>?_)
 have HOE:=Lib.hid (own_empty (e:=69) (size:=5) HBn52.out HGn5.out)
 clear HBn52
 refine wp_append_row (.tmp 5) (.tmp 6) 51 rfl w.heap.size 69 (Value.agg #[.int .i64 0,.int .i64 0,.int .i64 0,.int .i64 0,.int .i64 0]) 5 40 Tryz.underlying51 (by kernel_rfl) rfl (by decide) (by decide) (some ⟨bn5,0,none⟩) 0 0 ([]) rfl HOE.out _ (some ad) n c (rowsOf askC ls) rfl (own_reads_since HS2.out (Nat.le_refl _) HR.out) (asks_one ls) (by have:=HN.out; omega) HS2.out.size n (rowsOf askC ls) (Nat.zero_add _) rfl ?_
 intro A_1 c_1 w3 hown hupd hfar
 refine hK.out _ _ ?_
 clear hK K
 try simp only[Act.put,sA,sB,sC]
 have HS3:=Lib.hid (Since.upd HS2.out hupd (own_low HOE.out))
 have HFr3:=Lib.hid hown
 clear hupd hown hfar HS2 HOE
 refine tkL (.slice A_1 n c_1) (h:=?_)
 try simp only[Act.put,sA,sB,sC]
 refine wpList_nil ?_
 (try go_wp2_with fail)
 go_ret
 exact ⟨A_1,c_1,rfl,HFr3.out,HS3.out⟩
theorem cloneT (lo:Nat) (A:Option Addr) (c:Nat) (ls:List AskV) (w:World) (hO:w.ownsRow lo 69 5 (.slice A ls.length c) ls.length (rowsOf askC ls)) (hl:ls.length≤1000000):Calls Tryz.prog 80 #[.slice A ls.length c] w fun e w'=>∃ A' c',e=.returned (.slice A' ls.length c')∧w'.ownsRow w.heap.size 69 5 (.slice A' ls.length c') ls.length (rowsOf askC ls)∧Since w w':=by
 rcases own_at hO with ⟨rfl,h0,hx⟩ | ⟨g,cur,rfl,_⟩
 ·have hc:c=0:=by
   rcases hO.2 with ⟨hv,_⟩ | ⟨_,_,_,hv,_⟩
   ·simp at hv; exact hv.2
   ·simp at hv
  subst hc
  rw [hx,h0]
  refine (cloneNil w).mono ?_
  rintro e w1 ⟨rfl,hb⟩
  exact ⟨none,0,rfl,World.ownsRow_nil _ _ _ _,hb⟩
 ·exact cloneSome _ _ c ls w (own_reads hO) hl
end CA
namespace CL
end CL
end Qu
namespace Qu
open Go.RowKit Ba Mem En Go.Proofs.YtepfmfalebmcnaaGreatDoor.Ty
set_option maxRecDepth 100000
attribute [local irreducible] Go.Calls
theorem listT {q lo c:Nat} {room:Int} {ls:List AskV} {A:Option Addr} (w:World) (hq:Blk w q 142 #[.int .i64 room,.slice A ls.length c]) (ho:askE.At lo A ls.length c ls w) (hl:ls.length≤1000000) :
  Calls Tryz.prog 55 #[.pointer (some ⟨q,0,none⟩)] w fun e w'=>∃ A' c',e=.returned (.slice A' ls.length c')∧askE.At w.heap.size A' ls.length c' ls w'∧Since w w':=by
 refine entH tab_ok (hold_qr hq ho) [.p 0 0] Tryz.func55 Tryz.ntmps55 rfl rfl ?_
 repeat' (first | refine gs_ ?_|((conv=>whnf); first | intro b | refine callN (f:=80) (ι:={x:Nat×Option Addr×Nat // w.heap.size≤x.1}) (fun x=>.v (.slice x.1.2.1 ls.length x.1.2.2)) (fun x=>rwO askE x.1.1 x.1.2.1 ls.length x.1.2.2 ls true) (fun w1 hH=>(CA.cloneT lo A c ls w1 (hH.obj (rwO askE lo A ls.length c ls false) (List.mem_singleton.2 rfl)) hl).mono (by rintro e w' ⟨A',c',rfl,hO,hs⟩; exact ⟨⟨(w1.heap.size,A',c'),hH.upd.size⟩,rfl,hO,hs,own_low hO⟩)) (fun x=>?_)|refine fin fun w' hH=>⟨_,_,rfl,own_base (hH.obj (rwO askE _ _ _ _ _ true) (List.mem_cons_of_mem _ (List.mem_cons_self ..))) x.2,hH.upd.since⟩|refine fin_s ?_))
attribute [local irreducible] atS oM
attribute [local irreducible] oQ atI
end Qu
namespace Co
open Go.RowKit Ba Mem En Go.Proofs.YtepfmfalebmcnaaGreatDoor.Ty Mo
open Gr (GrV GO CarsAt WaitsAt carL waitL WaitV pairO newG okT okW)
open Qu (QO askE intE askC btw)
open Le (TO)
open Fl (leaE)
open Ri (MsgV msgC)
open Et (carsO)
set_option maxRecDepth 100000
attribute [local irreducible] Go.Calls
section
variable {w w':World} {lo lo' q:Nat} {p:Pt} {K:KV} {S T:List Nat}
end
section
variable {P:Program} {F:FuncId} {args:Array Value} {w:World} {lo:Nat} {p:Pt} {K:KV} {S:List Nat} {V:Value}
end
section
variable {P:Program} {F:FuncId} {args:Array Value} {w1:World} {n0 n:Nat}
end
section
variable {w:World} {lo:Nat} {p:Pt} {K:KV} {S:List Nat}
theorem BD.asks (h:BD lo p K S w) (hl:K.Q.length≤10000):Calls Tryz.prog 55 #[.pointer (some ⟨p.q,0,none⟩)] w fun e w'=>∃ A' c',e=.returned (.slice A' K.Q.length c')∧askE.At w.heap.size A' K.Q.length c' K.Q w'∧Since w w':=by
 obtain ⟨S1,S2,S3,rfl,h1,⟨_,A,c,rfl,B,O⟩,h3,d⟩:=h
 exact Qu.listT w B O (by omega)
end
end Co
namespace En
open Go.RowKit Ba Mem
end En
namespace Co
open Go.RowKit Ba Mem En Go.Proofs.YtepfmfalebmcnaaGreatDoor.Ty Mo Go.Proofs.YtepfmfalebmcnaaGreatDoor.St
open Gr (GrV GO CarsAt WaitsAt newG okT okW waitsO tickP)
open Qu (QO askE qO)
open Le (TO tO)
open Fl (leaE)
open Ri (MsgV msgC)
open Et (carsO)
set_option maxRecDepth 100000
attribute [local irreducible] Go.Calls
section
variable {lo q:Nat} {p:Pt} {K:KV} {S T:List Nat} {w w':World}
end
section
variable {P:Program} {F:FuncId} {args:Array Value} {lo q:Nat} {p:Pt} {K K':KV} {S:List Nat} {w:World} {V:Value}
end
section
variable {lo q:Nat} {p:Pt} {K:KV} {S:List Nat} {w:World}
theorem leasesK (h:KW lo q p K S w) (hl:K.L.length≤10000):Calls Tryz.prog 28 #[.pointer (some ⟨q,0,none⟩)] w fun e w'=>∃ A' c',e=.returned (.slice A' K.L.length c')∧leaE.At w.heap.size A' K.L.length c' K.L w'∧Since w w':=by
 obtain ⟨S0,hk,hb⟩:=h.rd
 refine entH tab_ok (hold_kr hk hb) [.p 0 0] Tryz.func28 Tryz.ntmps28 rfl rfl ?_
 repeat' (first | refine gs_ ?_|((conv=>whnf); first | intro b | refine callN (f:=54) (ι:=NrA w.heap.size) (fun x=>.v (.slice x.1.2.1 K.L.length x.1.2.2)) (fun x=>rwO leaE x.1.1 x.1.2.1 K.L.length x.1.2.2 K.L true) (fun w1 hH=>toN ((Hold.ob hH (A:=bdO lo p K S0 false) 0 rfl).leases hl) hH.upd.size) (fun x=>?_)|refine fin fun w' hH=>⟨_,_,rfl,own_base (Hold.ob hH (A:=rwO leaE x.1.1 x.1.2.1 K.L.length x.1.2.2 K.L true) 1 rfl) x.2,hH.upd.since⟩|refine fin_s ?_))
theorem queueK (h:KW lo q p K S w) (hl:K.Q.length≤10000):Calls Tryz.prog 30 #[.pointer (some ⟨q,0,none⟩)] w fun e w'=>∃ A' c',e=.returned (.slice A' K.Q.length c')∧askE.At w.heap.size A' K.Q.length c' K.Q w'∧Since w w':=by
 obtain ⟨S0,hk,hb⟩:=h.rd
 refine entH tab_ok (hold_kr hk hb) [.p 0 0] Tryz.func30 Tryz.ntmps30 rfl rfl ?_
 repeat' (first | refine gs_ ?_|((conv=>whnf); first | intro b | refine callN (f:=55) (ι:=NrA w.heap.size) (fun x=>.v (.slice x.1.2.1 K.Q.length x.1.2.2)) (fun x=>rwO askE x.1.1 x.1.2.1 K.Q.length x.1.2.2 K.Q true) (fun w1 hH=>toN ((Hold.ob hH (A:=bdO lo p K S0 false) 0 rfl).asks hl) hH.upd.size) (fun x=>?_)|refine fin fun w' hH=>⟨_,_,rfl,own_base (Hold.ob hH (A:=rwO askE x.1.1 x.1.2.1 K.Q.length x.1.2.2 K.Q true) 1 rfl) x.2,hH.upd.since⟩|refine fin_s ?_))
end
end Co
namespace Gw
open Go.RowKit Ba Mem En Go.Proofs.YtepfmfalebmcnaaGreatDoor.Ty Mp
open Ri (MsgV)
open Co (KV Pt KW Nr NrA toN Hold.ob)
open Gr (doR)
open Lc (hallW pressW loadW2 curtW faultW)
open Et (carsO)
set_option maxRecDepth 100000
attribute [local irreducible] Go.Calls
section
variable {lo gq M:Nat} {c:CfgV} {x:Gp} {ep sk sa sb i:Int} {K:KV} {Sk:List Nat} {D:Fam} {w:World} {dA:Option Addr} {dn dc:Nat}
theorem coreT (hb:Blk w gq 96 (gwA c x ep)):Calls Tryz.prog 27 #[.pointer (some ⟨gq,0,none⟩)] w fun e w'=>e=.returned (.pointer (some ⟨x.q,0,none⟩))∧Since w w':=by
 refine entH tab_ok (hold_q (S:=[]) (gwS c x ep) hb) [.p 0 0] Tryz.func27 Tryz.ntmps27 rfl rfl ?_
 repeat' (first | refine gs_ ?_|((conv=>whnf); first | intro b | refine fin_s ?_))
 all_goals rfl
end
end Gw
namespace Gw
open Go.RowKit Ba Mem En Go.Proofs.YtepfmfalebmcnaaGreatDoor.Ty
open Byt (BV isB)
open Co (Hold.ob)
set_option maxRecDepth 100000
attribute [local irreducible] Go.Calls
theorem lightT {a:Option Addr} {len cap:Nat} {ss:Nat→StepD} {w:World} (h:StR a len ss w) (hlen:len≤9223372036854775807):Calls Tryz.prog 35 #[.slice a len cap] w fun e w'=>e=.returned (.bool (litB ss len))∧Since w w':=by
 obtain ⟨gb,off,hb⟩:=Ek.rd_addr h.r
 refine entH tab_ok (hold_st h) [.v (.slice a len cap)] Tryz.func35 Tryz.ntmps35 rfl rfl ?_
 repeat' (first | refine gs_ ?_|((conv=>whnf); first | intro b | refine fin_s ?_))
 conv=>whnf
 refine lp ⟨tab_ok⟩ (ι:={k:Nat // k≤len}) (fun x=>match x with | ⟨k,_⟩=>⟨[(0,.v (.slice a len cap)),(3,.i .i64 (sumW ss k)),(4,.i .i64 (k:Int))],[],[stO a len ss]⟩) (fun k=>len - k.1) ⟨0,Nat.zero_le _⟩ (wk ?_) ?_
 ·repeat' (first | exact trivial | rfl | ((conv=>whnf); refine And.intro ?_ ?_))
 rintro ⟨k,hk⟩
 by_cases hlt:k < len
 ·have hb:=hb (by omega)
  subst hb
  repeat' (first | refine gs_ ?_|((conv=>whnf); first | intro b | refine bto ?_|refine bfo ?_|refine wr_i ?_|refine wr_lit ?_|refine iv_ ?_|refine ui_ ?_|refine fv_ ?_|refine uf_ ?_|refine opxc (g:=gb) (off:=off+k*4+3) (.v (.slice (ss k).A (ss k).n (ss k).c)) (fun w hH=>rng_at (Ek.rd_rng (StR.r (Hold.ob hH (A:=stO (some ⟨gb,off,none⟩) len ss) 0 rfl)) hlt) rfl) ⟨tab_ok⟩ (by rfl) (by rfl) (by simp only [Go.WideShapes.add_plain]; rfl) ?_|refine En.back ⟨k+1,by omega⟩ (wk ?_) ?_|refine fin_s ?_))
  all_goals first | (show len - (k+1) < len - k; omega)|skip
  all_goals (repeat' (first | exact trivial | rfl | ((conv=>whnf); refine And.intro ?_ ?_)))
 ·obtain rfl:k=len:=by omega
  repeat' (first | refine gs_ ?_|((conv=>whnf); first | intro b | refine bto ?_|refine bfo ?_|refine b3_ (fun h=>?_) (fun h=>?_)|refine fin_s ?_))
  all_goals (simp [den,litB, *])
end Gw
namespace Gw
open Go.RowKit Ba Mem En Go.Proofs.YtepfmfalebmcnaaGreatDoor.Ty
open Fm (frames)
open Byt (BV isB)
open Co (KV newK Hold.ob)
set_option maxRecDepth 100000
attribute [local irreducible] Go.Calls
section
variable {X:Cx} {s:St}
theorem doX {K:SV→St→Prop} {f:FuncId} {vs:List SV} (i j:Nat) {gq B:Nat} {c:CfgV} {x:Gp} {m:Gm} {g:Gs} {k a b:Int} {dA:Option Addr} {dn dc:Nat} (d:List Int) (B':Nat) {i0:Nat} {g':Gs} {o':List (Int×List Int)} {r:Int} (he:doV c g k a b d=(g',o',r)) (hg:GI c i0 B g) (hi:i0 < 10000) (hB:B+d.length≤60000) (hB2:B+d.length≤B')
  (hk:(Lit.int .i64 k).wf=true) (hz:∀ w,Hold X s.m s.ob w→BV w dA dn d∧∀ y∈rdF dA dn,y∉gmF gq x m)
  (hf:f=24) (hP:X.P=Tryz.prog) (hA:s.ob[i]?=some (gsO gq c x B m g true)) (hT:s.ob[j]?=some tbO) (hv:denL s.m vs=[.pointer (some ⟨gq,0,none⟩),.agg #[.int .i64 k,.int .i64 a,.int .i64 b,.slice dA dn dc]]) (hij:j≠i)
  (h:∀ y:DoI o',setO i (gsO gq c x B' y.1.1 g' true) s.ob fun ob=>appO ob (osO y.1.2.1 y.1.2.2.1 y.1.2.2.2) fun ob=>K (.t [.v (.slice y.1.2.1 o'.length y.1.2.2.1),.i .i64 r]) ⟨s.fr,s.m,ob⟩)
  (hen:entChk X.P f=true:=by kernel_rfl):CallVC X f vs s K:=by
 refine callON i (A:=gsO gq c x B m g true) (fun y:DoI o'=>.t [.v (.slice y.1.2.1 o'.length y.1.2.2.1),.i .i64 r]) (fun y=>gsO gq c x B' y.1.1 g' true) (fun y=>osO y.1.2.1 y.1.2.2.1 y.1.2.2.2) (fun w hH hA1=>?_) h hA rfl hen (fun _=>rfl)
 subst hf
 rw [hP,hv]
 obtain ⟨z1,z2⟩:=hz w hH
 have hTb:=hH.obj _ (List.mem_of_getElem? hT)
 have hdis:∀ y∈gmF gq x m,y∉tbO.F:=pair_at (R:=DisR) (fun _ _ h=>h.symm) hH.dis hA hT (Ne.symm hij) (.inl rfl)
 refine (doD (k:=k) (a:=a) (b:=b) (dc:=dc) hA1 hg hi hB z1 z2 hTb (tb_far (A:=gsO gq c x B m g true) hdis) hk).mono ?_
 rintro e w' hq
 unfold DoQ at hq
 rw [he] at hq
 obtain ⟨y,h1,h2,h3,h4,h5,h6⟩:=hq
 refine ⟨⟨y.1,y.2,fun h0=>?_⟩,h1,h2.more hB2,h3,h4,h5,h6⟩
 obtain ⟨q,hq⟩:=Ek.addr h3.r
 have e:y.1.2.2.2.length=o'.length:=(List.length_map ..).symm.trans (congrArg List.length y.2)
 exact ⟨q,hq (by omega)⟩
end
theorem do_2 (c:CfgV) (g:Gs) (a b:Int) (d:List Int):doV c g 2 a b d=((doV c g 2 a b d).1,[],0):=by unfold doV; rw [if_neg (by decide),if_pos rfl]
end Gw
namespace Gw
open Go.RowKit Ba Mem En Go.Proofs.YtepfmfalebmcnaaGreatDoor.Ty
open Fm (frames)
open Byt (BV isB)
open Co (KV newK Hold.ob)
set_option maxRecDepth 100000
attribute [local irreducible] Go.Calls
section
variable {X:Cx} {m:List Row} {ob:List Asr} {w:World}
end
section
variable {gq B:Nat} {c:CfgV} {x:Gp} {m:Gm} {g:Gs} {w:World}
theorem epochS {i:Int} (h:GSt gq c x B m g w) (hi:(Lit.int .i64 i).wf=true):Calls Tryz.prog 23 #[.pointer (some ⟨gq,0,none⟩),.int .i64 i] w fun e w'=>e=.returned (.int .i64 (epochV g.x.2 i))∧Since w w':=by
 have:=epochT h.t.b h.t.k h.t.g1 hi
 rw [h.v] at this; exact this
theorem coreS (h:GSt gq c x B m g w):Calls Tryz.prog 27 #[.pointer (some ⟨gq,0,none⟩)] w fun e w'=>e=.returned (.pointer (some ⟨x.q,0,none⟩))∧Since w w':=coreT h.t.b
theorem leasesS (h:GSt gq c x B m g w) (hl:g.x.1.L.length≤10000):Calls Tryz.prog 28 #[.pointer (some ⟨x.q,0,none⟩)] w fun e w'=>∃ A' c',e=.returned (.slice A' g.x.1.L.length c')∧Fl.leaE.At w.heap.size A' g.x.1.L.length c' g.x.1.L w'∧Since w w':=Co.leasesK h.t.k.k hl
theorem queueS (h:GSt gq c x B m g w) (hl:g.x.1.Q.length≤10000):Calls Tryz.prog 30 #[.pointer (some ⟨x.q,0,none⟩)] w fun e w'=>∃ A' c',e=.returned (.slice A' g.x.1.Q.length c')∧Qu.askE.At w.heap.size A' g.x.1.Q.length c' g.x.1.Q w'∧Since w w':=Co.queueK h.t.k.k hl
end
end Gw
namespace Gw
open Go.RowKit Ba Mem En Go.Proofs.YtepfmfalebmcnaaGreatDoor.Ty Mg
open Fm (frm frames)
open Byt (BV isB)
open Co (KV newK Hold.ob)
set_option maxRecDepth 100000
def cfgT:CfgV:=⟨1,3,0,2,0,0,0,0,0,0,0,0,0,0,0,0,9,2⟩
def helT1:List Int:=frm (bytesOf (helP 1 0))
def wanT:PktV:=⟨1,1,0,0,true,2,1,0,0⟩
def tp1:Gs:=(doV cfgT (gs0 cfgT) 2 0 0 helT1).1
def tp2:Gs:=(doV cfgT tp1 1 0 0 []).1
theorem helT1_len:helT1.length=27:=by kernel_rfl
theorem helT1_may:mayB (helP 1 0)=true:=by kernel_rfl
theorem tp2_out:(doV cfgT tp1 1 0 0 []).2=([(1,frm (bytesOf wanT))],0):=by kernel_rfl
theorem tp2_ep:epochV tp2.x.2 1=1:=by kernel_rfl
theorem tp1_e:doV cfgT (gs0 cfgT) 2 0 0 helT1=(tp1,[],0):=do_2 _ _ _ _ _
theorem tp2_e:doV cfgT tp1 1 0 0 []=(tp2,[(1,frm (bytesOf wanT))],0):=by rw [← tp2_out]; rfl
theorem hold_tt {nt:Nat} {w:World} (ht:Lib.TabIs Tryz.prog w "internal/strconv.uint64pow10" .u64 Lib.pow10Tab):Hold ⟨Tryz.prog,tab,[],w,nt,[]⟩ [] [tbO] w :=
 Hold.addObj (Hold.nil _ tab [] _ w) tbO ht (by intro k; cases k) (by intro r hr; cases hr) (by intro A hA; cases hA)
attribute [local irreducible] Go.Calls doV tp1 tp2
set_option maxHeartbeats 4000000 in
theorem ansTop {w:World} (ht:Lib.TabIs Tryz.prog w "internal/strconv.uint64pow10" .u64 Lib.pow10Tab):Calls Tryz.prog 36 #[] w fun e w'=>e=.returned (.bool true)∧Since w w':=by
 have hbo:=bytes_b (helP 1 0) rfl
 have hl:=helT1_len
 have hg0:GI cfgT 0 0 (gs0 cfgT):=GI.new cfgT
 have hg1:GI cfgT 1 (0+27) tp1:=by have:=hg0.do_ (by decide) (k:=2) (a:=0) (b:=0) (d:=helT1) (by omega) ⟨by decide,by decide⟩; rw [hl,tp1_e] at this; exact this
 refine entH tab_ok (hold_tt ht) [] Tryz.func36 Tryz.ntmps36 rfl rfl ?_
 repeat' (first | refine gs_ ?_|((conv=>whnf); first | intro b | refine callN (f:=21) (ι:=Nat×Gp×List Nat) (fun y=>.v (.pointer (some ⟨y.1,0,none⟩))) (fun y=>gsO y.1 cfgT y.2.1 0 (gm0 y.2.1 y.2.2) (gs0 cfgT) true) (fun w1 hH=>newS cfgT w1) (fun y=>?_)|refine callN (f:=20) (ι:=Option Addr×Nat) (fun x=>.v (.slice x.1 21 x.2)) (fun x=>rwO byteE w.heap.size x.1 21 x.2 (bytesOf (helP 1 0)) true) (fun w1 hH=>(bytesH (helP 1 0) helT1_may rfl w1).mono (by rintro e w' ⟨x,rfl,h1,h2⟩; rw [← hbo] at h1; exact ⟨x,rfl,Ek.base h1 hH.upd.size,h2,Ek.lows h1⟩)) (fun x=>?_)|refine callN (f:=19) (ι:=Option Addr×Nat) (fun z=>.v (.slice z.1 27 z.2)) (fun z=>rwO byteE w.heap.size z.1 27 z.2 helT1 true) (fun w1 hH=>(frmE x.1 x.2 (bytesOf (helP 1 0)) 21 27 w1 (Hold.ob hH (A:=rwO byteE w.heap.size x.1 21 x.2 (bytesOf (helP 1 0)) true) 2 rfl) (bytes_isB _) (by omega) helT1_len).mono (by rintro e w' ⟨z,rfl,h1,h2⟩; exact ⟨z,rfl,Ek.base h1 hH.upd.size,h2,Ek.lows h1⟩)) (fun z=>?_)|refine doX 1 0 helT1 (0+27) tp1_e hg0 (by decide) (by omega) (by omega) (by decide) (fun w1 hH=>⟨Byt.BV.of_own (byte_own.1 (Hold.ob hH (A:=rwO byteE w.heap.size z.1 27 z.2 helT1 true) 3 rfl)) (Fm.frm_isB (bytes_isB _)),fun g hg hm=>(pair_at (R:=DisR) (fun _ _ h=>h.symm) hH.dis (i:=1) (j:=3) rfl rfl (by decide) (.inl rfl)) g hm (rdF_blk g hg)⟩) rfl rfl rfl rfl rfl (by decide) (fun u1=>?_)|refine doX 1 0 [] (0+27) tp2_e hg1 (by decide) (by decide) (by decide) (by decide) (fun w1 hH=>⟨BV.nil _ _,by intro g hg; cases hg⟩) rfl rfl rfl rfl rfl (by decide) (fun u2=>?_)|refine fin_s ?_))
 conv=>whnf
 obtain ⟨⟨m2,A2,c2,os2⟩,hov,hA2⟩:=u2
 obtain ⟨g2,hg2⟩:=hA2 (by decide)
 have hg2:A2=some ⟨g2,0,none⟩:=hg2
 subst hg2
 have hov:outsV os2=[(1,frm (bytesOf wanT))]:=hov
 obtain ⟨A3,c3,rfl⟩:=outs_one hov
 repeat' (first | refine gs_ ?_|((conv=>whnf); first | intro b | refine br_t (by rfl) ?_|refine br_t (beq_self_eq_true _) ?_|refine opiv ⟨tab_ok⟩ (by rfl) (by rfl) (by rfl) (by rfl) (by rfl) (by rfl) ⟨by decide,by decide⟩ ?_|refine fv_ ?_|refine opxc (g:=g2) (off:=0+0*2+0) (.i .i64 1) (fun w1 hH=>rng_at (v:=.int .i64 1) (Ek.rng (x:=(⟨1,A3,c3,frm (bytesOf wanT)⟩:OutD)) (k:=0) (OsAt.r (Hold.ob hH (A:=osO (some ⟨g2,0,none⟩) c2 [⟨1,A3,c3,frm (bytesOf wanT)⟩]) 5 rfl)) rfl) rfl) ⟨tab_ok⟩ (by rfl) (by rfl) (by simp only [Go.WideShapes.add_plain]; rfl) ?_|refine callH (f:=23) (.i .i64 1) (fun w1 hH=>(by have:=epochS (i:=1) (Hold.ob hH (A:=gsO y.1 cfgT y.2.1 (0+27) m2 tp2 true) 1 rfl) (wf_small (by decide)); rw [tp2_ep] at this; exact this)) ?_|refine fin_s ?_))
 all_goals rfl
end Gw
namespace Lc
open Go.RowKit Ba Mem En Go.Proofs.YtepfmfalebmcnaaGreatDoor.Ty Mo Go.Proofs.YtepfmfalebmcnaaGreatDoor.St Co
open Ri (trV sp rn)
open Qu (btw)
set_option maxRecDepth 100000
attribute [local irreducible] Go.Calls
theorem nearestT (n lo hi:Int) (w:World):Calls Tryz.prog 60 #[.int .i64 n,.int .i64 lo,.int .i64 hi] w fun e w'=>e=.returned (.int .i64 (btw n lo hi))∧Since w w':=by
 refine ent tab_ok [.i .i64 n,.i .i64 lo,.i .i64 hi] Tryz.func60 Tryz.ntmps60 rfl rfl ?_
 repeat' (first | refine gs_ ?_|((conv=>whnf); first | refine b3_ (fun h=>?_) (fun h=>?_)|refine fin_s ?_))
 all_goals (refine congrArg (Value.int .i64) ?_; unfold btw; (repeat' split) <;> omega)
theorem floorsT (n:Int) (w:World):Calls Tryz.prog 64 #[.int .i64 n] w fun e w'=>e=.returned (.int .i64 (fl n))∧Since w w':=by
 refine ent tab_ok [.i .i64 n] Tryz.func64 Tryz.ntmps64 rfl rfl ?_
 repeat' (first | refine gs_ ?_|((conv=>whnf); first | refine b3_ (fun h=>?_) (fun h=>?_)|refine fin_s ?_))
 all_goals (refine congrArg (Value.int .i64) ?_; unfold fl; (repeat' split) <;> omega)
end Lc
namespace Lc
open Go.RowKit Ba Mem En Go.Proofs.YtepfmfalebmcnaaGreatDoor.Ty Mo Go.Proofs.YtepfmfalebmcnaaGreatDoor.St Co
open Qu (btw putE putL atS)
open Ce (ms)
open Fl (belB)
set_option maxRecDepth 100000
attribute [local irreducible] Go.Calls
theorem massR (n:Int) (w:World):Calls Tryz.prog 65 #[.int .i64 n] w fun e w'=>e=.returned (.int .i64 (ms n))∧Since w w':=by
 refine ent tab_ok [.i .i64 n] Tryz.func65 Tryz.ntmps65 rfl rfl ?_
 repeat' (first | refine gs_ ?_|((conv=>whnf); first | refine b3_ (fun h=>?_) (fun h=>?_)|refine fin_s ?_))
 all_goals (refine congrArg (Value.int .i64) ?_; unfold ms; (repeat' split) <;> omega)
theorem roomR (n:Int) (w:World):Calls Tryz.prog 43 #[.int .i64 n] w fun e w'=>e=.returned (.int .i64 (btw n 0 64))∧Since w w':=by
 refine ent tab_ok [.i .i64 n] Tryz.func43 Tryz.ntmps43 rfl rfl ?_
 repeat' (first | refine gs_ ?_|((conv=>whnf); first | refine callS (f:=60) (.i .i64 (btw n 0 64)) (nearestT n 0 64) ?_|refine fin_s ?_))
 all_goals rfl
attribute [local irreducible] btw ms
set_option maxHeartbeats 4000000 in
theorem mayR (c:CfgV) (a:AskV) (w:World):Calls Tryz.prog 42 #[(aCfg c),.agg #[.int .i64 a.se,.int .i64 a.fl,.int .i64 a.fm,.int .i64 a.to,.int .i64 a.ma]] w fun e w'=>e=.returned (.bool (Fl.mayB c a))∧Since w w':=by
 refine ent tab_ok [.a (sCfg c),.a [.i .i64 a.se,.i .i64 a.fl,.i .i64 a.fm,.i .i64 a.to,.i .i64 a.ma]] Tryz.func42 Tryz.ntmps42 rfl rfl ?_
 repeat' (first | refine gs_ ?_|((conv=>whnf); first | intro b | refine b3_ (fun h=>?_) (fun h=>?_)|refine br_ne (fun h=>?_) (fun h=>?_)|refine callS (f:=64) (.i .i64 (fl _)) (floorsT _) ?_|refine callS (f:=60) (.i .i64 (btw _ _ _)) (nearestT _ _ _) ?_|refine callS (f:=65) (.i .i64 (ms _)) (massR _) ?_|refine fin_s ?_))
 all_goals (unfold Fl.mayB belB; simp [den, *])
theorem busy_at {K:KV} {a:AskV} (hm:Fl.mayB K.G.c a=true) (hq:∀ q∈K.Q,q.se≠a.se) (hl:∀ l∈K.L,l.se≠a.se) (hr:room K≤(K.Q.length:Int)):ansM K a=⟨6,0,0,0⟩∧ansK K a=K:=by
 have h1:Le.hasL K.L a.se=false:=by
  cases h:Le.hasL K.L a.se with
  | false=>rfl
  | true=>exact absurd (has_mem h).2 (hl _ (has_mem h).1)
 have h2:atS K.Q a.se=none:=by
  cases h:atS K.Q a.se with
  | none=>rfl
  | some k =>
   obtain ⟨hk,h3,_⟩:=Qu.atS_some h
   exact absurd (h3 hk) (hq _ (List.getElem_mem hk))
 have h3:putE (room K) K.Q a=5:=by
  unfold putE
  rw [h2,if_neg (by simp),if_pos hr]
 have h4:putL (room K) K.Q a=K.Q:=by
  unfold putL
  rw [h3,if_neg (by decide)]
 refine ⟨?_, ?_⟩
 ·unfold ansM
  rw [if_pos hm,if_neg (by rw [h1]; decide),h3,if_neg (by decide),if_pos rfl]
 ·unfold ansK ansQ
  rw [if_pos hm,if_neg (by rw [h1]; decide),h4]
end Lc
namespace Gw
open Go.RowKit Ba Mem En Go.Proofs.YtepfmfalebmcnaaGreatDoor.Ty
open Co (KV Nr evE EvV evs ansK ansM askK Hold.ob)
set_option maxRecDepth 100000
attribute [local irreducible] Go.Calls
section
variable {gq B:Nat} {c:CfgV} {x:Gp} {m:Gm} {g:Gs} {w:World}
theorem askS (h:GSt gq c x B m g w) (hq:g.x.1.Q.length≤1000) (hl:g.x.1.L.length≤10000) (a:AskV) (hk:ansK g.x.1 a=g.x.1):Calls Tryz.prog 44 #[.pointer (some ⟨x.q,0,none⟩),.agg #[.int .i64 a.se,.int .i64 a.fl,.int .i64 a.fm,.int .i64 a.to,.int .i64 a.ma]] w fun e w'=>∃ y:Gm×Nr,e=.returned (.slice y.2.2.1 1 y.2.2.2)∧GSt gq c x B y.1 g w'∧(rwO evE y.2.1 y.2.2.1 1 y.2.2.2 (evs a.se [ansM g.x.1 a]) true).st w'∧Upd (gmF gq x m) w w'∧(∀ i∈gmF gq x y.1,i∈gmF gq x m∨w.heap.size≤i)∧∀ i∈blkOf y.2.2.1,w.heap.size≤i∧i∉gmF gq x y.1:=by
 refine (KG.coreE h.t.k (fun hk=>askK hk hq hl a)).mono ?_
 rintro e w' ⟨⟨S',y⟩,rfl,h1,h2,h3,h4,h5⟩
 rw [hk] at h1
 obtain ⟨a1,a2,a3⟩:=h.t.kg h1 h3 h4
 refine ⟨(⟨S',m.D,m.Ss,m.M,m.N⟩,y),rfl,⟨a1,h.v,h.hM,h.hN⟩,h2,a2,a3,fun i hi=>⟨(h5 i hi).1,fun hm=>?_⟩⟩
 have hi2:=h5 i hi
 rcases List.mem_cons.1 hm with rfl | hm
 ·have:=h.t.b.lt; omega
 rcases List.mem_append.1 hm with hm | hm
 ·exact hi2.2 hm
 ·have:=h.t.s.lt i hm; omega
end
end Gw
namespace Lc
open Go.RowKit Ba Mem En Go.Proofs.YtepfmfalebmcnaaGreatDoor.Ty Mo Go.Proofs.YtepfmfalebmcnaaGreatDoor.St Co
open Fl (leaE)
open Qu (askE)
set_option maxRecDepth 100000
attribute [local irreducible] Go.Calls
theorem two_rows {α:Type} {E:Ek α} {la lb ca cb n nt:Nat} {A B:Option Addr} {xs ys:List α} {w:World} (ha:E.At la A n ca xs w) (hb:E.At lb B n cb ys w):Hold ⟨Tryz.prog,tab,[],w,nt,[]⟩ [] [rwO E la A n ca xs false,rwO E lb B n cb ys false] w :=
 Hold.addObj (Hold.addObj (Hold.nil _ tab [] _ w) (rwO E la A n ca xs false) ha (by intro k; cases k) (by intro r hr; cases hr) (by intro A hA; cases hA)) (rwO E lb B n cb ys false) hb (by intro k; cases k) (by intro r hr; cases hr) (by intro G hG k; rcases List.mem_append.1 hG with hG | hG; cases hG; rw [List.mem_singleton] at hG; subst hG; rcases k with k | k <;> cases k)
set_option maxHeartbeats 4000000 in
theorem sameL {la lb ca cb:Nat} {A B:Option Addr} {ls:List LeaseV} {w:World} (hl:ls.length≤10000) (ha:leaE.At la A ls.length ca ls w) (hb:leaE.At lb B ls.length cb ls w):Calls Tryz.prog 26 #[.slice A ls.length ca,.slice B ls.length cb] w fun e w'=>e=.returned (.bool true)∧Since w w':=by
 obtain ⟨g,hg⟩:=Ek.addr ha
 obtain ⟨g2,hg2⟩:=Ek.addr hb
 refine entH tab_ok (two_rows ha hb) [.v (.slice A ls.length ca),.v (.slice B ls.length cb)] Tryz.func26 Tryz.ntmps26 rfl rfl ?_
 repeat' (first | refine gs_ ?_|((conv=>whnf); first | intro b | refine br_t (beq_self_eq_true _) ?_|refine fin_s ?_))
 conv=>whnf
 refine lp ⟨tab_ok⟩ (ι:={k:Nat // k≤ls.length}) (fun x=>match x with | ⟨k,_⟩=>⟨[(0,.v (.slice A ls.length ca)),(1,.v (.slice B ls.length cb)),(5,.i .i64 (k:Int))],[],[rwO leaE la A ls.length ca ls false,rwO leaE lb B ls.length cb ls false]⟩) (fun k=>ls.length - k.1) ⟨0,Nat.zero_le _⟩ (wk ?_) ?_
 ·repeat' (first | exact trivial | rfl | ((conv=>whnf); refine And.intro ?_ ?_))
 rintro ⟨k,hkl⟩
 by_cases hlt:k < ls.length
 ·obtain ⟨x,hx⟩:∃ x,ls[k]?=some x:=⟨_,List.getElem?_eq_getElem (by omega)⟩
  have hg:=hg (by omega)
  have hg2:=hg2 (by omega)
  subst hg hg2
  repeat' (first | refine gq_ ?_|((conv=>whnf); first | intro b | refine bto ?_|refine bfo ?_|refine wr_i ?_|refine drA ⟨tab_ok⟩ [3,7] ?_|refine And.intro ?_ ?_|refine iv_ ?_|refine ui_ ?_|refine opix (g:=g) (off:=0+k*10) [.i .i64 x.se,.i .i64 x.fl,.i .i64 x.fm,.i .i64 x.to,.i .i64 x.ma,.i .i64 x.ca,.i .i64 x.ph,.i .i64 x.un,.i .i64 x.re,.i .i64 x.gr] (fun w hH=>Ek.rng (Hold.ob hH (A:=rwO leaE la (some ⟨g,0,none⟩) ls.length ca ls false) 0 rfl) hx) ⟨tab_ok⟩ (by rfl) (by rfl) (by simp only [Go.WideShapes.add_plain]; rfl) ?_|refine opix (g:=g2) (off:=0+k*10) [.i .i64 x.se,.i .i64 x.fl,.i .i64 x.fm,.i .i64 x.to,.i .i64 x.ma,.i .i64 x.ca,.i .i64 x.ph,.i .i64 x.un,.i .i64 x.re,.i .i64 x.gr] (fun w hH=>Ek.rng (Hold.ob hH (A:=rwO leaE lb (some ⟨g2,0,none⟩) ls.length cb ls false) 1 rfl) hx) ⟨tab_ok⟩ (by rfl) (by rfl) (by simp only [Go.WideShapes.add_plain]; rfl) ?_|refine br_t (by simp only [beq_self_eq_true,Bool.and_self]) ?_|refine back ⟨k+1,by omega⟩ (wkd ?_) ?_|refine fin_s ?_))
  all_goals first | (show ls.length - (k+1) < ls.length - k; omega)|skip
  all_goals (repeat' (first | exact trivial | rfl | ((conv=>whnf); refine And.intro ?_ ?_)))
 ·repeat' (first | refine gs_ ?_|((conv=>whnf); first | intro b | refine bto ?_|refine bfo ?_|refine fin_s ?_))
  all_goals rfl
set_option maxHeartbeats 4000000 in
theorem sameA {la lb ca cb:Nat} {A B:Option Addr} {ls:List AskV} {w:World} (hl:ls.length≤10000) (ha:askE.At la A ls.length ca ls w) (hb:askE.At lb B ls.length cb ls w):Calls Tryz.prog 29 #[.slice A ls.length ca,.slice B ls.length cb] w fun e w'=>e=.returned (.bool true)∧Since w w':=by
 obtain ⟨g,hg⟩:=Ek.addr ha
 obtain ⟨g2,hg2⟩:=Ek.addr hb
 refine entH tab_ok (two_rows ha hb) [.v (.slice A ls.length ca),.v (.slice B ls.length cb)] Tryz.func29 Tryz.ntmps29 rfl rfl ?_
 repeat' (first | refine gs_ ?_|((conv=>whnf); first | intro b | refine br_t (beq_self_eq_true _) ?_|refine fin_s ?_))
 conv=>whnf
 refine lp ⟨tab_ok⟩ (ι:={k:Nat // k≤ls.length}) (fun x=>match x with | ⟨k,_⟩=>⟨[(0,.v (.slice A ls.length ca)),(1,.v (.slice B ls.length cb)),(5,.i .i64 (k:Int))],[],[rwO askE la A ls.length ca ls false,rwO askE lb B ls.length cb ls false]⟩) (fun k=>ls.length - k.1) ⟨0,Nat.zero_le _⟩ (wk ?_) ?_
 ·repeat' (first | exact trivial | rfl | ((conv=>whnf); refine And.intro ?_ ?_))
 rintro ⟨k,hkl⟩
 by_cases hlt:k < ls.length
 ·obtain ⟨x,hx⟩:∃ x,ls[k]?=some x:=⟨_,List.getElem?_eq_getElem (by omega)⟩
  have hg:=hg (by omega)
  have hg2:=hg2 (by omega)
  subst hg hg2
  repeat' (first | refine gq_ ?_|((conv=>whnf); first | intro b | refine bto ?_|refine bfo ?_|refine wr_i ?_|refine drA ⟨tab_ok⟩ [3,7] ?_|refine And.intro ?_ ?_|refine iv_ ?_|refine ui_ ?_|refine opix (g:=g) (off:=0+k*5) [.i .i64 x.se,.i .i64 x.fl,.i .i64 x.fm,.i .i64 x.to,.i .i64 x.ma] (fun w hH=>Ek.rng (Hold.ob hH (A:=rwO askE la (some ⟨g,0,none⟩) ls.length ca ls false) 0 rfl) hx) ⟨tab_ok⟩ (by rfl) (by rfl) (by simp only [Go.WideShapes.add_plain]; rfl) ?_|refine opix (g:=g2) (off:=0+k*5) [.i .i64 x.se,.i .i64 x.fl,.i .i64 x.fm,.i .i64 x.to,.i .i64 x.ma] (fun w hH=>Ek.rng (Hold.ob hH (A:=rwO askE lb (some ⟨g2,0,none⟩) ls.length cb ls false) 1 rfl) hx) ⟨tab_ok⟩ (by rfl) (by rfl) (by simp only [Go.WideShapes.add_plain]; rfl) ?_|refine br_t (by simp only [beq_self_eq_true,Bool.and_self]) ?_|refine back ⟨k+1,by omega⟩ (wkd ?_) ?_|refine fin_s ?_))
  all_goals first | (show ls.length - (k+1) < ls.length - k; omega)|skip
  all_goals (repeat' (first | exact trivial | rfl | ((conv=>whnf); refine And.intro ?_ ?_)))
 ·repeat' (first | refine gs_ ?_|((conv=>whnf); first | intro b | refine bto ?_|refine bfo ?_|refine fin_s ?_))
  all_goals rfl
end Lc
namespace Gw
open Go.RowKit Ba Mem En Go.Proofs.YtepfmfalebmcnaaGreatDoor.Ty
open Fm (frames)
open Byt (BV isB)
open Fl (leaE)
open Qu (askE btw)
open Co (KV newK Hold.ob NrP toNp Nr evE evs EvV ansM ansK)
set_option maxRecDepth 100000
attribute [local irreducible] Go.Calls doV tickG btw
set_option maxHeartbeats 8000000 in
theorem wbusF (c:CfgV) (a:AskV) {aS:Option Addr} {len cap:Nat} {ss:Nat→StepD} {w:World} (h:StR aS len ss w) (hw:∀ i,i < len→StepW (ss i)) (hlen:len≤9223372036854775807) (ht:Lib.TabIs Tryz.prog w "internal/strconv.uint64pow10" .u64 Lib.pow10Tab):Calls Tryz.prog 14 #[(aCfg c),.slice aS len cap,.agg #[.int .i64 a.se,.int .i64 a.fl,.int .i64 a.fm,.int .i64 a.to,.int .i64 a.ma]] w fun e w'=>e=.returned (.bool true)∧Since w w':=by
 obtain ⟨gb,off,hb⟩:=Ek.rd_addr h.r
 refine entH tab_ok (hold_tb h ht) [.a (sCfg c),.v (.slice aS len cap),.a [.i .i64 a.se,.i .i64 a.fl,.i .i64 a.fm,.i .i64 a.to,.i .i64 a.ma]] Tryz.func14 Tryz.ntmps14 rfl rfl ?_
 cases hl:litB ss len with
 | false =>
  repeat' (first | refine gs_ ?_|((conv=>whnf); first | intro b | refine callH (f:=35) (.b false) (fun w1 hH=>(by have:=lightT (cap:=cap) (Hold.ob hH (A:=stO aS len ss) 0 rfl) hlen; rw [hl] at this; exact this)) ?_|refine callH (f:=36) (.b true) (fun w1 hH=>ansTop (Hold.ob hH (A:=tbO) 1 rfl)) ?_|refine fin_s ?_))
  all_goals rfl
 | true =>
  obtain ⟨h3,h2⟩:=lit_of hl hw
  cases hm:Fl.mayB c a with
  | false =>
   repeat' (first | refine gs_ ?_|((conv=>whnf); first | intro b | refine bto ?_|refine bfo ?_|refine callH (f:=35) (.b true) (fun w1 hH=>(by have:=lightT (cap:=cap) (Hold.ob hH (A:=stO aS len ss) 0 rfl) hlen; rw [hl] at this; exact this)) ?_|refine callH (f:=42) (.b false) (fun w1 hH=>(by have:=Lc.mayR c a w1; rw [hm] at this; exact this)) ?_|refine callH (f:=36) (.b true) (fun w1 hH=>ansTop (Hold.ob hH (A:=tbO) 1 rfl)) ?_|refine fin_s ?_))
   all_goals rfl
  | true =>
   repeat' (first | refine gs_ ?_|((conv=>whnf); first | intro ba | refine bto ?_|refine bfo ?_|refine callH (f:=35) (.b true) (fun w1 hH=>(by have:=lightT (cap:=cap) (Hold.ob hH (A:=stO aS len ss) 0 rfl) hlen; rw [hl] at this; exact this)) ?_|refine callH (f:=42) (.b true) (fun w1 hH=>(by have:=Lc.mayR c a w1; rw [hm] at this; exact this)) ?_|refine callN (f:=21) (ι:=Nat×Gp×List Nat) (fun y=>.v (.pointer (some ⟨y.1,0,none⟩))) (fun y=>gsO y.1 c y.2.1 0 (gm0 y.2.1 y.2.2) (gs0 c) true) (fun w1 hH=>newS c w1) (fun y=>?_)|refine fin_s ?_))
   conv=>whnf
   rename_i bc
   obtain ⟨q1,x1,Sk1⟩:=y
   refine lp ⟨tab_ok⟩ (ι:={v:(Nat×Gm)×Gs // v.1.1≤len∧GI c v.1.1 (sumT ss v.1.1) v.2}) (fun v=>match v with | ⟨((k,m),g),_⟩=>⟨[(1,.v (.slice aS len cap)),(3,.p 0 0),(5,.p 1 0),(7,.v (.pointer (some ⟨q1,0,none⟩))),(8,.i .i64 (k:Int))],[⟨bc,23,true,0,[],(sCfg c),[],true⟩,⟨ba,69,true,0,[],[.i .i64 a.se,.i .i64 a.fl,.i .i64 a.fm,.i .i64 a.to,.i .i64 a.ma],[],true⟩],[stO aS len ss,tbO,gsO q1 c x1 (sumT ss k) m g true]⟩) (fun v=>len - v.1.1.1) ⟨((0,gm0 x1 Sk1),gs0 c),Nat.zero_le _,GI.new c⟩ (wk ?_) ?_
   ·repeat' (first | exact trivial | rfl | ((conv=>whnf); refine And.intro ?_ ?_))
   rintro ⟨⟨⟨k,m⟩,g⟩,hk,hg⟩
   have hk:k≤len:=hk
   have hg:GI c k (sumT ss k) g:=hg
   by_cases hlt:k < len
   ·have hb:=hb (by omega)
    subst hb
    have hW:=hw k hlt
    have hWl:=hW.l
    have hsm:=sumT_at (ss:=ss) hlt
    have hs1:sumT ss (k+1)=sumT ss k+(ss k).n:=rfl
    have hb64:n64 (ss k).b:=n64_of hW.b
    obtain ⟨G',O',R',he1⟩:∃ G' O' R',doV c g (ss k).k (ss k).a (ss k).b (ss k).d=(G',O',R'):=⟨_,_,_,rfl⟩
    have hg1:GI c (k+1) (sumT ss k+(ss k).d.length) G':=by have:=hg.do_ (by omega) (k:=(ss k).k) (a:=(ss k).a) (d:=(ss k).d) (by omega) hb64; rwa [he1] at this
    rw [hWl] at hg1
    repeat' (first | refine gs_ ?_|((conv=>whnf); first | intro b2 | refine bto ?_|refine bfo ?_|refine wr_i ?_|refine cd (by first | decide | omega) ?_|refine iv_ ?_|refine ui_ ?_|refine fv_ ?_|refine uf_ ?_|refine opix (g:=gb) (off:=off+k*4) [.i .i64 (ss k).k,.i .i64 (ss k).a,.i .i64 (ss k).b,.v (.slice (ss k).A (ss k).n (ss k).c)] (fun w hH=>Ek.rd_rng (StR.r (Hold.ob hH (A:=stO (some ⟨gb,off,none⟩) len ss) 0 rfl)) hlt) ⟨tab_ok⟩ (by rfl) (by rfl) (by first | (simp only [Go.WideShapes.add_plain]; done)|(simp only [Go.WideShapes.add_plain]; rfl)) ?_|refine doX 2 1 (ss k).d (sumT ss (k+1)) he1 hg (by omega) (by omega) (by omega) hW.k (fun w hH=>hz_st hH (i:=0) (j:=2) rfl rfl (by decide) hlt) rfl rfl rfl rfl rfl (by decide) (fun u1=>?_)|refine En.back ⟨((k+1,u1.1.1),G'),by show k+1≤len; omega,hg1⟩ (wkd ?_) ?_|refine fin_s ?_))
    all_goals first | (show len - (k+1) < len - k; omega)|skip
    all_goals (repeat' (first | exact trivial | rfl | ((conv=>whnf); refine And.intro ?_ ?_)))
   ·obtain rfl:k=len:=by omega
    have hL:=hg.j.t.l
    have hQ:=hg.j.t.q
    repeat' (first | refine gs_ ?_|((conv=>whnf); first | intro b | refine bto ?_|refine bfo ?_|refine callH (f:=27) (.v (.pointer (some ⟨x1.q,0,none⟩))) (fun w1 hH=>coreS (Hold.ob hH (A:=gsO q1 c x1 (sumT ss k) m g true) 2 rfl)) ?_|refine callN (f:=30) (ι:=NrP w.heap.size g.x.1.Q.length) (fun x=>.v (.slice x.1.2.1 g.x.1.Q.length x.1.2.2)) (fun x=>rwO askE x.1.1 x.1.2.1 g.x.1.Q.length x.1.2.2 g.x.1.Q true) (fun w1 hH=>toNp (queueS (Hold.ob hH (A:=gsO q1 c x1 (sumT ss k) m g true) 2 rfl) (by omega)) hH.upd.size) (fun uq=>?_)|refine callN (f:=28) (ι:=NrP w.heap.size g.x.1.L.length) (fun x=>.v (.slice x.1.2.1 g.x.1.L.length x.1.2.2)) (fun x=>rwO leaE x.1.1 x.1.2.1 g.x.1.L.length x.1.2.2 g.x.1.L true) (fun w1 hH=>toNp (leasesS (Hold.ob hH (A:=gsO q1 c x1 (sumT ss k) m g true) 2 rfl) (by omega)) hH.upd.size) (fun ul=>?_)|refine fin_s ?_))
    conv=>whnf
    obtain ⟨⟨l7,A7,c7⟩,hl7,hA7⟩:=ul
    obtain ⟨⟨l8,A8,c8⟩,hl8,hA8⟩:=uq
    have hA7:0 < g.x.1.L.length→∃ g,A7=some ⟨g,0,none⟩:=hA7
    have hA8:0 < g.x.1.Q.length→∃ g,A8=some ⟨g,0,none⟩:=hA8
    refine lp ⟨tab_ok⟩ (ι:={n:Nat // n≤g.x.1.Q.length∧∀ q∈g.x.1.Q.take n,q.se≠a.se}) (fun v=>match v with | ⟨n,_⟩=>⟨[(1,.v (.slice aS k cap)),(3,.p 0 0),(5,.p 1 0),(7,.v (.pointer (some ⟨q1,0,none⟩))),(9,.v (.slice A8 g.x.1.Q.length c8)),(10,.v (.slice A7 g.x.1.L.length c7)),(11,.i .i64 (n:Int))],[⟨bc,23,true,0,[],(sCfg c),[],true⟩,⟨ba,69,true,0,[],[.i .i64 a.se,.i .i64 a.fl,.i .i64 a.fm,.i .i64 a.to,.i .i64 a.ma],[],true⟩],[stO aS k ss,tbO,gsO q1 c x1 (sumT ss k) m g true,rwO askE l8 A8 g.x.1.Q.length c8 g.x.1.Q true,rwO leaE l7 A7 g.x.1.L.length c7 g.x.1.L true]⟩) (fun v=>g.x.1.Q.length - v.1) ⟨0,Nat.zero_le _,fun q hq=>by simp at hq⟩ (wkd ?_) ?_
    ·repeat' (first | exact trivial | rfl | ((conv=>whnf); refine And.intro ?_ ?_))
    rintro ⟨n,hn,hnq⟩
    have hn:n≤g.x.1.Q.length:=hn
    have hnq:∀ q∈g.x.1.Q.take n,q.se≠a.se:=hnq
    by_cases hlt3:n < g.x.1.Q.length
    ·obtain ⟨q,hq⟩:∃ q,g.x.1.Q[n]?=some q:=⟨_,List.getElem?_eq_getElem hlt3⟩
     obtain ⟨gl,hgl⟩:=hA8 (by omega)
     subst hgl
     by_cases he:q.se=a.se
     ·repeat' (first | refine gq_ ?_|((conv=>whnf); first | intro b | refine drA ⟨tab_ok⟩ [4] ?_|refine And.intro ?_ ?_|refine bto ?_|refine bfo ?_|refine wr_i ?_|refine iv_ ?_|refine ui_ ?_|refine fv_ ?_|refine uf_ ?_|refine opxc (g:=gl) (off:=0+n*5+0) (.i .i64 q.se) (fun w hH=>rng_at (Ek.rng (Hold.ob hH (A:=rwO askE l8 (some ⟨gl,0,none⟩) g.x.1.Q.length c8 g.x.1.Q true) 3 rfl) hq) rfl) ⟨tab_ok⟩ (by rfl) (by rfl) (by first | (simp only [Go.WideShapes.add_plain]; done)|(simp only [Go.WideShapes.add_plain]; rfl)) ?_|refine callH (f:=36) (.b true) (fun w1 hH=>ansTop (Hold.ob hH (A:=tbO) 1 rfl)) ?_|refine fin_s ?_))
      all_goals rfl
     ·have hnq2:∀ y∈g.x.1.Q.take (n+1),y.se≠a.se:=fun y hy=>by
       rw [List.take_succ,hq] at hy
       rcases List.mem_append.1 hy with hy | hy
       ·exact hnq y hy
       ·simp at hy; rw [hy]; exact he
      repeat' (first | refine gq_ ?_|((conv=>whnf); first | intro b | refine drA ⟨tab_ok⟩ [4] ?_|refine And.intro ?_ ?_|refine bto ?_|refine bfo ?_|refine wr_i ?_|refine iv_ ?_|refine ui_ ?_|refine fv_ ?_|refine uf_ ?_|refine opxc (g:=gl) (off:=0+n*5+0) (.i .i64 q.se) (fun w hH=>rng_at (Ek.rng (Hold.ob hH (A:=rwO askE l8 (some ⟨gl,0,none⟩) g.x.1.Q.length c8 g.x.1.Q true) 3 rfl) hq) rfl) ⟨tab_ok⟩ (by rfl) (by rfl) (by first | (simp only [Go.WideShapes.add_plain]; done)|(simp only [Go.WideShapes.add_plain]; rfl)) ?_|refine En.back ⟨n+1,by show n+1≤_; omega,hnq2⟩ (wkd ?_) ?_|refine fin_s ?_))
      all_goals first | (show g.x.1.Q.length - (n+1) < g.x.1.Q.length - n; omega)|skip
      all_goals (repeat' (first | exact trivial | rfl | ((conv=>whnf); refine And.intro ?_ ?_)))
    ·have hnq3:∀ q∈g.x.1.Q,q.se≠a.se:=fun q hq=>hnq q (by rw [List.take_of_length_le (by omega)]; exact hq)
     repeat' (first | refine gq_ ?_|((conv=>whnf); first | intro b | refine bto ?_|refine bfo ?_|refine fin_s ?_))
     refine lp ⟨tab_ok⟩ (ι:={n:Nat // n≤g.x.1.L.length∧∀ q∈g.x.1.L.take n,q.se≠a.se}) (fun v=>match v with | ⟨n,_⟩=>⟨[(1,.v (.slice aS k cap)),(3,.p 0 0),(5,.p 1 0),(7,.v (.pointer (some ⟨q1,0,none⟩))),(9,.v (.slice A8 g.x.1.Q.length c8)),(10,.v (.slice A7 g.x.1.L.length c7)),(12,.i .i64 (n:Int))],[⟨bc,23,true,0,[],(sCfg c),[],true⟩,⟨ba,69,true,0,[],[.i .i64 a.se,.i .i64 a.fl,.i .i64 a.fm,.i .i64 a.to,.i .i64 a.ma],[],true⟩],[stO aS k ss,tbO,gsO q1 c x1 (sumT ss k) m g true,rwO askE l8 A8 g.x.1.Q.length c8 g.x.1.Q true,rwO leaE l7 A7 g.x.1.L.length c7 g.x.1.L true]⟩) (fun v=>g.x.1.L.length - v.1) ⟨0,Nat.zero_le _,fun q hq=>by simp at hq⟩ (wkd ?_) ?_
     ·repeat' (first | exact trivial | rfl | ((conv=>whnf); refine And.intro ?_ ?_))
     rintro ⟨j,hj,hjl⟩
     have hj:j≤g.x.1.L.length:=hj
     have hjl:∀ q∈g.x.1.L.take j,q.se≠a.se:=hjl
     by_cases hlt4:j < g.x.1.L.length
     ·obtain ⟨l,hll⟩:∃ l,g.x.1.L[j]?=some l:=⟨_,List.getElem?_eq_getElem hlt4⟩
      obtain ⟨gl,hgl⟩:=hA7 (by omega)
      subst hgl
      by_cases he:l.se=a.se
      ·repeat' (first | refine gq_ ?_|((conv=>whnf); first | intro b | refine drA ⟨tab_ok⟩ [5] ?_|refine And.intro ?_ ?_|refine bto ?_|refine bfo ?_|refine wr_i ?_|refine iv_ ?_|refine ui_ ?_|refine fv_ ?_|refine uf_ ?_|refine opxc (g:=gl) (off:=0+j*10+0) (.i .i64 l.se) (fun w hH=>rng_at (Ek.rng (Hold.ob hH (A:=rwO leaE l7 (some ⟨gl,0,none⟩) g.x.1.L.length c7 g.x.1.L true) 4 rfl) hll) rfl) ⟨tab_ok⟩ (by rfl) (by rfl) (by first | (simp only [Go.WideShapes.add_plain]; done)|(simp only [Go.WideShapes.add_plain]; rfl)) ?_|refine callH (f:=36) (.b true) (fun w1 hH=>ansTop (Hold.ob hH (A:=tbO) 1 rfl)) ?_|refine fin_s ?_))
       all_goals rfl
      ·have hjl2:∀ y∈g.x.1.L.take (j+1),y.se≠a.se:=fun y hy=>by
        rw [List.take_succ,hll] at hy
        rcases List.mem_append.1 hy with hy | hy
        ·exact hjl y hy
        ·simp at hy; rw [hy]; exact he
       repeat' (first | refine gq_ ?_|((conv=>whnf); first | intro b | refine drA ⟨tab_ok⟩ [5] ?_|refine And.intro ?_ ?_|refine bto ?_|refine bfo ?_|refine wr_i ?_|refine iv_ ?_|refine ui_ ?_|refine fv_ ?_|refine uf_ ?_|refine opxc (g:=gl) (off:=0+j*10+0) (.i .i64 l.se) (fun w hH=>rng_at (Ek.rng (Hold.ob hH (A:=rwO leaE l7 (some ⟨gl,0,none⟩) g.x.1.L.length c7 g.x.1.L true) 4 rfl) hll) rfl) ⟨tab_ok⟩ (by rfl) (by rfl) (by first | (simp only [Go.WideShapes.add_plain]; done)|(simp only [Go.WideShapes.add_plain]; rfl)) ?_|refine En.back ⟨j+1,by show j+1≤_; omega,hjl2⟩ (wkd ?_) ?_|refine fin_s ?_))
       all_goals first | (show g.x.1.L.length - (j+1) < g.x.1.L.length - j; omega)|skip
       all_goals (repeat' (first | exact trivial | rfl | ((conv=>whnf); refine And.intro ?_ ?_)))
     ·have hjl3:∀ q∈g.x.1.L,q.se≠a.se:=fun q hq=>hjl q (by rw [List.take_of_length_le (by omega)]; exact hq)
      by_cases hr:(g.x.1.Q.length:Int) < btw c.qu 0 64
      ·repeat' (first | refine gs_ ?_|((conv=>whnf); first | intro b | refine bto ?_|refine bfo ?_|refine callS (f:=43) (.i .i64 (btw c.qu 0 64)) (Lc.roomR c.qu) ?_|refine callH (f:=36) (.b true) (fun w1 hH=>ansTop (Hold.ob hH (A:=tbO) 1 rfl)) ?_|refine fin_s ?_))
       all_goals rfl
      ·have hgc:g.x.1.G.c=c:=hg.j.p.k.g.1
       obtain ⟨hA1,hA2⟩:=Lc.busy_at (K:=g.x.1) (a:=a) (by rw [hgc]; exact hm) hnq3 hjl3 (by show btw g.x.1.G.c.qu 0 64≤_; rw [hgc]; omega)
       repeat' (first | refine gq_ ?_|((conv=>whnf); first | intro b | refine drA (id:=21) ⟨tab_ok⟩ [] ?_|refine bto ?_|refine bfo ?_|refine callS (f:=43) (.i .i64 (btw c.qu 0 64)) (Lc.roomR c.qu) ?_|refine callH (f:=27) (.v (.pointer (some ⟨x1.q,0,none⟩))) (fun w1 hH=>coreS (Hold.ob hH (A:=gsO q1 c x1 (sumT ss k) m g true) 2 rfl)) ?_|refine callON (f:=44) (ι:={y:Gm×Nr // ∃ ge,y.2.2.1=some ⟨ge,0,none⟩}) (A:=gsO q1 c x1 (sumT ss k) m g true) 2 (fun y=>.v (.slice y.1.2.2.1 1 y.1.2.2.2)) (fun y=>gsO q1 c x1 (sumT ss k) y.1.1 g true) (fun y=>rwO evE w.heap.size y.1.2.2.1 1 y.1.2.2.2 [⟨a.se,⟨6,0,0,0⟩⟩] true) (fun w1 hH hA=>(askS hA (by omega) (by omega) a hA2).mono (by rw [hA1]; rintro e w' ⟨y,rfl,h1,h2,h3,h4,h5⟩; obtain ⟨ge,hge⟩:=Ek.addr h2; exact ⟨⟨y,ge,hge (by decide)⟩,rfl,h1,Lc.own_rebase h2 (fun g hg=>Nat.le_trans hH.upd.size (h5 g hg).1),h3,h4,h5⟩)) (fun ue=>?_)|refine fin_s ?_))
       conv=>whnf
       obtain ⟨⟨me,le,Ae,ce⟩,ge,hge⟩:=ue
       have hge:Ae=some ⟨ge,0,none⟩:=hge
       subst hge
       repeat' (first | refine gq_ ?_|((conv=>whnf); first | refine drA (id:=22) ⟨tab_ok⟩ [9] ?_|refine And.intro ?_ ?_|refine bto ?_|refine bfo ?_|refine iv_ ?_|refine ui_ ?_|refine fv_ ?_|refine uf_ ?_|refine callH (f:=36) (.b true) (fun w1 hH=>ansTop (Hold.ob hH (A:=tbO) 1 rfl)) ?_|refine opix (g:=ge) (off:=0+0*5) [.i .i64 a.se,.i .i64 6,.i .i64 0,.i .i64 0,.i .i64 0] (fun w1 hH=>Ek.rng (k:=0) (x:=(⟨a.se,⟨6,0,0,0⟩⟩:EvV)) (Hold.ob hH (A:=rwO evE w.heap.size (some ⟨ge,0,none⟩) 1 ce [⟨a.se,⟨6,0,0,0⟩⟩] true) 5 rfl) rfl) ⟨tab_ok⟩ (by rfl) (by rfl) (by first | (simp only [Go.WideShapes.add_plain]; done)|(simp only [Go.WideShapes.add_plain]; rfl)) ?_|refine callH (f:=27) (.v (.pointer (some ⟨x1.q,0,none⟩))) (fun w1 hH=>coreS (Hold.ob hH (A:=gsO q1 c x1 (sumT ss k) me g true) 2 rfl)) ?_|refine callN (f:=30) (ι:=NrP w.heap.size g.x.1.Q.length) (fun x=>.v (.slice x.1.2.1 g.x.1.Q.length x.1.2.2)) (fun x=>rwO askE x.1.1 x.1.2.1 g.x.1.Q.length x.1.2.2 g.x.1.Q true) (fun w1 hH=>toNp (queueS (Hold.ob hH (A:=gsO q1 c x1 (sumT ss k) me g true) 2 rfl) (by omega)) hH.upd.size) (fun uq=>?_)|refine callN (f:=28) (ι:=NrP w.heap.size g.x.1.L.length) (fun x=>.v (.slice x.1.2.1 g.x.1.L.length x.1.2.2)) (fun x=>rwO leaE x.1.1 x.1.2.1 g.x.1.L.length x.1.2.2 g.x.1.L true) (fun w1 hH=>toNp (leasesS (Hold.ob hH (A:=gsO q1 c x1 (sumT ss k) me g true) 2 rfl) (by omega)) hH.upd.size) (fun ul=>?_)|refine callH (f:=29) (.b true) (fun w1 hH=>Lc.sameA (by omega) (Hold.ob hH (A:=rwO askE l8 A8 g.x.1.Q.length c8 g.x.1.Q true) 3 rfl) (Hold.ob hH (A:=rwO askE uq.1.1 uq.1.2.1 g.x.1.Q.length uq.1.2.2 g.x.1.Q true) 6 rfl)) ?_|refine callH (f:=26) (.b true) (fun w1 hH=>Lc.sameL (by omega) (Hold.ob hH (A:=rwO leaE l7 A7 g.x.1.L.length c7 g.x.1.L true) 4 rfl) (Hold.ob hH (A:=rwO leaE ul.1.1 ul.1.2.1 g.x.1.L.length ul.1.2.2 g.x.1.L true) 7 rfl)) ?_|refine br_t (by simp only [beq_self_eq_true,Bool.and_self]) ?_|refine fin_s ?_))
       all_goals rfl
theorem wbusL {H:Type} {enc:TypeId×Value→H} {x:DataW H×List MemPlace} (c:CfgV) (y:AskV) {a:Option Addr} {len cap:Nat} {w:World} (ht:Lib.TabIs Tryz.prog w "internal/strconv.uint64pow10" .u64 Lib.pow10Tab) (hx:∃ m,DataW.trod enc Tryz.prog w 0 (fun _=>true) true m 24 (Value.cells (.slice a len cap)).toList=some x) (hU:∀ u∈x.1.weights Tryz.prog 24,u≤reachBytes):Calls Tryz.prog 14 #[(aCfg c),.slice a len cap,.agg #[.int .i64 y.se,.int .i64 y.fl,.int .i64 y.fm,.int .i64 y.to,.int .i64 y.ma]] w fun e w'=>e=.returned (.bool true)∧Since w w':=by
 obtain ⟨ss,h1,h2,h3⟩:=steps_in hx hU
 exact wbusF c y h1 h2 h3 ht
end Gw
end Go.Proofs.YtepfmfalebmcnaaGreatDoor
