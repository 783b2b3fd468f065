/-
  Wanted: WholeSilent 0.
  No condition.
-/
import Derived.Test.YtepfmfalebmcnaaGreatDoorProg
import Derived.Test.YtepfmfalebmcnaaGreatDoorQH0
import Derived.Test.YtepfmfalebmcnaaGreatDoorQH5
import Derived.Test.YtepfmfalebmcnaaGreatDoorQH6
import Derived.Test.YtepfmfalebmcnaaGreatDoorQH7
import Derived.Test.YtepfmfalebmcnaaGreatDoorQH8
import Derived.Test.YtepfmfalebmcnaaGreatDoorQH9
import Derived.Test.YtepfmfalebmcnaaGreatDoorQH14
import Derived.Test.YtepfmfalebmcnaaGreatDoorQH16
set_option linter.all false
namespace Go.Proofs.YtepfmfalebmcnaaGreatDoor
namespace Qu
open Go.RowKit Ba Mem Go.Proofs.YtepfmfalebmcnaaGreatDoor.Ty
set_option maxRecDepth 100000
attribute [local irreducible] Go.wpList
namespace CA
set_option maxHeartbeats 4000000 in
theorem cloneNil (w:World):Calls Tryz.prog 80 #[.slice none 0 0] w fun e w'=>e=.returned (.slice none 0 0)∧Since w w':=by
 go_enter Tryz.func80,Tryz.ntmps80
 go_upto_region 1 with fail
 have HS1:=Lib.hid (Since.refl w)
 refine wp_region_lit ?_
 refine tkL (.slice none 0 0) (h:=?_)
 try simp only[Act.put,sA,sB,sC]
 refine tkL (.bool true) (h:=?_)
 try simp only[Act.put,sA,sB,sC]
 refine wpList_nil ?_
 go_upto_region 2 with fail
 refine wp_region_lit ?_
 refine tkL (.slice none 0 0) (h:=?_)
 try simp only[Act.put,sA,sB,sC]
 refine wpList_nil ?_
 (try go_wp2_with fail)
 go_ret
 exact ⟨rfl,HS1.out⟩
set_option maxHeartbeats 4000000 in
theorem cloneSome (ad:Addr) (n c:Nat) (ls:List AskV) (w:World) (hR:Reads w w.heap.size 5 (some ad) n (rowsOf askC ls)) (hN:n≤1000000):Calls Tryz.prog 80 #[.slice (some ad) n c] w fun e w'=>∃ A' c',e=.returned (.slice A' n c')∧w'.ownsRow w.heap.size 69 5 (.slice A' n c') n (rowsOf askC ls)∧Since w w':=by
 have HR:=Lib.hid hR
 clear hR
 have HN:=Lib.hid hN
 clear hN
 go_enter Tryz.func80,Tryz.ntmps80
 go_upto_region 1 with fail
 have HS1:=Lib.hid (Since.refl w)
 refine wp_region_lit ?_
 refine tkL (.slice (some ad) n c) (h:=?_)
 try simp only[Act.put,sA,sB,sC]
 refine tkL (.bool false) (h:=?_)
 try simp only[Act.put,sA,sB,sC]
 refine wpList_nil ?_
 go_upto_region 3 with fail
 refine wp_region_lit ?_
 refine wpList_wp (by rfl) (fun K hK=>?_)
 refine wp_new (fun b=>.slice (some ⟨b,0,none⟩) 0 0) 69 #[] (by rintro b rfl; first | rfl | kernel_rfl) ?_
 intro bn5 w2 hge hB hb
 refine hK.out _ _ ?_
 clear hK K
 try simp only[Act.put,sA,sB,sC]
 have HGn5:=Lib.hid (show w.heap.size≤bn5 by have:=Since.size HS1.out; omega)
 have HS2:=Lib.hid (Since.trans HS1.out hb)
 clear HS1 
 clear hb hge
 have HBn52:=Lib.hid hB
 clear hB
 refine tkL (.slice (some ad) n c) (h:=?_)
 try simp only[Act.put,sA,sB,sC]
 refine wpList_wp (by rfl) (fun K hK=>?_)
 have HOE:=Lib.hid (own_empty (e:=69) (size:=5) HBn52.out HGn5.out)
 clear HBn52
 refine wp_append_row (.tmp 5) (.tmp 6) 51 rfl w.heap.size 69 (Value.agg #[.int .i64 0,.int .i64 0,.int .i64 0,.int .i64 0,.int .i64 0]) 5 40 Tryz.underlying51 (by kernel_rfl) rfl (by decide) (by decide) (some ⟨bn5,0,none⟩) 0 0 ([]) rfl HOE.out _ (some ad) n c (rowsOf askC ls) rfl (own_reads_since HS2.out (Nat.le_refl _) HR.out) (asks_one ls) (by have:=HN.out; omega) HS2.out.size n (rowsOf askC ls) (Nat.zero_add _) rfl ?_
 intro A_1 c_1 w3 hown hupd hfar
 refine hK.out _ _ ?_
 clear hK K
 try simp only[Act.put,sA,sB,sC]
 have HS3:=Lib.hid (Since.upd HS2.out hupd (own_low HOE.out))
 have HFr3:=Lib.hid hown
 clear hupd hown hfar HS2 HOE
 refine tkL (.slice A_1 n c_1) (h:=?_)
 try simp only[Act.put,sA,sB,sC]
 refine wpList_nil ?_
 (try go_wp2_with fail)
 go_ret
 exact ⟨A_1,c_1,rfl,HFr3.out,HS3.out⟩
theorem cloneT (lo:Nat) (A:Option Addr) (c:Nat) (ls:List AskV) (w:World) (hO:w.ownsRow lo 69 5 (.slice A ls.length c) ls.length (rowsOf askC ls)) (hl:ls.length≤1000000):Calls Tryz.prog 80 #[.slice A ls.length c] w fun e w'=>∃ A' c',e=.returned (.slice A' ls.length c')∧w'.ownsRow w.heap.size 69 5 (.slice A' ls.length c') ls.length (rowsOf askC ls)∧Since w w':=by
 rcases own_at hO with ⟨rfl,h0,hx⟩ | ⟨g,cur,rfl,_⟩
 ·have hc:c=0:=by
   rcases hO.2 with ⟨hv,_⟩ | ⟨_,_,_,hv,_⟩
   ·simp at hv; exact hv.2
   ·simp at hv
  subst hc
  rw [hx,h0]
  refine (cloneNil w).mono ?_
  rintro e w1 ⟨rfl,hb⟩
  exact ⟨none,0,rfl,World.ownsRow_nil _ _ _ _,hb⟩
 ·exact cloneSome _ _ c ls w (own_reads hO) hl
end CA
namespace CL
end CL
end Qu
namespace Qu
open Go.RowKit Ba Mem En Go.Proofs.YtepfmfalebmcnaaGreatDoor.Ty
set_option maxRecDepth 100000
attribute [local irreducible] Go.Calls
theorem listT {q lo c:Nat} {room:Int} {ls:List AskV} {A:Option Addr} (w:World) (hq:Blk w q 142 #[.int .i64 room,.slice A ls.length c]) (ho:askE.At lo A ls.length c ls w) (hl:ls.length≤1000000) :
  Calls Tryz.prog 55 #[.pointer (some ⟨q,0,none⟩)] w fun e w'=>∃ A' c',e=.returned (.slice A' ls.length c')∧askE.At w.heap.size A' ls.length c' ls w'∧Since w w':=by
 refine entH tab_ok (hold_qr hq ho) [.p 0 0] Tryz.func55 Tryz.ntmps55 rfl rfl ?_
 repeat' (first | refine gs_ ?_|((conv=>whnf); first | intro b | refine callN (f:=80) (ι:={x:Nat×Option Addr×Nat // w.heap.size≤x.1}) (fun x=>.v (.slice x.1.2.1 ls.length x.1.2.2)) (fun x=>rwO askE x.1.1 x.1.2.1 ls.length x.1.2.2 ls true) (fun w1 hH=>(CA.cloneT lo A c ls w1 (hH.obj (rwO askE lo A ls.length c ls false) (List.mem_singleton.2 rfl)) hl).mono (by rintro e w' ⟨A',c',rfl,hO,hs⟩; exact ⟨⟨(w1.heap.size,A',c'),hH.upd.size⟩,rfl,hO,hs,own_low hO⟩)) (fun x=>?_)|refine fin fun w' hH=>⟨_,_,rfl,own_base (hH.obj (rwO askE _ _ _ _ _ true) (List.mem_cons_of_mem _ (List.mem_cons_self ..))) x.2,hH.upd.since⟩|refine fin_s ?_))
attribute [local irreducible] atS oM
attribute [local irreducible] oQ atI
end Qu
namespace Co
open Go.RowKit Ba Mem En Go.Proofs.YtepfmfalebmcnaaGreatDoor.Ty Mo
open Gr (GrV GO CarsAt WaitsAt carL waitL WaitV pairO newG okT okW)
open Qu (QO askE intE askC btw)
open Le (TO)
open Fl (leaE)
open Ri (MsgV msgC)
open Et (carsO)
set_option maxRecDepth 100000
attribute [local irreducible] Go.Calls
section
variable {w w':World} {lo lo' q:Nat} {p:Pt} {K:KV} {S T:List Nat}
end
section
variable {P:Program} {F:FuncId} {args:Array Value} {w:World} {lo:Nat} {p:Pt} {K:KV} {S:List Nat} {V:Value}
end
section
variable {P:Program} {F:FuncId} {args:Array Value} {w1:World} {n0 n:Nat}
end
section
variable {w:World} {lo:Nat} {p:Pt} {K:KV} {S:List Nat}
theorem BD.asks (h:BD lo p K S w) (hl:K.Q.length≤10000):Calls Tryz.prog 55 #[.pointer (some ⟨p.q,0,none⟩)] w fun e w'=>∃ A' c',e=.returned (.slice A' K.Q.length c')∧askE.At w.heap.size A' K.Q.length c' K.Q w'∧Since w w':=by
 obtain ⟨S1,S2,S3,rfl,h1,⟨_,A,c,rfl,B,O⟩,h3,d⟩:=h
 exact Qu.listT w B O (by omega)
end
end Co
namespace En
open Go.RowKit Ba Mem
end En
namespace Co
open Go.RowKit Ba Mem En Go.Proofs.YtepfmfalebmcnaaGreatDoor.Ty Mo Go.Proofs.YtepfmfalebmcnaaGreatDoor.St
open Gr (GrV GO CarsAt WaitsAt newG okT okW waitsO tickP)
open Qu (QO askE qO)
open Le (TO tO)
open Fl (leaE)
open Ri (MsgV msgC)
open Et (carsO)
set_option maxRecDepth 100000
attribute [local irreducible] Go.Calls
section
variable {lo q:Nat} {p:Pt} {K:KV} {S T:List Nat} {w w':World}
end
section
variable {P:Program} {F:FuncId} {args:Array Value} {lo q:Nat} {p:Pt} {K K':KV} {S:List Nat} {w:World} {V:Value}
end
section
variable {lo q:Nat} {p:Pt} {K:KV} {S:List Nat} {w:World}
theorem leasesK (h:KW lo q p K S w) (hl:K.L.length≤10000):Calls Tryz.prog 28 #[.pointer (some ⟨q,0,none⟩)] w fun e w'=>∃ A' c',e=.returned (.slice A' K.L.length c')∧leaE.At w.heap.size A' K.L.length c' K.L w'∧Since w w':=by
 obtain ⟨S0,hk,hb⟩:=h.rd
 refine entH tab_ok (hold_kr hk hb) [.p 0 0] Tryz.func28 Tryz.ntmps28 rfl rfl ?_
 repeat' (first | refine gs_ ?_|((conv=>whnf); first | intro b | refine callN (f:=54) (ι:=NrA w.heap.size) (fun x=>.v (.slice x.1.2.1 K.L.length x.1.2.2)) (fun x=>rwO leaE x.1.1 x.1.2.1 K.L.length x.1.2.2 K.L true) (fun w1 hH=>toN ((Hold.ob hH (A:=bdO lo p K S0 false) 0 rfl).leases hl) hH.upd.size) (fun x=>?_)|refine fin fun w' hH=>⟨_,_,rfl,own_base (Hold.ob hH (A:=rwO leaE x.1.1 x.1.2.1 K.L.length x.1.2.2 K.L true) 1 rfl) x.2,hH.upd.since⟩|refine fin_s ?_))
theorem queueK (h:KW lo q p K S w) (hl:K.Q.length≤10000):Calls Tryz.prog 30 #[.pointer (some ⟨q,0,none⟩)] w fun e w'=>∃ A' c',e=.returned (.slice A' K.Q.length c')∧askE.At w.heap.size A' K.Q.length c' K.Q w'∧Since w w':=by
 obtain ⟨S0,hk,hb⟩:=h.rd
 refine entH tab_ok (hold_kr hk hb) [.p 0 0] Tryz.func30 Tryz.ntmps30 rfl rfl ?_
 repeat' (first | refine gs_ ?_|((conv=>whnf); first | intro b | refine callN (f:=55) (ι:=NrA w.heap.size) (fun x=>.v (.slice x.1.2.1 K.Q.length x.1.2.2)) (fun x=>rwO askE x.1.1 x.1.2.1 K.Q.length x.1.2.2 K.Q true) (fun w1 hH=>toN ((Hold.ob hH (A:=bdO lo p K S0 false) 0 rfl).asks hl) hH.upd.size) (fun x=>?_)|refine fin fun w' hH=>⟨_,_,rfl,own_base (Hold.ob hH (A:=rwO askE x.1.1 x.1.2.1 K.Q.length x.1.2.2 K.Q true) 1 rfl) x.2,hH.upd.since⟩|refine fin_s ?_))
end
end Co
namespace Gw
open Go.RowKit Ba Mem En Go.Proofs.YtepfmfalebmcnaaGreatDoor.Ty Mp
open Ri (MsgV)
open Co (KV Pt KW Nr NrA toN Hold.ob)
open Gr (doR)
open Lc (hallW pressW loadW2 curtW faultW)
open Et (carsO)
set_option maxRecDepth 100000
attribute [local irreducible] Go.Calls
section
variable {lo gq M:Nat} {c:CfgV} {x:Gp} {ep sk sa sb i:Int} {K:KV} {Sk:List Nat} {D:Fam} {w:World} {dA:Option Addr} {dn dc:Nat}
theorem coreT (hb:Blk w gq 96 (gwA c x ep)):Calls Tryz.prog 27 #[.pointer (some ⟨gq,0,none⟩)] w fun e w'=>e=.returned (.pointer (some ⟨x.q,0,none⟩))∧Since w w':=by
 refine entH tab_ok (hold_q (S:=[]) (gwS c x ep) hb) [.p 0 0] Tryz.func27 Tryz.ntmps27 rfl rfl ?_
 repeat' (first | refine gs_ ?_|((conv=>whnf); first | intro b | refine fin_s ?_))
 all_goals rfl
end
end Gw
namespace Gw
open Go.RowKit Ba Mem En Go.Proofs.YtepfmfalebmcnaaGreatDoor.Ty
open Byt (BV isB)
open Co (Hold.ob)
set_option maxRecDepth 100000
attribute [local irreducible] Go.Calls
theorem lightT {a:Option Addr} {len cap:Nat} {ss:Nat→StepD} {w:World} (h:StR a len ss w) (hlen:len≤9223372036854775807):Calls Tryz.prog 35 #[.slice a len cap] w fun e w'=>e=.returned (.bool (litB ss len))∧Since w w':=by
 obtain ⟨gb,off,hb⟩:=Ek.rd_addr h.r
 refine entH tab_ok (hold_st h) [.v (.slice a len cap)] Tryz.func35 Tryz.ntmps35 rfl rfl ?_
 repeat' (first | refine gs_ ?_|((conv=>whnf); first | intro b | refine fin_s ?_))
 conv=>whnf
 refine lp ⟨tab_ok⟩ (ι:={k:Nat // k≤len}) (fun x=>match x with | ⟨k,_⟩=>⟨[(0,.v (.slice a len cap)),(3,.i .i64 (sumW ss k)),(4,.i .i64 (k:Int))],[],[stO a len ss]⟩) (fun k=>len - k.1) ⟨0,Nat.zero_le _⟩ (wk ?_) ?_
 ·repeat' (first | exact trivial | rfl | ((conv=>whnf); refine And.intro ?_ ?_))
 rintro ⟨k,hk⟩
 by_cases hlt:k < len
 ·have hb:=hb (by omega)
  subst hb
  repeat' (first | refine gs_ ?_|((conv=>whnf); first | intro b | refine bto ?_|refine bfo ?_|refine wr_i ?_|refine wr_lit ?_|refine iv_ ?_|refine ui_ ?_|refine fv_ ?_|refine uf_ ?_|refine opxc (g:=gb) (off:=off+k*4+3) (.v (.slice (ss k).A (ss k).n (ss k).c)) (fun w hH=>rng_at (Ek.rd_rng (StR.r (Hold.ob hH (A:=stO (some ⟨gb,off,none⟩) len ss) 0 rfl)) hlt) rfl) ⟨tab_ok⟩ (by rfl) (by rfl) (by simp only [Go.WideShapes.add_plain]; rfl) ?_|refine En.back ⟨k+1,by omega⟩ (wk ?_) ?_|refine fin_s ?_))
  all_goals first | (show len - (k+1) < len - k; omega)|skip
  all_goals (repeat' (first | exact trivial | rfl | ((conv=>whnf); refine And.intro ?_ ?_)))
 ·obtain rfl:k=len:=by omega
  repeat' (first | refine gs_ ?_|((conv=>whnf); first | intro b | refine bto ?_|refine bfo ?_|refine b3_ (fun h=>?_) (fun h=>?_)|refine fin_s ?_))
  all_goals (simp [den,litB, *])
end Gw
namespace Gw
open Go.RowKit Ba Mem En Go.Proofs.YtepfmfalebmcnaaGreatDoor.Ty
open Fm (frames)
open Byt (BV isB)
open Co (KV newK Hold.ob)
set_option maxRecDepth 100000
attribute [local irreducible] Go.Calls
section
variable {X:Cx} {s:St}
theorem doX {K:SV→St→Prop} {f:FuncId} {vs:List SV} (i j:Nat) {gq B:Nat} {c:CfgV} {x:Gp} {m:Gm} {g:Gs} {k a b:Int} {dA:Option Addr} {dn dc:Nat} (d:List Int) (B':Nat) {i0:Nat} {g':Gs} {o':List (Int×List Int)} {r:Int} (he:doV c g k a b d=(g',o',r)) (hg:GI c i0 B g) (hi:i0 < 10000) (hB:B+d.length≤60000) (hB2:B+d.length≤B')
  (hk:(Lit.int .i64 k).wf=true) (hz:∀ w,Hold X s.m s.ob w→BV w dA dn d∧∀ y∈rdF dA dn,y∉gmF gq x m)
  (hf:f=24) (hP:X.P=Tryz.prog) (hA:s.ob[i]?=some (gsO gq c x B m g true)) (hT:s.ob[j]?=some tbO) (hv:denL s.m vs=[.pointer (some ⟨gq,0,none⟩),.agg #[.int .i64 k,.int .i64 a,.int .i64 b,.slice dA dn dc]]) (hij:j≠i)
  (h:∀ y:DoI o',setO i (gsO gq c x B' y.1.1 g' true) s.ob fun ob=>appO ob (osO y.1.2.1 y.1.2.2.1 y.1.2.2.2) fun ob=>K (.t [.v (.slice y.1.2.1 o'.length y.1.2.2.1),.i .i64 r]) ⟨s.fr,s.m,ob⟩)
  (hen:entChk X.P f=true:=by kernel_rfl):CallVC X f vs s K:=by
 refine callON i (A:=gsO gq c x B m g true) (fun y:DoI o'=>.t [.v (.slice y.1.2.1 o'.length y.1.2.2.1),.i .i64 r]) (fun y=>gsO gq c x B' y.1.1 g' true) (fun y=>osO y.1.2.1 y.1.2.2.1 y.1.2.2.2) (fun w hH hA1=>?_) h hA rfl hen (fun _=>rfl)
 subst hf
 rw [hP,hv]
 obtain ⟨z1,z2⟩:=hz w hH
 have hTb:=hH.obj _ (List.mem_of_getElem? hT)
 have hdis:∀ y∈gmF gq x m,y∉tbO.F:=pair_at (R:=DisR) (fun _ _ h=>h.symm) hH.dis hA hT (Ne.symm hij) (.inl rfl)
 refine (doD (k:=k) (a:=a) (b:=b) (dc:=dc) hA1 hg hi hB z1 z2 hTb (tb_far (A:=gsO gq c x B m g true) hdis) hk).mono ?_
 rintro e w' hq
 unfold DoQ at hq
 rw [he] at hq
 obtain ⟨y,h1,h2,h3,h4,h5,h6⟩:=hq
 refine ⟨⟨y.1,y.2,fun h0=>?_⟩,h1,h2.more hB2,h3,h4,h5,h6⟩
 obtain ⟨q,hq⟩:=Ek.addr h3.r
 have e:y.1.2.2.2.length=o'.length:=(List.length_map ..).symm.trans (congrArg List.length y.2)
 exact ⟨q,hq (by omega)⟩
end
theorem do_2 (c:CfgV) (g:Gs) (a b:Int) (d:List Int):doV c g 2 a b d=((doV c g 2 a b d).1,[],0):=by unfold doV; rw [if_neg (by decide),if_pos rfl]
end Gw
namespace Gw
open Go.RowKit Ba Mem En Go.Proofs.YtepfmfalebmcnaaGreatDoor.Ty
open Fm (frames)
open Byt (BV isB)
open Co (KV newK Hold.ob)
set_option maxRecDepth 100000
attribute [local irreducible] Go.Calls
section
variable {X:Cx} {m:List Row} {ob:List Asr} {w:World}
end
section
variable {gq B:Nat} {c:CfgV} {x:Gp} {m:Gm} {g:Gs} {w:World}
theorem epochS {i:Int} (h:GSt gq c x B m g w) (hi:(Lit.int .i64 i).wf=true):Calls Tryz.prog 23 #[.pointer (some ⟨gq,0,none⟩),.int .i64 i] w fun e w'=>e=.returned (.int .i64 (epochV g.x.2 i))∧Since w w':=by
 have:=epochT h.t.b h.t.k h.t.g1 hi
 rw [h.v] at this; exact this
theorem coreS (h:GSt gq c x B m g w):Calls Tryz.prog 27 #[.pointer (some ⟨gq,0,none⟩)] w fun e w'=>e=.returned (.pointer (some ⟨x.q,0,none⟩))∧Since w w':=coreT h.t.b
theorem viewsS (h:GSt gq c x B m g w) (h1:1≤g.x.1.G.cars.length∧g.x.1.G.cars.length≤8):Calls Tryz.prog 32 #[.pointer (some ⟨gq,0,none⟩)] w fun e w'=>∃ A' c',e=.returned (.slice A' g.x.1.G.cars.length c')∧viewE.At w.heap.size A' g.x.1.G.cars.length c' (g.x.1.G.cars.map viewOf) w'∧Since w w':=viewsT h.t.b h.t.k h.t.g1 (by omega) (by omega)
theorem leasesS (h:GSt gq c x B m g w) (hl:g.x.1.L.length≤10000):Calls Tryz.prog 28 #[.pointer (some ⟨x.q,0,none⟩)] w fun e w'=>∃ A' c',e=.returned (.slice A' g.x.1.L.length c')∧Fl.leaE.At w.heap.size A' g.x.1.L.length c' g.x.1.L w'∧Since w w':=Co.leasesK h.t.k.k hl
theorem queueS (h:GSt gq c x B m g w) (hl:g.x.1.Q.length≤10000):Calls Tryz.prog 30 #[.pointer (some ⟨x.q,0,none⟩)] w fun e w'=>∃ A' c',e=.returned (.slice A' g.x.1.Q.length c')∧Qu.askE.At w.heap.size A' g.x.1.Q.length c' g.x.1.Q w'∧Since w w':=Co.queueK h.t.k.k hl
end
end Gw
namespace Gw
open Go.RowKit Ba Mem En Go.Proofs.YtepfmfalebmcnaaGreatDoor.Ty Mg
open Fm (frm frames)
open Byt (BV isB)
open Co (KV newK Hold.ob)
set_option maxRecDepth 100000
def cfgT:CfgV:=⟨1,3,0,2,0,0,0,0,0,0,0,0,0,0,0,0,9,2⟩
def helT1:List Int:=frm (bytesOf (helP 1 0))
def wanT:PktV:=⟨1,1,0,0,true,2,1,0,0⟩
def tp1:Gs:=(doV cfgT (gs0 cfgT) 2 0 0 helT1).1
def tp2:Gs:=(doV cfgT tp1 1 0 0 []).1
theorem helT1_len:helT1.length=27:=by kernel_rfl
theorem helT1_may:mayB (helP 1 0)=true:=by kernel_rfl
theorem tp2_out:(doV cfgT tp1 1 0 0 []).2=([(1,frm (bytesOf wanT))],0):=by kernel_rfl
theorem tp2_ep:epochV tp2.x.2 1=1:=by kernel_rfl
theorem tp1_e:doV cfgT (gs0 cfgT) 2 0 0 helT1=(tp1,[],0):=do_2 _ _ _ _ _
theorem tp2_e:doV cfgT tp1 1 0 0 []=(tp2,[(1,frm (bytesOf wanT))],0):=by rw [← tp2_out]; rfl
theorem hold_tt {nt:Nat} {w:World} (ht:Lib.TabIs Tryz.prog w "internal/strconv.uint64pow10" .u64 Lib.pow10Tab):Hold ⟨Tryz.prog,tab,[],w,nt,[]⟩ [] [tbO] w :=
 Hold.addObj (Hold.nil _ tab [] _ w) tbO ht (by intro k; cases k) (by intro r hr; cases hr) (by intro A hA; cases hA)
attribute [local irreducible] Go.Calls doV tp1 tp2
set_option maxHeartbeats 4000000 in
theorem ansTop {w:World} (ht:Lib.TabIs Tryz.prog w "internal/strconv.uint64pow10" .u64 Lib.pow10Tab):Calls Tryz.prog 36 #[] w fun e w'=>e=.returned (.bool true)∧Since w w':=by
 have hbo:=bytes_b (helP 1 0) rfl
 have hl:=helT1_len
 have hg0:GI cfgT 0 0 (gs0 cfgT):=GI.new cfgT
 have hg1:GI cfgT 1 (0+27) tp1:=by have:=hg0.do_ (by decide) (k:=2) (a:=0) (b:=0) (d:=helT1) (by omega) ⟨by decide,by decide⟩; rw [hl,tp1_e] at this; exact this
 refine entH tab_ok (hold_tt ht) [] Tryz.func36 Tryz.ntmps36 rfl rfl ?_
 repeat' (first | refine gs_ ?_|((conv=>whnf); first | intro b | refine callN (f:=21) (ι:=Nat×Gp×List Nat) (fun y=>.v (.pointer (some ⟨y.1,0,none⟩))) (fun y=>gsO y.1 cfgT y.2.1 0 (gm0 y.2.1 y.2.2) (gs0 cfgT) true) (fun w1 hH=>newS cfgT w1) (fun y=>?_)|refine callN (f:=20) (ι:=Option Addr×Nat) (fun x=>.v (.slice x.1 21 x.2)) (fun x=>rwO byteE w.heap.size x.1 21 x.2 (bytesOf (helP 1 0)) true) (fun w1 hH=>(bytesH (helP 1 0) helT1_may rfl w1).mono (by rintro e w' ⟨x,rfl,h1,h2⟩; rw [← hbo] at h1; exact ⟨x,rfl,Ek.base h1 hH.upd.size,h2,Ek.lows h1⟩)) (fun x=>?_)|refine callN (f:=19) (ι:=Option Addr×Nat) (fun z=>.v (.slice z.1 27 z.2)) (fun z=>rwO byteE w.heap.size z.1 27 z.2 helT1 true) (fun w1 hH=>(frmE x.1 x.2 (bytesOf (helP 1 0)) 21 27 w1 (Hold.ob hH (A:=rwO byteE w.heap.size x.1 21 x.2 (bytesOf (helP 1 0)) true) 2 rfl) (bytes_isB _) (by omega) helT1_len).mono (by rintro e w' ⟨z,rfl,h1,h2⟩; exact ⟨z,rfl,Ek.base h1 hH.upd.size,h2,Ek.lows h1⟩)) (fun z=>?_)|refine doX 1 0 helT1 (0+27) tp1_e hg0 (by decide) (by omega) (by omega) (by decide) (fun w1 hH=>⟨Byt.BV.of_own (byte_own.1 (Hold.ob hH (A:=rwO byteE w.heap.size z.1 27 z.2 helT1 true) 3 rfl)) (Fm.frm_isB (bytes_isB _)),fun g hg hm=>(pair_at (R:=DisR) (fun _ _ h=>h.symm) hH.dis (i:=1) (j:=3) rfl rfl (by decide) (.inl rfl)) g hm (rdF_blk g hg)⟩) rfl rfl rfl rfl rfl (by decide) (fun u1=>?_)|refine doX 1 0 [] (0+27) tp2_e hg1 (by decide) (by decide) (by decide) (by decide) (fun w1 hH=>⟨BV.nil _ _,by intro g hg; cases hg⟩) rfl rfl rfl rfl rfl (by decide) (fun u2=>?_)|refine fin_s ?_))
 conv=>whnf
 obtain ⟨⟨m2,A2,c2,os2⟩,hov,hA2⟩:=u2
 obtain ⟨g2,hg2⟩:=hA2 (by decide)
 have hg2:A2=some ⟨g2,0,none⟩:=hg2
 subst hg2
 have hov:outsV os2=[(1,frm (bytesOf wanT))]:=hov
 obtain ⟨A3,c3,rfl⟩:=outs_one hov
 repeat' (first | refine gs_ ?_|((conv=>whnf); first | intro b | refine br_t (by rfl) ?_|refine br_t (beq_self_eq_true _) ?_|refine opiv ⟨tab_ok⟩ (by rfl) (by rfl) (by rfl) (by rfl) (by rfl) (by rfl) ⟨by decide,by decide⟩ ?_|refine fv_ ?_|refine opxc (g:=g2) (off:=0+0*2+0) (.i .i64 1) (fun w1 hH=>rng_at (v:=.int .i64 1) (Ek.rng (x:=(⟨1,A3,c3,frm (bytesOf wanT)⟩:OutD)) (k:=0) (OsAt.r (Hold.ob hH (A:=osO (some ⟨g2,0,none⟩) c2 [⟨1,A3,c3,frm (bytesOf wanT)⟩]) 5 rfl)) rfl) rfl) ⟨tab_ok⟩ (by rfl) (by rfl) (by simp only [Go.WideShapes.add_plain]; rfl) ?_|refine callH (f:=23) (.i .i64 1) (fun w1 hH=>(by have:=epochS (i:=1) (Hold.ob hH (A:=gsO y.1 cfgT y.2.1 (0+27) m2 tp2 true) 1 rfl) (wf_small (by decide)); rw [tp2_ep] at this; exact this)) ?_|refine fin_s ?_))
 all_goals rfl
end Gw
namespace Gw
open Go.RowKit Ba Mem En Go.Proofs.YtepfmfalebmcnaaGreatDoor.Ty Tm
open Ri (MsgV)
open Mg (PktV)
open Fm (frames)
open Ln (LkV winV mx2)
open Co (KV KI KT EvV ansK hearK goneK tickK tickE inC newK setK stepK foldK tkK1 grantK grK)
open Lc (PI CI UQ)
set_option maxRecDepth 100000
section
variable {K:KV} {s t:Int}
end
theorem rk_now:Rk (fun K K'=>K'.G.now=K.G.now):=⟨fun K=>rfl,fun h k=>k.trans h,fun K s=>Lc.end_now K s,fun K a=>rfl,fun K s m=>Lc.hear_now K s m⟩
section
variable {c:CfgV} {ep:Int} {x:Kv}
theorem SI.new (c:CfgV):SI c 0 (newK c,fun _=>none):=⟨UQ.new c,⟨Int.le_refl 0,by show (0:Int)≤1000000; decide⟩,fun i v hv=>(by cases hv),fun i v hv=>(by cases hv),fun s hs=>by
 rcases hs with ⟨l,hl,_⟩ | ⟨a,ha,_⟩
 ·cases hl
 ·cases ha⟩
theorem SI.tick (h:SI c ep x) (hn:x.1.G.now < 1000000):SI c ep (tickG x).1:=SI.tickL _ (x:=(tellF (tickK x.1,x.2) (tickE x.1),[])) (SI.tell _ (h.tk hn))
end
theorem SI.do_ {c:CfgV} {i B:Nat} {g:Gs} (h:SI c g.ep g.x) (hg:GI c i B g) (hi:i < 10000) {k a b:Int} {d:List Int} (hB:B+d.length≤60000):SI c (doV c g k a b d).1.ep (doV c g k a b d).1.x:=by
 have he:=hg.e
 unfold doV
 by_cases h1:k=1
 ·rw [if_pos h1]
  exact h.tick (by have:=hg.j.p.t; omega)
 rw [if_neg h1]
 by_cases h2:k=2
 ·rw [if_pos h2]
  have hc:=Fm.frames_le (g.xs++d)
  rw [List.length_append] at hc
  exact SI.run _ (x:=(g.x,g.ep)) he.1 (by show g.ep+_≤_; omega) h
 rw [if_neg h2]
 by_cases h3:3≤k∧k≤7
 ·rw [if_pos h3]
  exact h.kset (h.u.grp _) (Lc.doR_w _ _ _ _ _ (by omega)).1 h.ls
 rw [if_neg h3]
 by_cases h8:k=8
 ·rw [if_pos h8]; exact h
 ·rw [if_neg h8]; exact h
theorem tickL_at:∀ (ks:List Int) (x:Ko) (i:Int) (v:SeV),ks.Pairwise (fun a b=>a < b)→(tickL x ks).1.2 i=some v →
  (tickL x ks).1.1.G.now=x.1.1.G.now∧((i∉ks∧x.1.2 i=some v)∨(i∈ks∧∃ u,x.1.2 i=some u∧Ln.deadB u.k u.ls.length x.1.1.G.now=false∧v=pollS u x.1.1.G.now))
 | [],x,i,v,_,h=>⟨rfl,.inl ⟨by simp,h⟩⟩
 | k::r,x,i,v,hp,h=>by
  obtain ⟨hk,hr⟩:=List.pairwise_cons.1 hp
  have hn:(tickS x k).1.1.G.now=x.1.1.G.now:=rk_now.tickS x k
  obtain ⟨h1,h2⟩:=tickL_at r (tickS x k) i v hr h
  rw [hn] at h1 h2
  refine ⟨h1, ?_⟩
  by_cases hi:i=k
  ·subst hi
   have hir:i∉r:=fun hm=>by have:=hk i hm; omega
   rcases h2 with ⟨_,h2⟩ | ⟨h2,_⟩
   ·refine .inr ⟨List.mem_cons_self .., ?_⟩
    unfold tickS at h2
    cases hv:x.1.2 i with
    | none=>rw [hv] at h2; simp only [] at h2; rw [hv] at h2; cases h2
    | some u =>
     rw [hv] at h2
     simp only [] at h2
     cases hd:Ln.deadB u.k u.ls.length x.1.1.G.now with
     | true=>rw [hd,if_pos rfl] at h2; simp [endV,setV] at h2
     | false =>
      rw [hd,if_neg (by decide)] at h2
      simp [setV] at h2
      exact ⟨u,rfl,hd,h2.symm⟩
   ·exact absurd h2 hir
  ·rw [tickS_far x hi] at h2
   rcases h2 with ⟨h2,h3⟩ | ⟨h2,h3⟩
   ·exact .inl ⟨by simp [hi,h2],h3⟩
   ·exact .inr ⟨List.mem_cons_of_mem _ h2,h3⟩
theorem tell1_at {x:Kv} {e:EvV} {i:Int} {v:SeV} (h:(tell1 x e).2 i=some v):∃ u,x.2 i=some u∧v.k=u.k:=by
 unfold tell1 at h
 cases hv:x.2 e.s with
 | none=>rw [hv] at h; exact ⟨v,h,rfl⟩
 | some u =>
  rw [hv] at h
  simp only [] at h
  split at h
  ·by_cases hi:i=e.s
   ·simp [setV,hi] at h
    exact ⟨u,by rw [hi]; exact hv,by rw [← h]⟩
   ·simp [setV,hi] at h
    exact ⟨v,h,rfl⟩
  ·exact ⟨v,end_sub h,rfl⟩
theorem tellF_at:∀ (es:List EvV) {x:Kv} {i:Int} {v:SeV},(tellF x es).2 i=some v→∃ u,x.2 i=some u∧v.k=u.k
 | [],_,_,v,h=>⟨v,h,rfl⟩
 | e::r,x,i,v,h=>by
  obtain ⟨u,h1,h2⟩:=tellF_at r (x:=tell1 x e) h
  obtain ⟨u',h3,h4⟩:=tell1_at h1
  exact ⟨u',h3,h2.trans h4⟩
theorem QI.tick {c:CfgV} {ep n0:Int} {j:Nat} {x:Kv} (h:QI c n0 j x) (hs:SI c ep x) (hn:x.1.G.now < 1000000):QI c n0 (j+1) (tickG x).1:=by
 have e0:=tick_nowK hs.nw
 have e1:(tellF (tickK x.1,x.2) (tickE x.1)).1.G.now=(tickK x.1).G.now:=rk_now.tell (tickE x.1) (tickK x.1,x.2)
 have e2:(tickG x).1.1.G.now=(tickK x.1).G.now:=rk_now.tick x
 have hnow:=h.now
 have key:∀ i v,(tickG x).1.2 i=some v→(0≤i∧i < 64)∧v.k.he≤n0∧(tickK x.1).G.now < v.k.he+cl c.de:=fun i v hv=>by
  obtain ⟨_,h2⟩:=tickL_at _ (tellF (tickK x.1,x.2) (tickE x.1),[]) i v (keys_sorted _) hv
  rcases h2 with ⟨hk,h2⟩ | ⟨hk,u,h2,h3,rfl⟩
  ·exfalso
   obtain ⟨u,hu,_⟩:=tellF_at _ h2
   have:=(h.he i u hu).1
   exact hk (keys_mem.2 ⟨this,by show ((tellF (tickK x.1,x.2) (tickE x.1)).2 i).isSome=true; rw [show (tellF (tickK x.1,x.2) (tickE x.1)).2 i=some v from h2]; rfl⟩)
  ·obtain ⟨u',hu,hk2⟩:=tellF_at _ h2
   obtain ⟨a1,a2⟩:=h.he i u' hu
   have hs2:=hs.he i u' hu
   have e3:(pollS u (tellF (tickK x.1,x.2) (tickE x.1)).1.G.now).k.he=u.k.he:=by
    show (Ln.pollK _ _ _).he=_
    unfold Ln.pollK
    (repeat' split) <;> rfl
   have h3:Ln.deadB u.k u.ls.length (tellF (tickK x.1,x.2) (tickE x.1)).1.G.now=false:=h3
   rw [e1] at h3
   unfold Ln.deadB at h3
   simp only [Bool.or_eq_false_iff,decide_eq_false_iff_not] at h3
   have h4:=h3.2
   rw [hk2,hs2.2] at h4
   have hcd:=cl_lo c.de
   have hn0:=hs.nw
   refine ⟨a1, ?_, ?_⟩
   ·show (pollS u (tellF (tickK x.1,x.2) (tickE x.1)).1.G.now).k.he≤_
    rw [e3,hk2]; exact a2
   ·show _ < (pollS u (tellF (tickK x.1,x.2) (tickE x.1)).1.G.now).k.he+_
    rw [e3,hk2]
    rw [cl_id u'.k.he hs2.1.1 (by omega),cl_id (tickK x.1).G.now (by omega) (by omega)] at h4
    unfold cl at h4 ⊢
    unfold cl at hcd
    (repeat' split at h4) <;> (repeat' split at hcd) <;> (repeat' split) <;> omega
 refine ⟨by rw [e2,e0,hnow]; push_cast; omega,fun i v hv=>⟨(key i v hv).1,(key i v hv).2.1⟩,fun _ i v hv=>?_⟩
 rw [e2]
 exact (key i v hv).2.2
end Gw
namespace Gw
open Go.RowKit Ba Mem En Go.Proofs.YtepfmfalebmcnaaGreatDoor.Ty
open Fm (frames)
open Byt (BV isB)
open Tm (cl cl_lo)
open Fl (leaE)
open Qu (askE intE)
open Co (KV newK Hold.ob NrP toNp Nr)
set_option maxRecDepth 100000
def KR (x:Kv):Prop:=∀ i v,x.2 i=some v→0≤i∧i < 64
theorem kr_st {gq B:Nat} {c:CfgV} {x:Gp} {m:Gm} {g:Gs} {w:World} (h:GSt gq c x B m g w):KR g.x:=fun i v hv=>by
 rw [← h.v] at hv
 unfold vals at hv
 cases hd:m.D i with
 | none=>rw [hd] at hv; cases hv
 | some d=>exact (h.t.k.f.at_ i d hd).1
theorem do_1 (c:CfgV) (g:Gs) (a b:Int) (d:List Int):doV c g 1 a b d=(⟨(tickG g.x).1,g.ep,g.xs⟩,(tickG g.x).2,0):=by unfold doV; rw [if_pos rfl]
section
variable {gq B:Nat} {c:CfgV} {x:Gp} {m:Gm} {g:Gs} {w:World}
theorem sessionsS (h:GSt gq c x B m g w) (hB:B≤1000000):Calls Tryz.prog 31 #[.pointer (some ⟨gq,0,none⟩)] w fun e w'=>∃ A' c',e=.returned (.slice A' (keysL g.x.2).length c')∧intE.At w.heap.size A' (keysL g.x.2).length c' (keysL g.x.2) w'∧Since w w':=by
 have:=sessionsT h.t.b h.t.k h.t.g1 (by have:=h.hM; omega)
 rw [h.v] at this
 exact this
theorem keys_nil {V:Int→Option SeV} (h:∀ i,V i=none):keysL V=[]:=by
 rw [List.eq_nil_iff_forall_not_mem]
 intro z hz
 have:=(keys_mem.1 hz).2
 rw [h z] at this
 cases this
end
section
variable {X:Cx} {s:St}
abbrev DoJ (o':List (Int×List Int)) (g':Gs):={y:DoI o' // KR g'.x}
theorem doXk {K:SV→St→Prop} {f:FuncId} {vs:List SV} (i j:Nat) {gq B:Nat} {c:CfgV} {x:Gp} {m:Gm} {g:Gs} {k a b:Int} {dA:Option Addr} {dn dc:Nat} (d:List Int) (B':Nat) {i0:Nat} {g':Gs} {o':List (Int×List Int)} {r:Int} (he:doV c g k a b d=(g',o',r)) (hg:GI c i0 B g) (hi:i0 < 10000) (hB:B+d.length≤60000) (hB2:B+d.length≤B')
  (hk:(Lit.int .i64 k).wf=true) (hz:∀ w,Hold X s.m s.ob w→BV w dA dn d∧∀ y∈rdF dA dn,y∉gmF gq x m)
  (hf:f=24) (hP:X.P=Tryz.prog) (hA:s.ob[i]?=some (gsO gq c x B m g true)) (hT:s.ob[j]?=some tbO) (hv:denL s.m vs=[.pointer (some ⟨gq,0,none⟩),.agg #[.int .i64 k,.int .i64 a,.int .i64 b,.slice dA dn dc]]) (hij:j≠i)
  (h:∀ y:DoJ o' g',setO i (gsO gq c x B' y.1.1.1 g' true) s.ob fun ob=>appO ob (osO y.1.1.2.1 y.1.1.2.2.1 y.1.1.2.2.2) fun ob=>K (.t [.v (.slice y.1.1.2.1 o'.length y.1.1.2.2.1),.i .i64 r]) ⟨s.fr,s.m,ob⟩)
  (hen:entChk X.P f=true:=by kernel_rfl):CallVC X f vs s K:=by
 refine callON i (A:=gsO gq c x B m g true) (fun y:DoJ o' g'=>.t [.v (.slice y.1.1.2.1 o'.length y.1.1.2.2.1),.i .i64 r]) (fun y=>gsO gq c x B' y.1.1.1 g' true) (fun y=>osO y.1.1.2.1 y.1.1.2.2.1 y.1.1.2.2.2) (fun w hH hA1=>?_) h hA rfl hen (fun _=>rfl)
 subst hf
 rw [hP,hv]
 obtain ⟨z1,z2⟩:=hz w hH
 have hTb:=hH.obj _ (List.mem_of_getElem? hT)
 have hdis:∀ y∈gmF gq x m,y∉tbO.F:=pair_at (R:=DisR) (fun _ _ h=>h.symm) hH.dis hA hT (Ne.symm hij) (.inl rfl)
 refine (doD (k:=k) (a:=a) (b:=b) (dc:=dc) hA1 hg hi hB z1 z2 hTb (tb_far (A:=gsO gq c x B m g true) hdis) hk).mono ?_
 rintro e w' hq
 unfold DoQ at hq
 rw [he] at hq
 obtain ⟨y,h1,h2,h3,h4,h5,h6⟩:=hq
 refine ⟨⟨⟨y.1,y.2,fun h0=>?_⟩,kr_st h2⟩,h1,h2.more hB2,h3,h4,h5,h6⟩
 obtain ⟨q,hq⟩:=Ek.addr h3.r
 have e:y.1.2.2.2.length=o'.length:=(List.length_map ..).symm.trans (congrArg List.length y.2)
 exact ⟨q,hq (by omega)⟩
end
attribute [local irreducible] Go.Calls doV tickG
end Gw
namespace Gw
open Go.RowKit Ba Mem En Go.Proofs.YtepfmfalebmcnaaGreatDoor.Ty
open Fm (frames)
open Byt (BV isB)
open Tm (cl cl_lo)
open Fl (leaE)
open Qu (askE intE)
open Co (KV newK Hold.ob NrP toNp Nr)
set_option maxRecDepth 100000
attribute [local irreducible] Go.Calls doV tickG
set_option maxHeartbeats 8000000 in
theorem wsilF (c:CfgV) {a:Option Addr} {len cap:Nat} {ss:Nat→StepD} {w:World} (h:StR a len ss w) (hw:∀ i,i < len→StepW (ss i)) (hlen:len≤9223372036854775807) (ht:Lib.TabIs Tryz.prog w "internal/strconv.uint64pow10" .u64 Lib.pow10Tab):Calls Tryz.prog 13 #[(aCfg c),.slice a len cap] w fun e w'=>e=.returned (.bool true)∧Since w w':=by
 obtain ⟨gb,off,hb⟩:=Ek.rd_addr h.r
 refine entH tab_ok (hold_tb h ht) [.a (sCfg c),.v (.slice a len cap)] Tryz.func13 Tryz.ntmps13 rfl rfl ?_
 cases hl:litB ss len with
 | false =>
  repeat' (first | refine gs_ ?_|((conv=>whnf); first | intro b | refine callH (f:=35) (.b false) (fun w1 hH=>(by have:=lightT (cap:=cap) (Hold.ob hH (A:=stO a len ss) 0 rfl) hlen; rw [hl] at this; exact this)) ?_|refine callH (f:=36) (.b true) (fun w1 hH=>ansTop (Hold.ob hH (A:=tbO) 1 rfl)) ?_|refine fin_s ?_))
  all_goals rfl
 | true =>
  obtain ⟨h3,h2⟩:=lit_of hl hw
  by_cases hd:300 < c.de
  ·repeat' (first | refine gs_ ?_|((conv=>whnf); first | intro b | refine bto ?_|refine bfo ?_|refine callH (f:=35) (.b true) (fun w1 hH=>(by have:=lightT (cap:=cap) (Hold.ob hH (A:=stO a len ss) 0 rfl) hlen; rw [hl] at this; exact this)) ?_|refine callH (f:=36) (.b true) (fun w1 hH=>ansTop (Hold.ob hH (A:=tbO) 1 rfl)) ?_|refine fin_s ?_))
   all_goals rfl
  ·repeat' (first | refine gs_ ?_|((conv=>whnf); first | intro bc | refine bto ?_|refine bfo ?_|refine callH (f:=35) (.b true) (fun w1 hH=>(by have:=lightT (cap:=cap) (Hold.ob hH (A:=stO a len ss) 0 rfl) hlen; rw [hl] at this; exact this)) ?_|refine callN (f:=21) (ι:=Nat×Gp×List Nat) (fun y=>.v (.pointer (some ⟨y.1,0,none⟩))) (fun y=>gsO y.1 c y.2.1 0 (gm0 y.2.1 y.2.2) (gs0 c) true) (fun w1 hH=>newS c w1) (fun y=>?_)|refine fin_s ?_))
   conv=>whnf
   obtain ⟨q1,x1,Sk1⟩:=y
   refine lp ⟨tab_ok⟩ (ι:={v:(Nat×Gm)×Gs // v.1.1≤len∧GI c v.1.1 (sumT ss v.1.1) v.2∧SI c v.2.ep v.2.x∧KR v.2.x}) (fun v=>match v with | ⟨((k,m),g),_⟩=>⟨[(1,.v (.slice a len cap)),(2,.p 0 0),(5,.v (.pointer (some ⟨q1,0,none⟩))),(6,.i .i64 (k:Int))],[⟨bc,23,true,0,[],(sCfg c),[],true⟩],[stO a len ss,tbO,gsO q1 c x1 (sumT ss k) m g true]⟩) (fun v=>len - v.1.1.1) ⟨((0,gm0 x1 Sk1),gs0 c),Nat.zero_le _,GI.new c,SI.new c,fun i v hv=>by cases hv⟩ (wk ?_) ?_
   ·repeat' (first | exact trivial | rfl | ((conv=>whnf); refine And.intro ?_ ?_))
   rintro ⟨⟨⟨k,m⟩,g⟩,hk,hg,hs,hr⟩
   have hk:k≤len:=hk
   have hg:GI c k (sumT ss k) g:=hg
   have hs:SI c g.ep g.x:=hs
   have hr:KR g.x:=hr
   by_cases hlt:k < len
   ·have hb:=hb (by omega)
    subst hb
    have hW:=hw k hlt
    have hWl:=hW.l
    have hsm:=sumT_at (ss:=ss) hlt
    have hs1:sumT ss (k+1)=sumT ss k+(ss k).n:=rfl
    have hb64:n64 (ss k).b:=n64_of hW.b
    obtain ⟨G',O',R',he1⟩:∃ G' O' R',doV c g (ss k).k (ss k).a (ss k).b (ss k).d=(G',O',R'):=⟨_,_,_,rfl⟩
    have hg1:GI c (k+1) (sumT ss k+(ss k).d.length) G':=by have:=hg.do_ (by omega) (k:=(ss k).k) (a:=(ss k).a) (d:=(ss k).d) (by omega) hb64; rwa [he1] at this
    have hs2:SI c G'.ep G'.x:=by have:=hs.do_ hg (by omega) (k:=(ss k).k) (a:=(ss k).a) (b:=(ss k).b) (d:=(ss k).d) (by omega); rwa [he1] at this
    rw [hWl] at hg1
    repeat' (first | refine gs_ ?_|((conv=>whnf); first | intro b2 | refine bto ?_|refine bfo ?_|refine wr_i ?_|refine cd (by first | decide | omega) ?_|refine iv_ ?_|refine ui_ ?_|refine opix (g:=gb) (off:=off+k*4) [.i .i64 (ss k).k,.i .i64 (ss k).a,.i .i64 (ss k).b,.v (.slice (ss k).A (ss k).n (ss k).c)] (fun w hH=>Ek.rd_rng (StR.r (Hold.ob hH (A:=stO (some ⟨gb,off,none⟩) len ss) 0 rfl)) hlt) ⟨tab_ok⟩ (by rfl) (by rfl) (by simp only [Go.WideShapes.add_plain]; rfl) ?_|refine doXk 2 1 (ss k).d (sumT ss (k+1)) he1 hg (by omega) (by omega) (by omega) hW.k (fun w hH=>hz_st hH (i:=0) (j:=2) rfl rfl (by decide) hlt) rfl rfl rfl rfl rfl (by decide) (fun u1=>?_)|refine En.back ⟨((k+1,u1.1.1.1),G'),by show k+1≤len; omega,hg1,hs2,u1.2⟩ (wkd ?_) ?_|refine fin_s ?_))
    all_goals first | (show len - (k+1) < len - k; omega)|skip
    all_goals (repeat' (first | exact trivial | rfl | ((conv=>whnf); refine And.intro ?_ ?_)))
   ·obtain rfl:k=len:=by omega
    obtain ⟨n0,hn0⟩:∃ n0,n0=g.x.1.G.now:=⟨_,rfl⟩
    have hcl:=cl_lo c.de
    obtain ⟨D,hD1,hD2⟩:∃ D:Nat,(D:Int)=(if (0:Int) > c.de then 0 else c.de)∧(cl c.de:Int)≤D:=⟨(if (0:Int) > c.de then 0 else c.de).toNat,by split <;> omega,by unfold cl; (repeat' split) <;> omega⟩
    have hD5:D≤300:=by split at hD1 <;> omega
    repeat' (first | refine gs_ ?_|((conv=>whnf); first | intro b | refine bto ?_|refine bfo ?_|refine fin_s ?_))
    refine lp ⟨tab_ok⟩ (ι:={v:(Nat×Gm)×Gs // v.1.1≤D+1∧GI c (k+v.1.1) (sumT ss k) v.2∧SI c v.2.ep v.2.x∧QI c n0 v.1.1 v.2.x}) (fun v=>match v with | ⟨((j,m),g),_⟩=>⟨[(2,.p 0 0),(5,.v (.pointer (some ⟨q1,0,none⟩))),(7,.i .i64 (j:Int))],[⟨bc,23,true,0,[],(sCfg c),[],true⟩],[stO a k ss,tbO,gsO q1 c x1 (sumT ss k) m g true]⟩) (fun v=>D+1 - v.1.1.1) ⟨((0,m),g),Nat.zero_le _,hg,hs,⟨by rw [hn0]; simp,fun i v hv=>⟨hr i v hv,by rw [hn0]; exact (hs.he i v hv).1.2⟩,fun h=>absurd h (by show ¬ (1≤0); decide)⟩⟩ (wk ?_) ?_
    ·repeat' (first | exact trivial | rfl | ((conv=>whnf); refine And.intro ?_ ?_))
    rintro ⟨⟨⟨j,mj⟩,gj⟩,hj,hgj,hsj,hqj⟩
    have hj:j≤D+1:=hj
    have hgj:GI c (k+j) (sumT ss k) gj:=hgj
    have hsj:SI c gj.ep gj.x:=hsj
    have hqj:QI c n0 j gj.x:=hqj
    by_cases hlt2:j < D+1
    ·have he1:=do_1 c gj 0 0 []
     have hg1:GI c (k+(j+1)) (sumT ss k) ⟨(tickG gj.x).1,gj.ep,gj.xs⟩:=by have:=hgj.do_ (by omega) (k:=1) (a:=0) (b:=0) (d:=[]) (by simp; omega) ⟨by decide,by decide⟩; rw [he1] at this; exact this
     have hs2:SI c gj.ep (tickG gj.x).1:=by have:=hsj.do_ hgj (by omega) (k:=1) (a:=0) (b:=0) (d:=[]) (by simp; omega); rw [he1] at this; exact this
     have hn:gj.x.1.G.now < 1000000:=by have h1:gj.x.1.G.now≤((k+j:Nat):Int):=hgj.j.p.t; omega
     have hq2:=hqj.tick hsj hn
     repeat' (first | refine gs_ ?_|((conv=>whnf); first | intro b2 | refine bto ?_|refine bfo ?_|refine wr_i ?_|refine cd (by first | decide | omega) ?_|refine doXk 2 1 [] (sumT ss k) he1 hgj (by omega) (by simp; omega) (by simp) (by decide) (fun w hH=>⟨BV.nil _ _,by intro g hg; cases hg⟩) rfl rfl rfl rfl rfl (by decide) (fun u1=>?_)|refine En.back ⟨((j+1,u1.1.1.1),_),by show j+1≤D+1; omega,hg1,hs2,hq2⟩ (wkd ?_) ?_|refine fin_s ?_))
     all_goals first | (show D+1 - (j+1) < D+1 - j; omega)|skip
     all_goals (repeat' (first | exact trivial | rfl | ((conv=>whnf); refine And.intro ?_ ?_)))
    ·obtain ⟨e1,e2,e3⟩:=hqj.none hsj (by omega)
     have e4:=keys_nil e1
     have hL:=hgj.len
     repeat' (first | refine gs_ ?_|((conv=>whnf); first | intro b | refine bto ?_|refine bfo ?_|refine callN (f:=32) (ι:=NrP w.heap.size gj.x.1.G.cars.length) (fun x=>.v (.slice x.1.2.1 gj.x.1.G.cars.length x.1.2.2)) (fun x=>rwO viewE x.1.1 x.1.2.1 gj.x.1.G.cars.length x.1.2.2 (gj.x.1.G.cars.map viewOf) true) (fun w1 hH=>toNp (viewsS (Hold.ob hH (A:=gsO q1 c x1 (sumT ss k) mj gj true) 2 rfl) hL) hH.upd.size) (fun u=>?_)|refine fin_s ?_))
     conv=>whnf
     obtain ⟨⟨l8,A8,c8⟩,hl8,hA8⟩:=u
     have hA8:0 < gj.x.1.G.cars.length→∃ g,A8=some ⟨g,0,none⟩:=hA8
     refine lp ⟨tab_ok⟩ (ι:={n:Nat // n≤gj.x.1.G.cars.length}) (fun v=>match v with | ⟨n,_⟩=>⟨[(2,.p 0 0),(5,.v (.pointer (some ⟨q1,0,none⟩))),(8,.v (.slice A8 gj.x.1.G.cars.length c8)),(9,.i .i64 (n:Int))],[⟨bc,23,true,0,[],(sCfg c),[],true⟩],[stO a k ss,tbO,gsO q1 c x1 (sumT ss k) mj gj true,rwO viewE l8 A8 gj.x.1.G.cars.length c8 (gj.x.1.G.cars.map viewOf) true]⟩) (fun v=>gj.x.1.G.cars.length - v.1) ⟨0,Nat.zero_le _⟩ (wk ?_) ?_
     ·repeat' (first | exact trivial | rfl | ((conv=>whnf); refine And.intro ?_ ?_))
     rintro ⟨n,hn⟩
     have hn:n≤gj.x.1.G.cars.length:=hn
     by_cases hlt3:n < gj.x.1.G.cars.length
     ·obtain ⟨y,hy⟩:∃ y,gj.x.1.G.cars[n]?=some y:=⟨_,List.getElem?_eq_getElem hlt3⟩
      obtain ⟨gv,hgv⟩:=hA8 (by omega)
      subst hgv
      have hv:(gj.x.1.G.cars.map viewOf)[n]?=some (viewOf y):=by rw [List.getElem?_map,hy]; rfl
      have hne:(viewOf y).mo≠1:=by
       show (if y.br=true then 2 else y.mo)≠1
       split
       ·decide
       ·intro hm
        obtain ⟨l,hl,_⟩:=hgj.j.ci.b n y hy hm
        rw [e2] at hl; cases hl
      repeat' (first | refine gs_ ?_|((conv=>whnf); first | intro b | refine bto ?_|refine bfo ?_|refine wr_i ?_|refine br_f (beq_eq_false_iff_ne.2 hne) ?_|refine iv_ ?_|refine ui_ ?_|refine fv_ ?_|refine opxc (g:=gv) (off:=0+n*5+2) (.i .i64 (viewOf y).mo) (fun w hH=>rng_at (Ek.rng (Hold.ob hH (A:=rwO viewE l8 (some ⟨gv,0,none⟩) gj.x.1.G.cars.length c8 (gj.x.1.G.cars.map viewOf) true) 3 rfl) hv) rfl) ⟨tab_ok⟩ (by rfl) (by rfl) (by simp only [Go.WideShapes.add_plain]; rfl) ?_|refine En.back ⟨n+1,by show n+1≤_; omega⟩ (wkd ?_) ?_|refine fin_s ?_))
      all_goals first | (show gj.x.1.G.cars.length - (n+1) < gj.x.1.G.cars.length - n; omega)|skip
      all_goals (repeat' (first | exact trivial | rfl | ((conv=>whnf); refine And.intro ?_ ?_)))
     ·repeat' (first | refine gs_ ?_|((conv=>whnf); first | intro b | refine bto ?_|refine bfo ?_|refine wr_i ?_|refine br_t (by rfl) ?_|refine callH (f:=36) (.b true) (fun w1 hH=>ansTop (Hold.ob hH (A:=tbO) 1 rfl)) ?_|refine callH (f:=27) (.v (.pointer (some ⟨x1.q,0,none⟩))) (fun w1 hH=>coreS (Hold.ob hH (A:=gsO q1 c x1 (sumT ss k) mj gj true) 2 rfl)) ?_|refine callN (f:=31) (ι:=NrP w.heap.size 0) (fun x=>.v (.slice x.1.2.1 0 x.1.2.2)) (fun x=>rwO intE x.1.1 x.1.2.1 0 x.1.2.2 [] true) (fun w1 hH=>toNp (by have:=sessionsS (Hold.ob hH (A:=gsO q1 c x1 (sumT ss k) mj gj true) 2 rfl) (by omega); rw [e4] at this; exact this) hH.upd.size) (fun u=>?_)|refine callN (f:=28) (ι:=NrP w.heap.size 0) (fun x=>.v (.slice x.1.2.1 0 x.1.2.2)) (fun x=>rwO leaE x.1.1 x.1.2.1 0 x.1.2.2 [] true) (fun w1 hH=>toNp (by have:=leasesS (Hold.ob hH (A:=gsO q1 c x1 (sumT ss k) mj gj true) 2 rfl) (by rw [e2]; decide); rw [e2] at this; exact this) hH.upd.size) (fun u=>?_)|refine callN (f:=30) (ι:=NrP w.heap.size 0) (fun x=>.v (.slice x.1.2.1 0 x.1.2.2)) (fun x=>rwO askE x.1.1 x.1.2.1 0 x.1.2.2 [] true) (fun w1 hH=>toNp (by have:=queueS (Hold.ob hH (A:=gsO q1 c x1 (sumT ss k) mj gj true) 2 rfl) (by rw [e3]; decide); rw [e3] at this; exact this) hH.upd.size) (fun u=>?_)|refine fin_s ?_))
      all_goals rfl
theorem wsilL {H:Type} {enc:TypeId×Value→H} {x:DataW H×List MemPlace} (c:CfgV) {a:Option Addr} {len cap:Nat} {w:World} (ht:Lib.TabIs Tryz.prog w "internal/strconv.uint64pow10" .u64 Lib.pow10Tab) (hx:∃ m,DataW.trod enc Tryz.prog w 0 (fun _=>true) true m 24 (Value.cells (.slice a len cap)).toList=some x) (hU:∀ u∈x.1.weights Tryz.prog 24,u≤reachBytes):Calls Tryz.prog 13 #[(aCfg c),.slice a len cap] w fun e w'=>e=.returned (.bool true)∧Since w w':=by
 obtain ⟨ss,h1,h2,h3⟩:=steps_in hx hU
 exact wsilF c h1 h2 h3 ht
end Gw
end Go.Proofs.YtepfmfalebmcnaaGreatDoor
