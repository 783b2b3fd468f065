/-
  Wanted: WholeOnce 0.
  No condition.
-/
import Derived.Test.YtepfmfalebmcnaaGreatDoorQH9
import Derived.Test.YtepfmfalebmcnaaGreatDoorQH10
import Derived.Test.YtepfmfalebmcnaaGreatDoorQH15
import Derived.Test.YtepfmfalebmcnaaGreatDoorQH16
import Derived.Test.YtepfmfalebmcnaaGreatDoorQH14
import Derived.Test.YtepfmfalebmcnaaGreatDoorQH17
set_option linter.all false
namespace Go.Proofs.YtepfmfalebmcnaaGreatDoor
namespace En
open Go.RowKit Ba Mem
end En
namespace Co
open Go.RowKit Ba Mem En Go.Proofs.YtepfmfalebmcnaaGreatDoor.Ty Mo Go.Proofs.YtepfmfalebmcnaaGreatDoor.St
open Gr (GrV GO CarsAt WaitsAt newG okT okW waitsO tickP)
open Qu (QO askE qO)
open Le (TO tO)
open Fl (leaE)
open Ri (MsgV msgC)
open Et (carsO)
set_option maxRecDepth 100000
attribute [local irreducible] Go.Calls
section
variable {lo q:Nat} {p:Pt} {K:KV} {S T:List Nat} {w w':World}
end
section
variable {P:Program} {F:FuncId} {args:Array Value} {lo q:Nat} {p:Pt} {K K':KV} {S:List Nat} {w:World} {V:Value}
end
section
variable {lo q:Nat} {p:Pt} {K:KV} {S:List Nat} {w:World}
theorem leasesK (h:KW lo q p K S w) (hl:K.L.length≤10000):Calls Tryz.prog 28 #[.pointer (some ⟨q,0,none⟩)] w fun e w'=>∃ A' c',e=.returned (.slice A' K.L.length c')∧leaE.At w.heap.size A' K.L.length c' K.L w'∧Since w w':=by
 obtain ⟨S0,hk,hb⟩:=h.rd
 refine entH tab_ok (hold_kr hk hb) [.p 0 0] Tryz.func28 Tryz.ntmps28 rfl rfl ?_
 repeat' (first | refine gs_ ?_|((conv=>whnf); first | intro b | refine callN (f:=54) (ι:=NrA w.heap.size) (fun x=>.v (.slice x.1.2.1 K.L.length x.1.2.2)) (fun x=>rwO leaE x.1.1 x.1.2.1 K.L.length x.1.2.2 K.L true) (fun w1 hH=>toN ((Hold.ob hH (A:=bdO lo p K S0 false) 0 rfl).leases hl) hH.upd.size) (fun x=>?_)|refine fin fun w' hH=>⟨_,_,rfl,own_base (Hold.ob hH (A:=rwO leaE x.1.1 x.1.2.1 K.L.length x.1.2.2 K.L true) 1 rfl) x.2,hH.upd.since⟩|refine fin_s ?_))
end
end Co
namespace En
open Go.RowKit Ba Mem
theorem rng_sub {w:World} {g off i n:Nat} {cs l:List Value} (h:w.rangeAt g off cs) (hl:(cs.drop i).take n=l):w.rangeAt g (off+i) l:=fun j v hj=>by
 subst hl
 have hjn:j < n:=by
  have:=(List.getElem?_eq_some_iff.1 hj).1
  rw [List.length_take] at this; omega
 rw [List.getElem?_take,if_pos hjn,List.getElem?_drop] at hj
 have:=h (i+j) v hj
 rw [show off+i+j=off+(i+j) by omega]; exact this
end En
namespace Co
open Go.RowKit Ba Mem En Go.Proofs.YtepfmfalebmcnaaGreatDoor.Ty Mo Go.Proofs.YtepfmfalebmcnaaGreatDoor.St
open Gr (GrV GO CarsAt WaitsAt newG okT okW waitsO tickP)
open Qu (QO askE qO)
open Le (TO tO)
open Fl (leaE)
open Ri (MsgV msgC)
set_option maxRecDepth 100000
attribute [local irreducible] Go.Calls
attribute [local irreducible] newK ansK tickK tickE ansM tickP
end Co
namespace Gw
open Go.RowKit Ba Mem En Go.Proofs.YtepfmfalebmcnaaGreatDoor.Ty Mp
open Ri (MsgV)
open Co (KV Pt KW Nr NrA toN Hold.ob)
open Gr (doR)
open Lc (hallW pressW loadW2 curtW faultW)
open Et (carsO)
set_option maxRecDepth 100000
attribute [local irreducible] Go.Calls
section
variable {lo gq M:Nat} {c:CfgV} {x:Gp} {ep sk sa sb i:Int} {K:KV} {Sk:List Nat} {D:Fam} {w:World} {dA:Option Addr} {dn dc:Nat}
theorem coreT (hb:Blk w gq 96 (gwA c x ep)):Calls Tryz.prog 27 #[.pointer (some ⟨gq,0,none⟩)] w fun e w'=>e=.returned (.pointer (some ⟨x.q,0,none⟩))∧Since w w':=by
 refine entH tab_ok (hold_q (S:=[]) (gwS c x ep) hb) [.p 0 0] Tryz.func27 Tryz.ntmps27 rfl rfl ?_
 repeat' (first | refine gs_ ?_|((conv=>whnf); first | intro b | refine fin_s ?_))
 all_goals rfl
end
end Gw
namespace Gw
open Go.RowKit Ba Mem En Go.Proofs.YtepfmfalebmcnaaGreatDoor.Ty
open Byt (BV isB)
open Co (Hold.ob)
set_option maxRecDepth 100000
attribute [local irreducible] Go.Calls
theorem lightT {a:Option Addr} {len cap:Nat} {ss:Nat→StepD} {w:World} (h:StR a len ss w) (hlen:len≤9223372036854775807):Calls Tryz.prog 35 #[.slice a len cap] w fun e w'=>e=.returned (.bool (litB ss len))∧Since w w':=by
 obtain ⟨gb,off,hb⟩:=Ek.rd_addr h.r
 refine entH tab_ok (hold_st h) [.v (.slice a len cap)] Tryz.func35 Tryz.ntmps35 rfl rfl ?_
 repeat' (first | refine gs_ ?_|((conv=>whnf); first | intro b | refine fin_s ?_))
 conv=>whnf
 refine lp ⟨tab_ok⟩ (ι:={k:Nat // k≤len}) (fun x=>match x with | ⟨k,_⟩=>⟨[(0,.v (.slice a len cap)),(3,.i .i64 (sumW ss k)),(4,.i .i64 (k:Int))],[],[stO a len ss]⟩) (fun k=>len - k.1) ⟨0,Nat.zero_le _⟩ (wk ?_) ?_
 ·repeat' (first | exact trivial | rfl | ((conv=>whnf); refine And.intro ?_ ?_))
 rintro ⟨k,hk⟩
 by_cases hlt:k < len
 ·have hb:=hb (by omega)
  subst hb
  repeat' (first | refine gs_ ?_|((conv=>whnf); first | intro b | refine bto ?_|refine bfo ?_|refine wr_i ?_|refine wr_lit ?_|refine opiv ⟨tab_ok⟩ (by rfl) (by rfl) (by rfl) (by rfl) (by rfl) (by rfl) ⟨by omega,by omega⟩ ?_|refine puiv ⟨tab_ok⟩ (by rfl) (by rfl) (by rfl) (by rfl) (by rfl) (by rfl) ⟨by omega,by omega⟩ ?_|refine opfv ⟨tab_ok⟩ (by rfl) (by rfl) (by rfl) (by rfl) ?_|refine pufv ⟨tab_ok⟩ (by rfl) (by rfl) (by rfl) (by rfl) ?_|refine opxc (g:=gb) (off:=off+k*4+3) (.v (.slice (ss k).A (ss k).n (ss k).c)) (fun w hH=>rng_at (Ek.rd_rng (StR.r (Hold.ob hH (A:=stO (some ⟨gb,off,none⟩) len ss) 0 rfl)) hlt) rfl) ⟨tab_ok⟩ (by rfl) (by rfl) (by simp only [Go.WideShapes.add_plain]; rfl) ?_|refine En.back ⟨k+1,by omega⟩ (wk ?_) ?_|refine fin_s ?_))
  all_goals first | (show len - (k+1) < len - k; omega)|skip
  all_goals (repeat' (first | exact trivial | rfl | ((conv=>whnf); refine And.intro ?_ ?_)))
 ·obtain rfl:k=len:=by omega
  repeat' (first | refine gs_ ?_|((conv=>whnf); first | intro b | refine bto ?_|refine bfo ?_|refine b3_ (fun h=>?_) (fun h=>?_)|refine fin_s ?_))
  all_goals (simp [den,litB, *])
end Gw
namespace Gw
open Go.RowKit Ba Mem En Go.Proofs.YtepfmfalebmcnaaGreatDoor.Ty
open Fm (frames)
open Byt (BV isB)
open Co (KV newK Hold.ob)
set_option maxRecDepth 100000
attribute [local irreducible] Go.Calls
section
variable {X:Cx} {s:St}
theorem doX {K:SV→St→Prop} {f:FuncId} {vs:List SV} (i j:Nat) {gq B:Nat} {c:CfgV} {x:Gp} {m:Gm} {g:Gs} {k a b:Int} {dA:Option Addr} {dn dc:Nat} (d:List Int) (B':Nat) {i0:Nat} {g':Gs} {o':List (Int×List Int)} {r:Int} (he:doV c g k a b d=(g',o',r)) (hg:GI c i0 B g) (hi:i0 < 10000) (hB:B+d.length≤60000) (hB2:B+d.length≤B')
  (hk:(Lit.int .i64 k).wf=true) (hz:∀ w,Hold X s.m s.ob w→BV w dA dn d∧∀ y∈rdF dA dn,y∉gmF gq x m)
  (hf:f=24) (hP:X.P=Tryz.prog) (hA:s.ob[i]?=some (gsO gq c x B m g true)) (hT:s.ob[j]?=some tbO) (hv:denL s.m vs=[.pointer (some ⟨gq,0,none⟩),.agg #[.int .i64 k,.int .i64 a,.int .i64 b,.slice dA dn dc]]) (hij:j≠i)
  (h:∀ y:DoI o',setO i (gsO gq c x B' y.1.1 g' true) s.ob fun ob=>appO ob (osO y.1.2.1 y.1.2.2.1 y.1.2.2.2) fun ob=>K (.t [.v (.slice y.1.2.1 o'.length y.1.2.2.1),.i .i64 r]) ⟨s.fr,s.m,ob⟩)
  (hen:entChk X.P f=true:=by kernel_rfl):CallVC X f vs s K:=by
 refine callON i (A:=gsO gq c x B m g true) (fun y:DoI o'=>.t [.v (.slice y.1.2.1 o'.length y.1.2.2.1),.i .i64 r]) (fun y=>gsO gq c x B' y.1.1 g' true) (fun y=>osO y.1.2.1 y.1.2.2.1 y.1.2.2.2) (fun w hH hA1=>?_) h hA rfl hen (fun _=>rfl)
 subst hf
 rw [hP,hv]
 obtain ⟨z1,z2⟩:=hz w hH
 have hTb:=hH.obj _ (List.mem_of_getElem? hT)
 have hdis:∀ y∈gmF gq x m,y∉tbO.F:=pair_at (R:=DisR) (fun _ _ h=>h.symm) hH.dis hA hT (Ne.symm hij) (.inl rfl)
 refine (doD (k:=k) (a:=a) (b:=b) (dc:=dc) hA1 hg hi hB z1 z2 hTb (tb_far (A:=gsO gq c x B m g true) hdis) hk).mono ?_
 rintro e w' hq
 unfold DoQ at hq
 rw [he] at hq
 obtain ⟨y,h1,h2,h3,h4,h5,h6⟩:=hq
 refine ⟨⟨y.1,y.2,fun h0=>?_⟩,h1,h2.more hB2,h3,h4,h5,h6⟩
 obtain ⟨q,hq⟩:=Ek.addr h3.r
 have e:y.1.2.2.2.length=o'.length:=(List.length_map ..).symm.trans (congrArg List.length y.2)
 exact ⟨q,hq (by omega)⟩
end
theorem do_2 (c:CfgV) (g:Gs) (a b:Int) (d:List Int):doV c g 2 a b d=((doV c g 2 a b d).1,[],0):=by unfold doV; rw [if_neg (by decide),if_pos rfl]
end Gw
namespace Gw
open Go.RowKit Ba Mem En Go.Proofs.YtepfmfalebmcnaaGreatDoor.Ty
open Fm (frames)
open Byt (BV isB)
open Co (KV newK Hold.ob)
set_option maxRecDepth 100000
attribute [local irreducible] Go.Calls
section
variable {X:Cx} {m:List Row} {ob:List Asr} {w:World}
end
section
variable {gq B:Nat} {c:CfgV} {x:Gp} {m:Gm} {g:Gs} {w:World}
theorem epochS {i:Int} (h:GSt gq c x B m g w) (hi:(Lit.int .i64 i).wf=true):Calls Tryz.prog 23 #[.pointer (some ⟨gq,0,none⟩),.int .i64 i] w fun e w'=>e=.returned (.int .i64 (epochV g.x.2 i))∧Since w w':=by
 have:=epochT h.t.b h.t.k h.t.g1 hi
 rw [h.v] at this; exact this
theorem coreS (h:GSt gq c x B m g w):Calls Tryz.prog 27 #[.pointer (some ⟨gq,0,none⟩)] w fun e w'=>e=.returned (.pointer (some ⟨x.q,0,none⟩))∧Since w w':=coreT h.t.b
theorem viewsS (h:GSt gq c x B m g w) (h1:1≤g.x.1.G.cars.length∧g.x.1.G.cars.length≤8):Calls Tryz.prog 32 #[.pointer (some ⟨gq,0,none⟩)] w fun e w'=>∃ A' c',e=.returned (.slice A' g.x.1.G.cars.length c')∧viewE.At w.heap.size A' g.x.1.G.cars.length c' (g.x.1.G.cars.map viewOf) w'∧Since w w':=viewsT h.t.b h.t.k h.t.g1 (by omega) (by omega)
theorem leasesS (h:GSt gq c x B m g w) (hl:g.x.1.L.length≤10000):Calls Tryz.prog 28 #[.pointer (some ⟨x.q,0,none⟩)] w fun e w'=>∃ A' c',e=.returned (.slice A' g.x.1.L.length c')∧Fl.leaE.At w.heap.size A' g.x.1.L.length c' g.x.1.L w'∧Since w w':=Co.leasesK h.t.k.k hl
end
end Gw
namespace Gw
open Go.RowKit Ba Mem En Go.Proofs.YtepfmfalebmcnaaGreatDoor.Ty Mg
open Fm (frm frames)
open Byt (BV isB)
open Co (KV newK Hold.ob)
set_option maxRecDepth 100000
def cfgT:CfgV:=⟨1,3,0,2,0,0,0,0,0,0,0,0,0,0,0,0,9,2⟩
def helT1:List Int:=frm (bytesOf (helP 1 0))
def wanT:PktV:=⟨1,1,0,0,true,2,1,0,0⟩
def tp1:Gs:=(doV cfgT (gs0 cfgT) 2 0 0 helT1).1
def tp2:Gs:=(doV cfgT tp1 1 0 0 []).1
theorem helT1_len:helT1.length=27:=by kernel_rfl
theorem helT1_may:mayB (helP 1 0)=true:=by kernel_rfl
theorem tp2_out:(doV cfgT tp1 1 0 0 []).2=([(1,frm (bytesOf wanT))],0):=by kernel_rfl
theorem tp2_ep:epochV tp2.x.2 1=1:=by kernel_rfl
theorem tp1_e:doV cfgT (gs0 cfgT) 2 0 0 helT1=(tp1,[],0):=do_2 _ _ _ _ _
theorem tp2_e:doV cfgT tp1 1 0 0 []=(tp2,[(1,frm (bytesOf wanT))],0):=by rw [← tp2_out]; rfl
theorem hold_tt {nt:Nat} {w:World} (ht:Lib.TabIs Tryz.prog w "internal/strconv.uint64pow10" .u64 Lib.pow10Tab):Hold ⟨Tryz.prog,tab,[],w,nt,[]⟩ [] [tbO] w :=
 Hold.addObj (Hold.nil _ tab [] _ w) tbO ht (by intro k; cases k) (by intro r hr; cases hr) (by intro A hA; cases hA)
attribute [local irreducible] Go.Calls doV tp1 tp2
set_option maxHeartbeats 4000000 in
theorem ansTop {w:World} (ht:Lib.TabIs Tryz.prog w "internal/strconv.uint64pow10" .u64 Lib.pow10Tab):Calls Tryz.prog 36 #[] w fun e w'=>e=.returned (.bool true)∧Since w w':=by
 have hbo:=bytes_b (helP 1 0) rfl
 have hl:=helT1_len
 have hg0:GI cfgT 0 0 (gs0 cfgT):=GI.new cfgT
 have hg1:GI cfgT 1 (0+27) tp1:=by have:=hg0.do_ (by decide) (k:=2) (a:=0) (b:=0) (d:=helT1) (by omega) ⟨by decide,by decide⟩; rw [hl,tp1_e] at this; exact this
 refine entH tab_ok (hold_tt ht) [] Tryz.func36 Tryz.ntmps36 rfl rfl ?_
 repeat' (first | refine gs_ ?_|((conv=>whnf); first | intro b | refine callN (f:=21) (ι:=Nat×Gp×List Nat) (fun y=>.v (.pointer (some ⟨y.1,0,none⟩))) (fun y=>gsO y.1 cfgT y.2.1 0 (gm0 y.2.1 y.2.2) (gs0 cfgT) true) (fun w1 hH=>newS cfgT w1) (fun y=>?_)|refine callN (f:=20) (ι:=Option Addr×Nat) (fun x=>.v (.slice x.1 21 x.2)) (fun x=>rwO byteE w.heap.size x.1 21 x.2 (bytesOf (helP 1 0)) true) (fun w1 hH=>(bytesH (helP 1 0) helT1_may rfl w1).mono (by rintro e w' ⟨x,rfl,h1,h2⟩; rw [← hbo] at h1; exact ⟨x,rfl,Ek.base h1 hH.upd.size,h2,Ek.lows h1⟩)) (fun x=>?_)|refine callN (f:=19) (ι:=Option Addr×Nat) (fun z=>.v (.slice z.1 27 z.2)) (fun z=>rwO byteE w.heap.size z.1 27 z.2 helT1 true) (fun w1 hH=>(frmE x.1 x.2 (bytesOf (helP 1 0)) 21 27 w1 (Hold.ob hH (A:=rwO byteE w.heap.size x.1 21 x.2 (bytesOf (helP 1 0)) true) 2 rfl) (bytes_isB _) (by omega) helT1_len).mono (by rintro e w' ⟨z,rfl,h1,h2⟩; exact ⟨z,rfl,Ek.base h1 hH.upd.size,h2,Ek.lows h1⟩)) (fun z=>?_)|refine doX 1 0 helT1 (0+27) tp1_e hg0 (by decide) (by omega) (by omega) (by decide) (fun w1 hH=>⟨Byt.BV.of_own (byte_own.1 (Hold.ob hH (A:=rwO byteE w.heap.size z.1 27 z.2 helT1 true) 3 rfl)) (Fm.frm_isB (bytes_isB _)),fun g hg hm=>(pair_at (R:=DisR) (fun _ _ h=>h.symm) hH.dis (i:=1) (j:=3) rfl rfl (by decide) (.inl rfl)) g hm (rdF_blk g hg)⟩) rfl rfl rfl rfl rfl (by decide) (fun u1=>?_)|refine doX 1 0 [] (0+27) tp2_e hg1 (by decide) (by decide) (by decide) (by decide) (fun w1 hH=>⟨BV.nil _ _,by intro g hg; cases hg⟩) rfl rfl rfl rfl rfl (by decide) (fun u2=>?_)|refine fin_s ?_))
 conv=>whnf
 obtain ⟨⟨m2,A2,c2,os2⟩,hov,hA2⟩:=u2
 obtain ⟨g2,hg2⟩:=hA2 (by decide)
 have hg2:A2=some ⟨g2,0,none⟩:=hg2
 subst hg2
 have hov:outsV os2=[(1,frm (bytesOf wanT))]:=hov
 obtain ⟨A3,c3,rfl⟩:=outs_one hov
 repeat' (first | refine gs_ ?_|((conv=>whnf); first | intro b | refine br_t (by rfl) ?_|refine br_t (beq_self_eq_true _) ?_|refine opiv ⟨tab_ok⟩ (by rfl) (by rfl) (by rfl) (by rfl) (by rfl) (by rfl) ⟨by decide,by decide⟩ ?_|refine opfv ⟨tab_ok⟩ (by rfl) (by rfl) (by rfl) (by rfl) ?_|refine opxc (g:=g2) (off:=0+0*2+0) (.i .i64 1) (fun w1 hH=>rng_at (v:=.int .i64 1) (Ek.rng (x:=(⟨1,A3,c3,frm (bytesOf wanT)⟩:OutD)) (k:=0) (OsAt.r (Hold.ob hH (A:=osO (some ⟨g2,0,none⟩) c2 [⟨1,A3,c3,frm (bytesOf wanT)⟩]) 5 rfl)) rfl) rfl) ⟨tab_ok⟩ (by rfl) (by rfl) (by simp only [Go.WideShapes.add_plain]; rfl) ?_|refine callH (f:=23) (.i .i64 1) (fun w1 hH=>(by have:=epochS (i:=1) (Hold.ob hH (A:=gsO y.1 cfgT y.2.1 (0+27) m2 tp2 true) 1 rfl) (wf_small (by decide)); rw [tp2_ep] at this; exact this)) ?_|refine fin_s ?_))
 all_goals rfl
end Gw
namespace Lc
open Go.RowKit Ba Mem En Go.Proofs.YtepfmfalebmcnaaGreatDoor.Ty Mo Go.Proofs.YtepfmfalebmcnaaGreatDoor.St Co
open Ri (trV sp rn)
open Qu (btw)
set_option maxRecDepth 100000
attribute [local irreducible] Go.Calls
theorem nearestT (n lo hi:Int) (w:World):Calls Tryz.prog 60 #[.int .i64 n,.int .i64 lo,.int .i64 hi] w fun e w'=>e=.returned (.int .i64 (btw n lo hi))∧Since w w':=by
 refine ent tab_ok [.i .i64 n,.i .i64 lo,.i .i64 hi] Tryz.func60 Tryz.ntmps60 rfl rfl ?_
 repeat' (first | refine gs_ ?_|((conv=>whnf); first | refine b3_ (fun h=>?_) (fun h=>?_)|refine fin_s ?_))
 all_goals (refine congrArg (Value.int .i64) ?_; unfold btw; (repeat' split) <;> omega)
theorem quotaT (c:CfgV) (w:World):Calls Tryz.prog 38 #[(aCfg c)] w fun e w'=>e=.returned (.int .i64 (btw c.qo 1 8))∧Since w w':=by
 refine ent tab_ok [.a (sCfg c)] Tryz.func38 Tryz.ntmps38 rfl rfl ?_
 repeat' (first | refine gs_ ?_|((conv=>whnf); first | intro b | refine callS (f:=60) (.i .i64 (btw c.qo 1 8)) (nearestT c.qo 1 8) ?_|refine fin_s ?_))
 all_goals rfl
end Lc
namespace Gw
open Go.RowKit Ba Mem En Go.Proofs.YtepfmfalebmcnaaGreatDoor.Ty
open Fm (frames)
open Byt (BV isB)
open Fl (leaE)
open Qu (askE intE)
open Ri (opB aimF)
open Co (KV newK Hold.ob NrP toNp Nr)
open Lc (quotaT)
open Qu (btw)
set_option maxRecDepth 100000
section
open Fl (cn_take cn_le)
attribute [local irreducible] Go.Calls
theorem one_row {α:Type} {E:Ek α} {la ca n nt:Nat} {A:Option Addr} {xs:List α} {w:World} (ha:E.At la A n ca xs w):Hold ⟨Tryz.prog,tab,[],w,nt,[]⟩ [] [rwO E la A n ca xs false] w :=
 Hold.addObj (Hold.nil _ tab [] _ w) (rwO E la A n ca xs false) ha (by intro k; cases k) (by intro r hr; cases hr) (by intro A hA; cases hA)
set_option maxHeartbeats 4000000 in
theorem countRT {la ca:Nat} {A:Option Addr} {ls:List LeaseV} (f:Int) {w:World} (hl:ls.length≤10000) (ha:leaE.At la A ls.length ca ls w):Calls Tryz.prog 37 #[.slice A ls.length ca,.int .i64 f] w fun e w'=>e=.returned (.int .i64 (Fl.cn ls f:Nat))∧Since w w':=by
 obtain ⟨g,hg⟩:=Ek.addr ha
 refine entH tab_ok (one_row ha) [.v (.slice A ls.length ca),.i .i64 f] Tryz.func37 Tryz.ntmps37 rfl rfl ?_
 repeat' (first | refine gs_ ?_|((conv=>whnf); first | intro b | refine fin_s ?_))
 conv=>whnf
 refine lp ⟨tab_ok⟩ (ι:={x:Nat×Nat // x.1≤ls.length∧Fl.cn (ls.take x.1) f=x.2}) (fun x=>match x with | ⟨(k,m),_⟩=>⟨[(0,.v (.slice A ls.length ca)),(1,.i .i64 f),(5,.i .i64 (m:Int)),(6,.i .i64 (k:Int))],[],[rwO leaE la A ls.length ca ls false]⟩) (fun x=>ls.length - x.1.1) ⟨(0,0),Nat.zero_le _,rfl⟩ (wk ?_) ?_
 ·repeat' (first | exact trivial | rfl | ((conv=>whnf); refine And.intro ?_ ?_))
 rintro ⟨⟨k,m⟩,hkl,hm⟩
 have hkl:k≤ls.length:=hkl
 have hm:Fl.cn (ls.take k) f=m:=hm
 by_cases hlt:k < ls.length
 ·obtain ⟨l,hl⟩:∃ l,ls[k]?=some l:=⟨_,List.getElem?_eq_getElem (by omega)⟩
  have hg:=hg (by omega)
  subst hg
  have hcl:=cn_le (ls.take k) f
  rw [List.length_take,hm] at hcl
  have hct:=cn_take (f:=f) hl
  by_cases hf:l.fl=f
  ·have e:Fl.cn (ls.take (k+1)) f=m+1:=by rw [hct,if_pos hf,hm]
   repeat' (first | refine gs_ ?_|((conv=>whnf); first | intro b | refine bto ?_|refine bfo ?_|refine wr_i ?_|refine opiv ⟨tab_ok⟩ (by rfl) (by rfl) (by rfl) (by rfl) (by rfl) (by rfl) ⟨by omega,by omega⟩ ?_|refine opfv ⟨tab_ok⟩ (by rfl) (by rfl) (by rfl) (by rfl) ?_|refine opxc (g:=g) (off:=0+k*10+1) (.i .i64 l.fl) (fun w hH=>rng_sub (n:=1) (Ek.rng (Hold.ob hH (A:=rwO leaE la (some ⟨g,0,none⟩) ls.length ca ls false) 0 rfl) hl) rfl) ⟨tab_ok⟩ (by rfl) (by rfl) (by simp only [Go.WideShapes.add_plain]; rfl) ?_|refine En.back ⟨(k+1,m+1),by show k+1≤_; omega,e⟩ (wkd ?_) ?_|refine fin_s ?_))
   all_goals first | (show ls.length - (k+1) < ls.length - k; omega)|skip
   all_goals (repeat' (first | exact trivial | rfl | ((conv=>whnf); refine And.intro ?_ ?_)))
  ·have e:Fl.cn (ls.take (k+1)) f=m:=by rw [hct,if_neg hf,hm]; rfl
   repeat' (first | refine gs_ ?_|((conv=>whnf); first | intro b | refine bto ?_|refine bfo ?_|refine wr_i ?_|refine opiv ⟨tab_ok⟩ (by rfl) (by rfl) (by rfl) (by rfl) (by rfl) (by rfl) ⟨by omega,by omega⟩ ?_|refine opfv ⟨tab_ok⟩ (by rfl) (by rfl) (by rfl) (by rfl) ?_|refine opxc (g:=g) (off:=0+k*10+1) (.i .i64 l.fl) (fun w hH=>rng_sub (n:=1) (Ek.rng (Hold.ob hH (A:=rwO leaE la (some ⟨g,0,none⟩) ls.length ca ls false) 0 rfl) hl) rfl) ⟨tab_ok⟩ (by rfl) (by rfl) (by simp only [Go.WideShapes.add_plain]; rfl) ?_|refine En.back ⟨(k+1,m),by show k+1≤_; omega,e⟩ (wkd ?_) ?_|refine fin_s ?_))
   all_goals first | (show ls.length - (k+1) < ls.length - k; omega)|skip
   all_goals (repeat' (first | exact trivial | rfl | ((conv=>whnf); refine And.intro ?_ ?_)))
 ·rw [List.take_of_length_le (by omega)] at hm
  subst hm
  repeat' (first | refine gs_ ?_|((conv=>whnf); first | intro b | refine bto ?_|refine bfo ?_|refine fin_s ?_))
  all_goals rfl
end
def moB (L:List CarV) (n:Nat) (m:Int):Bool:=(L.take n).any fun x=>(viewOf x).mo == m
theorem moB_succ {L:List CarV} {n:Nat} {m:Int} {x:CarV} (h:L[n]?=some x):moB L (n+1) m=(moB L n m || ((viewOf x).mo == m)):=by
 unfold moB
 rw [List.take_succ,h]
 simp
theorem le_ne {c:CfgV} {i B:Nat} {g:Gs} (h:GI c i B g) {j k:Nat} {x y:LeaseV} (hx:g.x.1.L[j]?=some x) (hy:g.x.1.L[k]?=some y) (hjk:j < k):x.ca≠y.ca∧x.se≠y.se:=by
 obtain ⟨h1,rfl⟩:=List.getElem?_eq_some_iff.1 hx
 obtain ⟨h2,rfl⟩:=List.getElem?_eq_some_iff.1 hy
 have:=List.pairwise_iff_getElem.1 h.j.p.u.l j k (by simpa using h1) (by simpa using h2) hjk
 simp only [List.getElem_map] at this
 exact ⟨this.2,this.1⟩
attribute [local irreducible] Go.Calls doV tickG
set_option maxHeartbeats 8000000 in
theorem wonceF (c:CfgV) {a:Option Addr} {len cap:Nat} {ss:Nat→StepD} {w:World} (h:StR a len ss w) (hw:∀ i,i < len→StepW (ss i)) (hlen:len≤9223372036854775807) (ht:Lib.TabIs Tryz.prog w "internal/strconv.uint64pow10" .u64 Lib.pow10Tab):Calls Tryz.prog 9 #[(aCfg c),.slice a len cap] w fun e w'=>e=.returned (.bool true)∧Since w w':=by
 obtain ⟨gb,off,hb⟩:=Ek.rd_addr h.r
 refine entH tab_ok (hold_tb h ht) [.a (sCfg c),.v (.slice a len cap)] Tryz.func9 Tryz.ntmps9 rfl rfl ?_
 cases hl:litB ss len with
 | false =>
  repeat' (first | refine gs_ ?_|((conv=>whnf); first | intro b | refine callH (f:=35) (.b false) (fun w1 hH=>(by have:=lightT (cap:=cap) (Hold.ob hH (A:=stO a len ss) 0 rfl) hlen; rw [hl] at this; exact this)) ?_|refine callH (f:=36) (.b true) (fun w1 hH=>ansTop (Hold.ob hH (A:=tbO) 1 rfl)) ?_|refine fin_s ?_))
  all_goals rfl
 | true =>
  obtain ⟨h3,h2⟩:=lit_of hl hw
  repeat' (first | refine gs_ ?_|((conv=>whnf); first | intro bc | refine bto ?_|refine bfo ?_|refine callH (f:=35) (.b true) (fun w1 hH=>(by have:=lightT (cap:=cap) (Hold.ob hH (A:=stO a len ss) 0 rfl) hlen; rw [hl] at this; exact this)) ?_|refine callN (f:=21) (ι:=Nat×Gp×List Nat) (fun y=>.v (.pointer (some ⟨y.1,0,none⟩))) (fun y=>gsO y.1 c y.2.1 0 (gm0 y.2.1 y.2.2) (gs0 c) true) (fun w1 hH=>newS c w1) (fun y=>?_)|refine fin_s ?_))
  conv=>whnf
  obtain ⟨q1,x1,Sk1⟩:=y
  refine lp ⟨tab_ok⟩ (ι:={v:(Nat×Gm)×Gs // v.1.1≤len∧GI c v.1.1 (sumT ss v.1.1) v.2}) (fun v=>match v with | ⟨((k,m),g),_⟩=>⟨[(1,.v (.slice a len cap)),(2,.p 0 0),(5,.v (.pointer (some ⟨q1,0,none⟩))),(6,.i .i64 (k:Int))],[⟨bc,23,true,0,[],(sCfg c),[],true⟩],[stO a len ss,tbO,gsO q1 c x1 (sumT ss k) m g true]⟩) (fun v=>len - v.1.1.1) ⟨((0,gm0 x1 Sk1),gs0 c),Nat.zero_le _,GI.new c⟩ (wk ?_) ?_
  ·repeat' (first | exact trivial | rfl | ((conv=>whnf); refine And.intro ?_ ?_))
  rintro ⟨⟨⟨k,m⟩,g⟩,hk,hg⟩
  have hk:k≤len:=hk
  have hg:GI c k (sumT ss k) g:=hg
  by_cases hlt:k < len
  ·have hb:=hb (by omega)
   subst hb
   have hW:=hw k hlt
   have hWl:=hW.l
   have hsm:=sumT_at (ss:=ss) hlt
   have hs1:sumT ss (k+1)=sumT ss k+(ss k).n:=rfl
   have hb64:n64 (ss k).b:=n64_of hW.b
   obtain ⟨G',O',R',he1⟩:∃ G' O' R',doV c g (ss k).k (ss k).a (ss k).b (ss k).d=(G',O',R'):=⟨_,_,_,rfl⟩
   have hg1:GI c (k+1) (sumT ss k+(ss k).d.length) G':=by have:=hg.do_ (by omega) (k:=(ss k).k) (a:=(ss k).a) (d:=(ss k).d) (by omega) hb64; rwa [he1] at this
   rw [hWl] at hg1
   have hL:=hg1.j.t.l
   have hlen8:=hg1.len
   repeat' (first | refine gs_ ?_|((conv=>whnf); first | intro b2 | refine bto ?_|refine bfo ?_|refine wr_i ?_|refine cd (by first | decide | omega) ?_|refine opiv ⟨tab_ok⟩ (by rfl) (by rfl) (by rfl) (by rfl) (by rfl) (by rfl) ⟨by omega,by omega⟩ ?_|refine puiv ⟨tab_ok⟩ (by rfl) (by rfl) (by rfl) (by rfl) (by rfl) (by rfl) ⟨by omega,by omega⟩ ?_|refine opfv ⟨tab_ok⟩ (by rfl) (by rfl) (by rfl) (by rfl) ?_|refine pufv ⟨tab_ok⟩ (by rfl) (by rfl) (by rfl) (by rfl) ?_|refine opix (g:=gb) (off:=off+k*4) [.i .i64 (ss k).k,.i .i64 (ss k).a,.i .i64 (ss k).b,.v (.slice (ss k).A (ss k).n (ss k).c)] (fun w hH=>Ek.rd_rng (StR.r (Hold.ob hH (A:=stO (some ⟨gb,off,none⟩) len ss) 0 rfl)) hlt) ⟨tab_ok⟩ (by rfl) (by rfl) (by first | (simp only [Go.WideShapes.add_plain]; done)|(simp only [Go.WideShapes.add_plain]; rfl)) ?_|refine doX 2 1 (ss k).d (sumT ss (k+1)) he1 hg (by omega) (by omega) (by omega) hW.k (fun w hH=>hz_st hH (i:=0) (j:=2) rfl rfl (by decide) hlt) rfl rfl rfl rfl rfl (by decide) (fun u1=>?_)|refine callH (f:=27) (.v (.pointer (some ⟨x1.q,0,none⟩))) (fun w1 hH=>coreS (Hold.ob hH (A:=gsO q1 c x1 (sumT ss (k+1)) u1.1.1 G' true) 2 rfl)) ?_|refine callN (f:=28) (ι:=NrP w.heap.size G'.x.1.L.length) (fun x=>.v (.slice x.1.2.1 G'.x.1.L.length x.1.2.2)) (fun x=>rwO leaE x.1.1 x.1.2.1 G'.x.1.L.length x.1.2.2 G'.x.1.L true) (fun w1 hH=>toNp (leasesS (Hold.ob hH (A:=gsO q1 c x1 (sumT ss (k+1)) u1.1.1 G' true) 2 rfl) (by omega)) hH.upd.size) (fun ul=>?_)|refine callN (f:=32) (ι:=NrP w.heap.size G'.x.1.G.cars.length) (fun x=>.v (.slice x.1.2.1 G'.x.1.G.cars.length x.1.2.2)) (fun x=>rwO viewE x.1.1 x.1.2.1 G'.x.1.G.cars.length x.1.2.2 (G'.x.1.G.cars.map viewOf) true) (fun w1 hH=>toNp (viewsS (Hold.ob hH (A:=gsO q1 c x1 (sumT ss (k+1)) u1.1.1 G' true) 2 rfl) hlen8) hH.upd.size) (fun uv=>?_)|refine fin_s ?_))
   conv=>whnf
   obtain ⟨⟨l7,A7,c7⟩,hl7,hA7⟩:=ul
   obtain ⟨⟨l8,A8,c8⟩,hl8,hA8⟩:=uv
   have hA7:0 < G'.x.1.L.length→∃ g,A7=some ⟨g,0,none⟩:=hA7
   have hA8:0 < G'.x.1.G.cars.length→∃ g,A8=some ⟨g,0,none⟩:=hA8
   obtain ⟨gv,hgv⟩:=hA8 (by omega)
   subst hgv
   refine lp ⟨tab_ok⟩ (ι:={n:Nat // n≤G'.x.1.L.length}) (fun v=>match v with | ⟨i,_⟩=>⟨[(1,.v (.slice (some ⟨gb,off,none⟩) len cap)),(2,.p 0 0),(5,.v (.pointer (some ⟨q1,0,none⟩))),(6,.i .i64 (k:Int)),(7,.v (.slice A7 G'.x.1.L.length c7)),(8,.v (.slice (some ⟨gv,0,none⟩) G'.x.1.G.cars.length c8)),(9,.i .i64 (i:Int))],[⟨bc,23,true,0,[],(sCfg c),[],true⟩],[stO (some ⟨gb,off,none⟩) len ss,tbO,gsO q1 c x1 (sumT ss (k+1)) u1.1.1 G' true,osO u1.1.2.1 u1.1.2.2.1 u1.1.2.2.2,rwO leaE l7 A7 G'.x.1.L.length c7 G'.x.1.L true,rwO viewE l8 (some ⟨gv,0,none⟩) G'.x.1.G.cars.length c8 (G'.x.1.G.cars.map viewOf) true]⟩) (fun v=>G'.x.1.L.length - v.1) ⟨0,Nat.zero_le _⟩ (wkd ?_) ?_
   ·repeat' (first | exact trivial | rfl | ((conv=>whnf); refine And.intro ?_ ?_))
   rintro ⟨i,hi⟩
   have hi:i≤G'.x.1.L.length:=hi
   by_cases hlt3:i < G'.x.1.L.length
   ·obtain ⟨l,hl⟩:∃ l,G'.x.1.L[i]?=some l:=⟨_,List.getElem?_eq_getElem hlt3⟩
    obtain ⟨gl,hgl⟩:=hA7 (by omega)
    subst hgl
    have hlm:=List.mem_of_getElem? hl
    repeat' (first | refine gs_ ?_|((conv=>whnf); first | intro b | refine bto ?_|refine bfo ?_|refine fin_s ?_))
    refine lp ⟨tab_ok⟩ (ι:={n:Nat // n≤i}) (fun v=>match v with | ⟨j,_⟩=>⟨[(1,.v (.slice (some ⟨gb,off,none⟩) len cap)),(2,.p 0 0),(5,.v (.pointer (some ⟨q1,0,none⟩))),(6,.i .i64 (k:Int)),(7,.v (.slice (some ⟨gl,0,none⟩) G'.x.1.L.length c7)),(8,.v (.slice (some ⟨gv,0,none⟩) G'.x.1.G.cars.length c8)),(9,.i .i64 (i:Int)),(10,.i .i64 (j:Int))],[⟨bc,23,true,0,[],(sCfg c),[],true⟩],[stO (some ⟨gb,off,none⟩) len ss,tbO,gsO q1 c x1 (sumT ss (k+1)) u1.1.1 G' true,osO u1.1.2.1 u1.1.2.2.1 u1.1.2.2.2,rwO leaE l7 (some ⟨gl,0,none⟩) G'.x.1.L.length c7 G'.x.1.L true,rwO viewE l8 (some ⟨gv,0,none⟩) G'.x.1.G.cars.length c8 (G'.x.1.G.cars.map viewOf) true]⟩) (fun v=>i - v.1) ⟨0,Nat.zero_le _⟩ (wkd ?_) ?_
    ·repeat' (first | exact trivial | rfl | ((conv=>whnf); refine And.intro ?_ ?_))
    rintro ⟨j,hj⟩
    have hj:j≤i:=hj
    by_cases hlt4:j < i
    ·obtain ⟨lj,hlj⟩:∃ l,G'.x.1.L[j]?=some l:=⟨_,List.getElem?_eq_getElem (by omega)⟩
     obtain ⟨n1,n2⟩:=le_ne hg1 hlj hl hlt4
     repeat' (first | refine gq_ ?_|((conv=>whnf); first | intro b | refine drA ⟨tab_ok⟩ [4,9,17,23] ?_|refine And.intro ?_ ?_|refine bto ?_|refine bfo ?_|refine wr_i ?_|refine br_f (beq_eq_false_iff_ne.2 n1) ?_|refine br_f (beq_eq_false_iff_ne.2 n2) ?_|refine opiv ⟨tab_ok⟩ (by rfl) (by rfl) (by rfl) (by rfl) (by rfl) (by rfl) ⟨by omega,by omega⟩ ?_|refine puiv ⟨tab_ok⟩ (by rfl) (by rfl) (by rfl) (by rfl) (by rfl) (by rfl) ⟨by omega,by omega⟩ ?_|refine opfv ⟨tab_ok⟩ (by rfl) (by rfl) (by rfl) (by rfl) ?_|refine pufv ⟨tab_ok⟩ (by rfl) (by rfl) (by rfl) (by rfl) ?_|refine opxc (g:=gl) (off:=0+i*10+0) (.i .i64 l.se) (fun w hH=>rng_at (Ek.rng (Hold.ob hH (A:=rwO leaE l7 (some ⟨gl,0,none⟩) G'.x.1.L.length c7 G'.x.1.L true) 4 rfl) hl) rfl) ⟨tab_ok⟩ (by rfl) (by rfl) (by first | (simp only [Go.WideShapes.add_plain]; done)|(simp only [Go.WideShapes.add_plain]; rfl)) ?_|refine opxc (g:=gl) (off:=0+i*10+1) (.i .i64 l.fl) (fun w hH=>rng_at (Ek.rng (Hold.ob hH (A:=rwO leaE l7 (some ⟨gl,0,none⟩) G'.x.1.L.length c7 G'.x.1.L true) 4 rfl) hl) rfl) ⟨tab_ok⟩ (by rfl) (by rfl) (by first | (simp only [Go.WideShapes.add_plain]; done)|(simp only [Go.WideShapes.add_plain]; rfl)) ?_|refine opxc (g:=gl) (off:=0+i*10+5) (.i .i64 l.ca) (fun w hH=>rng_at (Ek.rng (Hold.ob hH (A:=rwO leaE l7 (some ⟨gl,0,none⟩) G'.x.1.L.length c7 G'.x.1.L true) 4 rfl) hl) rfl) ⟨tab_ok⟩ (by rfl) (by rfl) (by first | (simp only [Go.WideShapes.add_plain]; done)|(simp only [Go.WideShapes.add_plain]; rfl)) ?_|refine opxc (g:=gl) (off:=0+j*10+0) (.i .i64 lj.se) (fun w hH=>rng_at (Ek.rng (Hold.ob hH (A:=rwO leaE l7 (some ⟨gl,0,none⟩) G'.x.1.L.length c7 G'.x.1.L true) 4 rfl) hlj) rfl) ⟨tab_ok⟩ (by rfl) (by rfl) (by first | (simp only [Go.WideShapes.add_plain]; done)|(simp only [Go.WideShapes.add_plain]; rfl)) ?_|refine opxc (g:=gl) (off:=0+j*10+5) (.i .i64 lj.ca) (fun w hH=>rng_at (Ek.rng (Hold.ob hH (A:=rwO leaE l7 (some ⟨gl,0,none⟩) G'.x.1.L.length c7 G'.x.1.L true) 4 rfl) hlj) rfl) ⟨tab_ok⟩ (by rfl) (by rfl) (by first | (simp only [Go.WideShapes.add_plain]; done)|(simp only [Go.WideShapes.add_plain]; rfl)) ?_|refine En.back ⟨j+1,by show j+1≤_; omega⟩ (wkd ?_) ?_|refine fin_s ?_))
     all_goals first | (show i - (j+1) < i - j; omega)|skip
     all_goals (repeat' (first | exact trivial | rfl | ((conv=>whnf); refine And.intro ?_ ?_)))
    ·obtain ⟨x,hx,hH0⟩:=hg1.j.ci.a l hlm
     have hca:=hg1.j.p.k.okl l hlm
     have hcx:l.ca.toNat < G'.x.1.G.cars.length:=(List.getElem?_eq_some_iff.1 hx).1
     have hv:(G'.x.1.G.cars.map viewOf)[l.ca.toNat]?=some (viewOf x):=by rw [List.getElem?_map,hx]; rfl
     have hq:(Fl.cn G'.x.1.L l.fl:Int)≤btw c.qo 1 8:=by have:=hg1.j.ci.f l.fl; rwa [hg1.j.p.k.g.1] at this
     have hne:(viewOf x).mo≠0:=by
      show (if x.br=true then 2 else x.mo)≠0
      rw [hH0.mo]
      split <;> decide
     repeat' (first | refine gq_ ?_|((conv=>whnf); first | intro b | refine drA ⟨tab_ok⟩ [6,16,27,30] ?_|refine And.intro ?_ ?_|refine bto ?_|refine bfo ?_|refine wr_i ?_|refine br_f (beq_eq_false_iff_ne.2 hne) ?_|refine opiv ⟨tab_ok⟩ (by rfl) (by rfl) (by rfl) (by rfl) (by rfl) (by rfl) ⟨by omega,by omega⟩ ?_|refine puiv ⟨tab_ok⟩ (by rfl) (by rfl) (by rfl) (by rfl) (by rfl) (by rfl) ⟨by omega,by omega⟩ ?_|refine opfv ⟨tab_ok⟩ (by rfl) (by rfl) (by rfl) (by rfl) ?_|refine pufv ⟨tab_ok⟩ (by rfl) (by rfl) (by rfl) (by rfl) ?_|refine opxc (g:=gl) (off:=0+i*10+0) (.i .i64 l.se) (fun w hH=>rng_at (Ek.rng (Hold.ob hH (A:=rwO leaE l7 (some ⟨gl,0,none⟩) G'.x.1.L.length c7 G'.x.1.L true) 4 rfl) hl) rfl) ⟨tab_ok⟩ (by rfl) (by rfl) (by first | (simp only [Go.WideShapes.add_plain]; done)|(simp only [Go.WideShapes.add_plain]; rfl)) ?_|refine opxc (g:=gl) (off:=0+i*10+1) (.i .i64 l.fl) (fun w hH=>rng_at (Ek.rng (Hold.ob hH (A:=rwO leaE l7 (some ⟨gl,0,none⟩) G'.x.1.L.length c7 G'.x.1.L true) 4 rfl) hl) rfl) ⟨tab_ok⟩ (by rfl) (by rfl) (by first | (simp only [Go.WideShapes.add_plain]; done)|(simp only [Go.WideShapes.add_plain]; rfl)) ?_|refine opxc (g:=gl) (off:=0+i*10+5) (.i .i64 l.ca) (fun w hH=>rng_at (Ek.rng (Hold.ob hH (A:=rwO leaE l7 (some ⟨gl,0,none⟩) G'.x.1.L.length c7 G'.x.1.L true) 4 rfl) hl) rfl) ⟨tab_ok⟩ (by rfl) (by rfl) (by first | (simp only [Go.WideShapes.add_plain]; done)|(simp only [Go.WideShapes.add_plain]; rfl)) ?_|refine opxc (g:=gv) (off:=0+l.ca.toNat*5+2) (.i .i64 (viewOf x).mo) (fun w hH=>rng_at (Ek.rng (Hold.ob hH (A:=rwO viewE l8 (some ⟨gv,0,none⟩) G'.x.1.G.cars.length c8 (G'.x.1.G.cars.map viewOf) true) 5 rfl) hv) rfl) ⟨tab_ok⟩ (by rfl) (by rfl) (by first | (simp only [Go.WideShapes.add_plain]; done)|(simp only [Go.WideShapes.add_plain]; rfl)) ?_|refine callH (f:=37) (.i .i64 (Fl.cn G'.x.1.L l.fl:Nat)) (fun w hH=>countRT l.fl (by omega) (Hold.ob hH (A:=rwO leaE l7 (some ⟨gl,0,none⟩) G'.x.1.L.length c7 G'.x.1.L true) 4 rfl)) ?_|refine callS (f:=38) (.i .i64 (btw c.qo 1 8)) (quotaT c) ?_|refine En.back ⟨i+1,by show i+1≤_; omega⟩ (wkd ?_) ?_|refine fin_s ?_))
     all_goals first | (show G'.x.1.L.length - (i+1) < G'.x.1.L.length - i; omega)|skip
     all_goals (repeat' (first | exact trivial | rfl | ((conv=>whnf); refine And.intro ?_ ?_)))
   ·repeat' (first | refine gs_ ?_|((conv=>whnf); first | intro b | refine bto ?_|refine bfo ?_|refine fin_s ?_))
    refine lp ⟨tab_ok⟩ (ι:={v:Nat×Bool×Bool // v.1≤G'.x.1.G.cars.length∧v.2.1=moB G'.x.1.G.cars v.1 2∧v.2.2=moB G'.x.1.G.cars v.1 0}) (fun v=>match v with | ⟨(n,t1,t2),_⟩=>⟨[(1,.v (.slice (some ⟨gb,off,none⟩) len cap)),(2,.p 0 0),(5,.v (.pointer (some ⟨q1,0,none⟩))),(6,.i .i64 (k:Int)),(7,.v (.slice A7 G'.x.1.L.length c7)),(8,.v (.slice (some ⟨gv,0,none⟩) G'.x.1.G.cars.length c8)),(11,.b t1),(12,.b t2),(13,.i .i64 (n:Int))],[⟨bc,23,true,0,[],(sCfg c),[],true⟩],[stO (some ⟨gb,off,none⟩) len ss,tbO,gsO q1 c x1 (sumT ss (k+1)) u1.1.1 G' true,osO u1.1.2.1 u1.1.2.2.1 u1.1.2.2.2,rwO leaE l7 A7 G'.x.1.L.length c7 G'.x.1.L true,rwO viewE l8 (some ⟨gv,0,none⟩) G'.x.1.G.cars.length c8 (G'.x.1.G.cars.map viewOf) true]⟩) (fun v=>G'.x.1.G.cars.length - v.1.1) ⟨(0,false,false),Nat.zero_le _,rfl,rfl⟩ (wkd ?_) ?_
    ·repeat' (first | exact trivial | rfl | ((conv=>whnf); refine And.intro ?_ ?_))
    rintro ⟨⟨n,t1,t2⟩,hn,e1,e2⟩
    have hn:n≤G'.x.1.G.cars.length:=hn
    have e1:t1=moB G'.x.1.G.cars n 2:=e1
    have e2:t2=moB G'.x.1.G.cars n 0:=e2
    by_cases hlt4:n < G'.x.1.G.cars.length
    ·obtain ⟨x,hx⟩:∃ x,G'.x.1.G.cars[n]?=some x:=⟨_,List.getElem?_eq_getElem hlt4⟩
     have hv:(G'.x.1.G.cars.map viewOf)[n]?=some (viewOf x):=by rw [List.getElem?_map,hx]; rfl
     have s1:=moB_succ (m:=2) hx
     have s2:=moB_succ (m:=0) hx
     rw [← e1] at s1
     rw [← e2] at s2
     obtain ⟨T1,hT1⟩:∃ T1,T1=(t1 || ((viewOf x).mo == 2)):=⟨_,rfl⟩
     obtain ⟨T2,hT2⟩:∃ T2,T2=(t2 || ((viewOf x).mo == 0)):=⟨_,rfl⟩
     cases t1 <;> cases t2
     all_goals (repeat' (first | refine gs_ ?_|((conv=>whnf); first | intro b | refine bto ?_|refine bfo ?_|refine wr_i ?_|refine opiv ⟨tab_ok⟩ (by rfl) (by rfl) (by rfl) (by rfl) (by rfl) (by rfl) ⟨by omega,by omega⟩ ?_|refine puiv ⟨tab_ok⟩ (by rfl) (by rfl) (by rfl) (by rfl) (by rfl) (by rfl) ⟨by omega,by omega⟩ ?_|refine opfv ⟨tab_ok⟩ (by rfl) (by rfl) (by rfl) (by rfl) ?_|refine pufv ⟨tab_ok⟩ (by rfl) (by rfl) (by rfl) (by rfl) ?_|refine opxc (g:=gv) (off:=0+n*5+2) (.i .i64 (viewOf x).mo) (fun w hH=>rng_at (Ek.rng (Hold.ob hH (A:=rwO viewE l8 (some ⟨gv,0,none⟩) G'.x.1.G.cars.length c8 (G'.x.1.G.cars.map viewOf) true) 5 rfl) hv) rfl) ⟨tab_ok⟩ (by rfl) (by rfl) (by first | (simp only [Go.WideShapes.add_plain]; done)|(simp only [Go.WideShapes.add_plain]; rfl)) ?_|refine En.back ⟨(n+1,_,_),by show n+1≤_; omega,s1.symm,s2.symm⟩ (wkd ?_) ?_|refine fin_s ?_)))
     all_goals first | (show G'.x.1.G.cars.length - (n+1) < G'.x.1.G.cars.length - n; omega)|skip
     all_goals (repeat' (first | exact trivial | rfl | ((conv=>whnf); refine And.intro ?_ ?_)))
    ·obtain rfl:n=G'.x.1.G.cars.length:=by omega
     obtain ⟨i2,x,hx,hm0⟩:=hg1.j.ci.m
     unfold moB at e1 e2
     rw [List.take_length] at e1 e2
     have hor:t1=true∨t2=true:=by
      cases hbr:x.br with
      | true=>exact .inl (e1.trans (List.any_eq_true.2 ⟨x,List.mem_of_getElem? hx,by rw [show (viewOf x).mo=if x.br=true then 2 else x.mo from rfl,hbr]; rfl⟩))
      | false=>exact .inr (e2.trans (List.any_eq_true.2 ⟨x,List.mem_of_getElem? hx,by rw [show (viewOf x).mo=if x.br=true then 2 else x.mo from rfl,hbr,hm0]; rfl⟩))
     have e1:=(); have e2:=()
     cases t1 <;> cases t2
     ·rcases hor with h | h <;> cases h
     all_goals (repeat' (first | refine gs_ ?_|((conv=>whnf); first | intro b | refine bto ?_|refine bfo ?_|refine wr_i ?_|refine En.back ⟨((k+1,u1.1.1),G'),by show k+1≤len; omega,hg1⟩ (wkd ?_) ?_|refine fin_s ?_)))
     all_goals first | (show len - (k+1) < len - k; omega)|skip
     all_goals (repeat' (first | exact trivial | rfl | ((conv=>whnf); refine And.intro ?_ ?_)))
  ·repeat' (first | refine gs_ ?_|((conv=>whnf); first | intro b | refine bto ?_|refine bfo ?_|refine callH (f:=36) (.b true) (fun w1 hH=>ansTop (Hold.ob hH (A:=tbO) 1 rfl)) ?_|refine fin_s ?_))
   all_goals rfl
theorem wonceL {H:Type} {enc:TypeId×Value→H} {x:DataW H×List MemPlace} (c:CfgV) {a:Option Addr} {len cap:Nat} {w:World} (ht:Lib.TabIs Tryz.prog w "internal/strconv.uint64pow10" .u64 Lib.pow10Tab) (hx:∃ m,DataW.trod enc Tryz.prog w 0 (fun _=>true) true m 24 (Value.cells (.slice a len cap)).toList=some x) (hU:∀ u∈x.1.weights Tryz.prog 24,u≤reachBytes):Calls Tryz.prog 9 #[(aCfg c),.slice a len cap] w fun e w'=>e=.returned (.bool true)∧Since w w':=by
 obtain ⟨ss,h1,h2,h3⟩:=steps_in hx hU
 exact wonceF c h1 h2 h3 ht
end Gw
end Go.Proofs.YtepfmfalebmcnaaGreatDoor
