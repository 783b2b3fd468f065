/-
  Wanted: WholeEnds 0.
  No condition.
-/
import Derived.Test.YtepfmfalebmcnaaGreatDoorQH9
import Derived.Test.YtepfmfalebmcnaaGreatDoorQH14
import Derived.Test.YtepfmfalebmcnaaGreatDoorQH15
import Derived.Test.YtepfmfalebmcnaaGreatDoorQH16
import Derived.Test.YtepfmfalebmcnaaGreatDoorQH17
set_option linter.all false
namespace Go.Proofs.YtepfmfalebmcnaaGreatDoor
namespace En
open Go.RowKit Ba Mem
end En
namespace Co
open Go.RowKit Ba Mem En Go.Proofs.YtepfmfalebmcnaaGreatDoor.Ty Mo Go.Proofs.YtepfmfalebmcnaaGreatDoor.St
open Gr (GrV GO CarsAt WaitsAt newG okT okW waitsO tickP)
open Qu (QO askE qO)
open Le (TO tO)
open Fl (leaE)
open Ri (MsgV msgC)
open Et (carsO)
set_option maxRecDepth 100000
attribute [local irreducible] Go.Calls
section
variable {lo q:Nat} {p:Pt} {K:KV} {S T:List Nat} {w w':World}
end
section
variable {P:Program} {F:FuncId} {args:Array Value} {lo q:Nat} {p:Pt} {K K':KV} {S:List Nat} {w:World} {V:Value}
end
section
variable {lo q:Nat} {p:Pt} {K:KV} {S:List Nat} {w:World}
theorem leasesK (h:KW lo q p K S w) (hl:K.L.length≤10000):Calls Tryz.prog 28 #[.pointer (some ⟨q,0,none⟩)] w fun e w'=>∃ A' c',e=.returned (.slice A' K.L.length c')∧leaE.At w.heap.size A' K.L.length c' K.L w'∧Since w w':=by
 obtain ⟨S0,hk,hb⟩:=h.rd
 refine entH tab_ok (hold_kr hk hb) [.p 0 0] Tryz.func28 Tryz.ntmps28 rfl rfl ?_
 repeat' (first | refine gs_ ?_|((conv=>whnf); first | intro b | refine callN (f:=54) (ι:=NrA w.heap.size) (fun x=>.v (.slice x.1.2.1 K.L.length x.1.2.2)) (fun x=>rwO leaE x.1.1 x.1.2.1 K.L.length x.1.2.2 K.L true) (fun w1 hH=>toN ((Hold.ob hH (A:=bdO lo p K S0 false) 0 rfl).leases hl) hH.upd.size) (fun x=>?_)|refine fin fun w' hH=>⟨_,_,rfl,own_base (Hold.ob hH (A:=rwO leaE x.1.1 x.1.2.1 K.L.length x.1.2.2 K.L true) 1 rfl) x.2,hH.upd.since⟩|refine fin_s ?_))
end
end Co
namespace Lc
open Go.RowKit Ba Mem En Go.Proofs.YtepfmfalebmcnaaGreatDoor.Ty Mo Go.Proofs.YtepfmfalebmcnaaGreatDoor.St Co
open Ri (MsgV tickV hearV trV sp rn mayRe)
open Qu (dropL atS btw firstA atF)
open Le (hasL ofL setL setE endL zeroL atP isS isT isP goodB)
open Tm (cl)
open Gr (loadR)
section
variable {c:CfgV} {l:LeaseV} {now:Int}
end
section
variable {K:KV}
section
variable {c:CfgV} {n T m:Nat}
end
end
section
variable {c:CfgV} {n T:Nat} {K:KV}
def boundV (c:CfgV):Int:=2*trV c+sp c.ho*(2+rn c.re)
theorem LI.bound {l:LeaseV} {now:Int} (h:LI c now l):now - l.gr < boundV c:=by
 have hp:=good_ph h.gd
 have h1:=h.un
 have h2:=h.lt
 have hs:=Ri.sp_lo c.ho
 have ht:=Ri.tr_lo c
 have hb:bp c l.ph≤2*trV c+2*sp c.ho:=by unfold bp; (repeat' split) <;> omega
 have hm:sp c.ho*l.re≤sp c.ho*rn c.re:=Int.mul_le_mul_of_nonneg_left h.re.2 (by omega)
 unfold boundV
 rw [Int.mul_add]
 omega
end
end Lc
namespace Gw
open Go.RowKit Ba Mem En Go.Proofs.YtepfmfalebmcnaaGreatDoor.Ty Mp
open Ri (MsgV)
open Co (KV Pt KW Nr NrA toN Hold.ob)
open Gr (doR)
open Lc (hallW pressW loadW2 curtW faultW)
open Et (carsO)
set_option maxRecDepth 100000
attribute [local irreducible] Go.Calls
section
variable {lo gq M:Nat} {c:CfgV} {x:Gp} {ep sk sa sb i:Int} {K:KV} {Sk:List Nat} {D:Fam} {w:World} {dA:Option Addr} {dn dc:Nat}
theorem coreT (hb:Blk w gq 96 (gwA c x ep)):Calls Tryz.prog 27 #[.pointer (some ⟨gq,0,none⟩)] w fun e w'=>e=.returned (.pointer (some ⟨x.q,0,none⟩))∧Since w w':=by
 refine entH tab_ok (hold_q (S:=[]) (gwS c x ep) hb) [.p 0 0] Tryz.func27 Tryz.ntmps27 rfl rfl ?_
 repeat' (first | refine gs_ ?_|((conv=>whnf); first | intro b | refine fin_s ?_))
 all_goals rfl
end
end Gw
namespace Gw
open Go.RowKit Ba Mem En Go.Proofs.YtepfmfalebmcnaaGreatDoor.Ty
open Byt (BV isB)
open Co (Hold.ob)
set_option maxRecDepth 100000
attribute [local irreducible] Go.Calls
theorem lightT {a:Option Addr} {len cap:Nat} {ss:Nat→StepD} {w:World} (h:StR a len ss w) (hlen:len≤9223372036854775807):Calls Tryz.prog 35 #[.slice a len cap] w fun e w'=>e=.returned (.bool (litB ss len))∧Since w w':=by
 obtain ⟨gb,off,hb⟩:=Ek.rd_addr h.r
 refine entH tab_ok (hold_st h) [.v (.slice a len cap)] Tryz.func35 Tryz.ntmps35 rfl rfl ?_
 repeat' (first | refine gs_ ?_|((conv=>whnf); first | intro b | refine fin_s ?_))
 conv=>whnf
 refine lp ⟨tab_ok⟩ (ι:={k:Nat // k≤len}) (fun x=>match x with | ⟨k,_⟩=>⟨[(0,.v (.slice a len cap)),(3,.i .i64 (sumW ss k)),(4,.i .i64 (k:Int))],[],[stO a len ss]⟩) (fun k=>len - k.1) ⟨0,Nat.zero_le _⟩ (wk ?_) ?_
 ·repeat' (first | exact trivial | rfl | ((conv=>whnf); refine And.intro ?_ ?_))
 rintro ⟨k,hk⟩
 by_cases hlt:k < len
 ·have hb:=hb (by omega)
  subst hb
  repeat' (first | refine gs_ ?_|((conv=>whnf); first | intro b | refine bto ?_|refine bfo ?_|refine wr_i ?_|refine wr_lit ?_|refine opiv ⟨tab_ok⟩ (by rfl) (by rfl) (by rfl) (by rfl) (by rfl) (by rfl) ⟨by omega,by omega⟩ ?_|refine puiv ⟨tab_ok⟩ (by rfl) (by rfl) (by rfl) (by rfl) (by rfl) (by rfl) ⟨by omega,by omega⟩ ?_|refine opfv ⟨tab_ok⟩ (by rfl) (by rfl) (by rfl) (by rfl) ?_|refine pufv ⟨tab_ok⟩ (by rfl) (by rfl) (by rfl) (by rfl) ?_|refine opxc (g:=gb) (off:=off+k*4+3) (.v (.slice (ss k).A (ss k).n (ss k).c)) (fun w hH=>rng_at (Ek.rd_rng (StR.r (Hold.ob hH (A:=stO (some ⟨gb,off,none⟩) len ss) 0 rfl)) hlt) rfl) ⟨tab_ok⟩ (by rfl) (by rfl) (by simp only [Go.WideShapes.add_plain]; rfl) ?_|refine En.back ⟨k+1,by omega⟩ (wk ?_) ?_|refine fin_s ?_))
  all_goals first | (show len - (k+1) < len - k; omega)|skip
  all_goals (repeat' (first | exact trivial | rfl | ((conv=>whnf); refine And.intro ?_ ?_)))
 ·obtain rfl:k=len:=by omega
  repeat' (first | refine gs_ ?_|((conv=>whnf); first | intro b | refine bto ?_|refine bfo ?_|refine b3_ (fun h=>?_) (fun h=>?_)|refine fin_s ?_))
  all_goals (simp [den,litB, *])
end Gw
namespace Gw
open Go.RowKit Ba Mem En Go.Proofs.YtepfmfalebmcnaaGreatDoor.Ty
open Fm (frames)
open Byt (BV isB)
open Co (KV newK Hold.ob)
set_option maxRecDepth 100000
attribute [local irreducible] Go.Calls
section
variable {X:Cx} {s:St}
theorem doX {K:SV→St→Prop} {f:FuncId} {vs:List SV} (i j:Nat) {gq B:Nat} {c:CfgV} {x:Gp} {m:Gm} {g:Gs} {k a b:Int} {dA:Option Addr} {dn dc:Nat} (d:List Int) (B':Nat) {i0:Nat} {g':Gs} {o':List (Int×List Int)} {r:Int} (he:doV c g k a b d=(g',o',r)) (hg:GI c i0 B g) (hi:i0 < 10000) (hB:B+d.length≤60000) (hB2:B+d.length≤B')
  (hk:(Lit.int .i64 k).wf=true) (hz:∀ w,Hold X s.m s.ob w→BV w dA dn d∧∀ y∈rdF dA dn,y∉gmF gq x m)
  (hf:f=24) (hP:X.P=Tryz.prog) (hA:s.ob[i]?=some (gsO gq c x B m g true)) (hT:s.ob[j]?=some tbO) (hv:denL s.m vs=[.pointer (some ⟨gq,0,none⟩),.agg #[.int .i64 k,.int .i64 a,.int .i64 b,.slice dA dn dc]]) (hij:j≠i)
  (h:∀ y:DoI o',setO i (gsO gq c x B' y.1.1 g' true) s.ob fun ob=>appO ob (osO y.1.2.1 y.1.2.2.1 y.1.2.2.2) fun ob=>K (.t [.v (.slice y.1.2.1 o'.length y.1.2.2.1),.i .i64 r]) ⟨s.fr,s.m,ob⟩)
  (hen:entChk X.P f=true:=by kernel_rfl):CallVC X f vs s K:=by
 refine callON i (A:=gsO gq c x B m g true) (fun y:DoI o'=>.t [.v (.slice y.1.2.1 o'.length y.1.2.2.1),.i .i64 r]) (fun y=>gsO gq c x B' y.1.1 g' true) (fun y=>osO y.1.2.1 y.1.2.2.1 y.1.2.2.2) (fun w hH hA1=>?_) h hA rfl hen (fun _=>rfl)
 subst hf
 rw [hP,hv]
 obtain ⟨z1,z2⟩:=hz w hH
 have hTb:=hH.obj _ (List.mem_of_getElem? hT)
 have hdis:∀ y∈gmF gq x m,y∉tbO.F:=pair_at (R:=DisR) (fun _ _ h=>h.symm) hH.dis hA hT (Ne.symm hij) (.inl rfl)
 refine (doD (k:=k) (a:=a) (b:=b) (dc:=dc) hA1 hg hi hB z1 z2 hTb (tb_far (A:=gsO gq c x B m g true) hdis) hk).mono ?_
 rintro e w' hq
 unfold DoQ at hq
 rw [he] at hq
 obtain ⟨y,h1,h2,h3,h4,h5,h6⟩:=hq
 refine ⟨⟨y.1,y.2,fun h0=>?_⟩,h1,h2.more hB2,h3,h4,h5,h6⟩
 obtain ⟨q,hq⟩:=Ek.addr h3.r
 have e:y.1.2.2.2.length=o'.length:=(List.length_map ..).symm.trans (congrArg List.length y.2)
 exact ⟨q,hq (by omega)⟩
end
theorem do_2 (c:CfgV) (g:Gs) (a b:Int) (d:List Int):doV c g 2 a b d=((doV c g 2 a b d).1,[],0):=by unfold doV; rw [if_neg (by decide),if_pos rfl]
end Gw
namespace Gw
open Go.RowKit Ba Mem En Go.Proofs.YtepfmfalebmcnaaGreatDoor.Ty
open Fm (frames)
open Byt (BV isB)
open Co (KV newK Hold.ob)
set_option maxRecDepth 100000
attribute [local irreducible] Go.Calls
section
variable {X:Cx} {m:List Row} {ob:List Asr} {w:World}
end
section
variable {gq B:Nat} {c:CfgV} {x:Gp} {m:Gm} {g:Gs} {w:World}
theorem epochS {i:Int} (h:GSt gq c x B m g w) (hi:(Lit.int .i64 i).wf=true):Calls Tryz.prog 23 #[.pointer (some ⟨gq,0,none⟩),.int .i64 i] w fun e w'=>e=.returned (.int .i64 (epochV g.x.2 i))∧Since w w':=by
 have:=epochT h.t.b h.t.k h.t.g1 hi
 rw [h.v] at this; exact this
theorem coreS (h:GSt gq c x B m g w):Calls Tryz.prog 27 #[.pointer (some ⟨gq,0,none⟩)] w fun e w'=>e=.returned (.pointer (some ⟨x.q,0,none⟩))∧Since w w':=coreT h.t.b
theorem viewsS (h:GSt gq c x B m g w) (h1:1≤g.x.1.G.cars.length∧g.x.1.G.cars.length≤8):Calls Tryz.prog 32 #[.pointer (some ⟨gq,0,none⟩)] w fun e w'=>∃ A' c',e=.returned (.slice A' g.x.1.G.cars.length c')∧viewE.At w.heap.size A' g.x.1.G.cars.length c' (g.x.1.G.cars.map viewOf) w'∧Since w w':=viewsT h.t.b h.t.k h.t.g1 (by omega) (by omega)
theorem leasesS (h:GSt gq c x B m g w) (hl:g.x.1.L.length≤10000):Calls Tryz.prog 28 #[.pointer (some ⟨x.q,0,none⟩)] w fun e w'=>∃ A' c',e=.returned (.slice A' g.x.1.L.length c')∧Fl.leaE.At w.heap.size A' g.x.1.L.length c' g.x.1.L w'∧Since w w':=Co.leasesK h.t.k.k hl
theorem groupS (h:GSt gq c x B m g w):Calls Tryz.prog 39 #[.pointer (some ⟨x.q,0,none⟩)] w fun e w'=>e=.returned (.pointer (some ⟨x.p.g,0,none⟩))∧Since w w':=Co.groupK h.t.k.k
theorem nowS (h:GSt gq c x B m g w):Calls Tryz.prog 40 #[.pointer (some ⟨x.p.g,0,none⟩)] w fun e w'=>e=.returned (.int .i64 g.x.1.G.now)∧Since w w':=by
 obtain ⟨S0,_,hbd⟩:=h.t.k.k.rd
 exact hbd.now
end
end Gw
namespace Gw
open Go.RowKit Ba Mem En Go.Proofs.YtepfmfalebmcnaaGreatDoor.Ty Mg
open Fm (frm frames)
open Byt (BV isB)
open Co (KV newK Hold.ob)
set_option maxRecDepth 100000
def cfgT:CfgV:=⟨1,3,0,2,0,0,0,0,0,0,0,0,0,0,0,0,9,2⟩
def helT1:List Int:=frm (bytesOf (helP 1 0))
def wanT:PktV:=⟨1,1,0,0,true,2,1,0,0⟩
def tp1:Gs:=(doV cfgT (gs0 cfgT) 2 0 0 helT1).1
def tp2:Gs:=(doV cfgT tp1 1 0 0 []).1
theorem helT1_len:helT1.length=27:=by kernel_rfl
theorem helT1_may:mayB (helP 1 0)=true:=by kernel_rfl
theorem tp2_out:(doV cfgT tp1 1 0 0 []).2=([(1,frm (bytesOf wanT))],0):=by kernel_rfl
theorem tp2_ep:epochV tp2.x.2 1=1:=by kernel_rfl
theorem tp1_e:doV cfgT (gs0 cfgT) 2 0 0 helT1=(tp1,[],0):=do_2 _ _ _ _ _
theorem tp2_e:doV cfgT tp1 1 0 0 []=(tp2,[(1,frm (bytesOf wanT))],0):=by rw [← tp2_out]; rfl
theorem hold_tt {nt:Nat} {w:World} (ht:Lib.TabIs Tryz.prog w "internal/strconv.uint64pow10" .u64 Lib.pow10Tab):Hold ⟨Tryz.prog,tab,[],w,nt,[]⟩ [] [tbO] w :=
 Hold.addObj (Hold.nil _ tab [] _ w) tbO ht (by intro k; cases k) (by intro r hr; cases hr) (by intro A hA; cases hA)
attribute [local irreducible] Go.Calls doV tp1 tp2
set_option maxHeartbeats 4000000 in
theorem ansTop {w:World} (ht:Lib.TabIs Tryz.prog w "internal/strconv.uint64pow10" .u64 Lib.pow10Tab):Calls Tryz.prog 36 #[] w fun e w'=>e=.returned (.bool true)∧Since w w':=by
 have hbo:=bytes_b (helP 1 0) rfl
 have hl:=helT1_len
 have hg0:GI cfgT 0 0 (gs0 cfgT):=GI.new cfgT
 have hg1:GI cfgT 1 (0+27) tp1:=by have:=hg0.do_ (by decide) (k:=2) (a:=0) (b:=0) (d:=helT1) (by omega) ⟨by decide,by decide⟩; rw [hl,tp1_e] at this; exact this
 refine entH tab_ok (hold_tt ht) [] Tryz.func36 Tryz.ntmps36 rfl rfl ?_
 repeat' (first | refine gs_ ?_|((conv=>whnf); first | intro b | refine callN (f:=21) (ι:=Nat×Gp×List Nat) (fun y=>.v (.pointer (some ⟨y.1,0,none⟩))) (fun y=>gsO y.1 cfgT y.2.1 0 (gm0 y.2.1 y.2.2) (gs0 cfgT) true) (fun w1 hH=>newS cfgT w1) (fun y=>?_)|refine callN (f:=20) (ι:=Option Addr×Nat) (fun x=>.v (.slice x.1 21 x.2)) (fun x=>rwO byteE w.heap.size x.1 21 x.2 (bytesOf (helP 1 0)) true) (fun w1 hH=>(bytesH (helP 1 0) helT1_may rfl w1).mono (by rintro e w' ⟨x,rfl,h1,h2⟩; rw [← hbo] at h1; exact ⟨x,rfl,Ek.base h1 hH.upd.size,h2,Ek.lows h1⟩)) (fun x=>?_)|refine callN (f:=19) (ι:=Option Addr×Nat) (fun z=>.v (.slice z.1 27 z.2)) (fun z=>rwO byteE w.heap.size z.1 27 z.2 helT1 true) (fun w1 hH=>(frmE x.1 x.2 (bytesOf (helP 1 0)) 21 27 w1 (Hold.ob hH (A:=rwO byteE w.heap.size x.1 21 x.2 (bytesOf (helP 1 0)) true) 2 rfl) (bytes_isB _) (by omega) helT1_len).mono (by rintro e w' ⟨z,rfl,h1,h2⟩; exact ⟨z,rfl,Ek.base h1 hH.upd.size,h2,Ek.lows h1⟩)) (fun z=>?_)|refine doX 1 0 helT1 (0+27) tp1_e hg0 (by decide) (by omega) (by omega) (by decide) (fun w1 hH=>⟨Byt.BV.of_own (byte_own.1 (Hold.ob hH (A:=rwO byteE w.heap.size z.1 27 z.2 helT1 true) 3 rfl)) (Fm.frm_isB (bytes_isB _)),fun g hg hm=>(pair_at (R:=DisR) (fun _ _ h=>h.symm) hH.dis (i:=1) (j:=3) rfl rfl (by decide) (.inl rfl)) g hm (rdF_blk g hg)⟩) rfl rfl rfl rfl rfl (by decide) (fun u1=>?_)|refine doX 1 0 [] (0+27) tp2_e hg1 (by decide) (by decide) (by decide) (by decide) (fun w1 hH=>⟨BV.nil _ _,by intro g hg; cases hg⟩) rfl rfl rfl rfl rfl (by decide) (fun u2=>?_)|refine fin_s ?_))
 conv=>whnf
 obtain ⟨⟨m2,A2,c2,os2⟩,hov,hA2⟩:=u2
 obtain ⟨g2,hg2⟩:=hA2 (by decide)
 have hg2:A2=some ⟨g2,0,none⟩:=hg2
 subst hg2
 have hov:outsV os2=[(1,frm (bytesOf wanT))]:=hov
 obtain ⟨A3,c3,rfl⟩:=outs_one hov
 repeat' (first | refine gs_ ?_|((conv=>whnf); first | intro b | refine br_t (by rfl) ?_|refine br_t (beq_self_eq_true _) ?_|refine opiv ⟨tab_ok⟩ (by rfl) (by rfl) (by rfl) (by rfl) (by rfl) (by rfl) ⟨by decide,by decide⟩ ?_|refine opfv ⟨tab_ok⟩ (by rfl) (by rfl) (by rfl) (by rfl) ?_|refine opxc (g:=g2) (off:=0+0*2+0) (.i .i64 1) (fun w1 hH=>rng_at (v:=.int .i64 1) (Ek.rng (x:=(⟨1,A3,c3,frm (bytesOf wanT)⟩:OutD)) (k:=0) (OsAt.r (Hold.ob hH (A:=osO (some ⟨g2,0,none⟩) c2 [⟨1,A3,c3,frm (bytesOf wanT)⟩]) 5 rfl)) rfl) rfl) ⟨tab_ok⟩ (by rfl) (by rfl) (by simp only [Go.WideShapes.add_plain]; rfl) ?_|refine callH (f:=23) (.i .i64 1) (fun w1 hH=>(by have:=epochS (i:=1) (Hold.ob hH (A:=gsO y.1 cfgT y.2.1 (0+27) m2 tp2 true) 1 rfl) (wf_small (by decide)); rw [tp2_ep] at this; exact this)) ?_|refine fin_s ?_))
 all_goals rfl
end Gw
namespace Lc
open Go.RowKit Ba Mem En Go.Proofs.YtepfmfalebmcnaaGreatDoor.Ty Mo Go.Proofs.YtepfmfalebmcnaaGreatDoor.St Co
open Ri (trV sp rn)
open Qu (btw)
set_option maxRecDepth 100000
attribute [local irreducible] Go.Calls
theorem nearestT (n lo hi:Int) (w:World):Calls Tryz.prog 60 #[.int .i64 n,.int .i64 lo,.int .i64 hi] w fun e w'=>e=.returned (.int .i64 (btw n lo hi))∧Since w w':=by
 refine ent tab_ok [.i .i64 n,.i .i64 lo,.i .i64 hi] Tryz.func60 Tryz.ntmps60 rfl rfl ?_
 repeat' (first | refine gs_ ?_|((conv=>whnf); first | refine b3_ (fun h=>?_) (fun h=>?_)|refine fin_s ?_))
 all_goals (refine congrArg (Value.int .i64) ?_; unfold btw; (repeat' split) <;> omega)
theorem spanT (n:Int) (w:World):Calls Tryz.prog 62 #[.int .i64 n] w fun e w'=>e=.returned (.int .i64 (sp n))∧Since w w':=by
 refine ent tab_ok [.i .i64 n] Tryz.func62 Tryz.ntmps62 rfl rfl ?_
 repeat' (first | refine gs_ ?_|((conv=>whnf); first | refine callS (f:=60) (.i .i64 (btw n 1 1000)) (nearestT n 1 1000) ?_|refine fin_s ?_))
 all_goals rfl
theorem floorsT (n:Int) (w:World):Calls Tryz.prog 64 #[.int .i64 n] w fun e w'=>e=.returned (.int .i64 (fl n))∧Since w w':=by
 refine ent tab_ok [.i .i64 n] Tryz.func64 Tryz.ntmps64 rfl rfl ?_
 repeat' (first | refine gs_ ?_|((conv=>whnf); first | refine b3_ (fun h=>?_) (fun h=>?_)|refine fin_s ?_))
 all_goals (refine congrArg (Value.int .i64) ?_; unfold fl; (repeat' split) <;> omega)
theorem renewT (c:CfgV) (w:World):Calls Tryz.prog 63 #[(aCfg c)] w fun e w'=>e=.returned (.int .i64 (rn c.re))∧Since w w':=by
 refine ent tab_ok [.a (sCfg c)] Tryz.func63 Tryz.ntmps63 rfl rfl ?_
 repeat' (first | refine gs_ ?_|((conv=>whnf); first | intro b | refine callS (f:=60) (.i .i64 (btw c.re 0 1000)) (nearestT c.re 0 1000) ?_|refine fin_s ?_))
 all_goals rfl
theorem tripRT (c:CfgV) (w:World):Calls Tryz.prog 61 #[(aCfg c)] w fun e w'=>e=.returned (.int .i64 (trV c))∧Since w w':=by
 have h1:=fl_lo c.fl
 have h2:=fl_hi c.fl
 have h3:=Ri.sp_lo c.dr
 have h4:=Ri.sp_hi c.dr
 refine ent tab_ok [.a (sCfg c)] Tryz.func61 Tryz.ntmps61 rfl rfl ?_
 repeat' (first | refine gs_ ?_|((conv=>whnf); first | intro b | refine wr_i ?_|refine callS (f:=62) (.i .i64 (sp c.dr)) (spanT c.dr) ?_|refine callS (f:=64) (.i .i64 (fl c.fl)) (floorsT c.fl) ?_|refine fin_s ?_))
 all_goals rfl
theorem boundT (c:CfgV) (w:World):Calls Tryz.prog 41 #[(aCfg c)] w fun e w'=>e=.returned (.int .i64 (boundV c))∧Since w w':=by
 have h1:=Ri.tr_lo c
 have h2:=Ri.tr_hi c
 have h3:=Ri.sp_lo c.ho
 have h4:=Ri.sp_hi c.ho
 have h5:=rn_hi c.re
 have h6:0≤rn c.re:=by unfold rn; (repeat' split) <;> omega
 have h7:0≤sp c.ho*(2+rn c.re):=Int.mul_nonneg (by omega) (by omega)
 have h8:sp c.ho*(2+rn c.re)≤1000*1002:=Int.mul_le_mul h4 (by omega) (by omega) (by decide)
 refine ent tab_ok [.a (sCfg c)] Tryz.func41 Tryz.ntmps41 rfl rfl ?_
 repeat' (first | refine gs_ ?_|((conv=>whnf); first | intro b | refine wr_i ?_|refine callS (f:=61) (.i .i64 (trV c)) (tripRT c) ?_|refine callS (f:=62) (.i .i64 (sp c.ho)) (spanT c.ho) ?_|refine callS (f:=63) (.i .i64 (rn c.re)) (renewT c) ?_|refine fin_s ?_))
 all_goals rfl
end Lc
namespace Gw
open Go.RowKit Ba Mem En Go.Proofs.YtepfmfalebmcnaaGreatDoor.Ty
open Fm (frames)
open Byt (BV isB)
open Fl (leaE)
open Qu (askE intE)
open Ri (opB aimF)
open Co (KV newK Hold.ob NrP toNp Nr)
open Lc (boundV boundT)
set_option maxRecDepth 100000
def GrI (n:Int) (K:KV):Prop:=∀ l∈K.L,l.gr≤n
section
variable {n:Int} {K:KV}
theorem gr_end (h:GrI n K) (s:Int):GrI n (Co.endK K s):=fun y hy=>by
 unfold Co.endK at hy; split at hy
 ·exact h y ((Co.end_sub _ _).subset hy)
 ·exact h y hy
theorem gr_set {l:LeaseV} {o:Bool} (h:GrI n K) (hl:l.gr≤n):GrI n (Co.setK K l o):=fun y hy=>by
 unfold Co.setK at hy; split at hy
 ·exact gr_end h _ y hy
 ·rcases Co.set_mem hy with hy | rfl
  ·exact h y hy
  ·exact hl
theorem tickV_gr (c:CfgV) (l:LeaseV) (x:CarV) (now:Int):(Ri.tickV c l x now).1.gr=l.gr:=by unfold Ri.tickV; (repeat' split) <;> rfl
theorem hearV_gr (c:CfgV) (l:LeaseV) (x:CarV) (now:Int) (m:Ri.MsgV):(Ri.hearV c l x now m).1.gr=l.gr:=by unfold Ri.hearV; (repeat' split) <;> rfl
theorem gr_hear (h:GrI n K) (s:Int) (m:Ri.MsgV):GrI n (Co.hearK K s m):=by
 unfold Co.hearK; split
 ·rename_i hh
  exact gr_set h (by rw [show (Co.hearR K (Le.ofL K.L s) m).1.gr=(Le.ofL K.L s).gr from hearV_gr _ _ _ _ _]; exact h _ (Co.has_mem hh).1)
 ·exact h
theorem gr_fold:∀ (ls:List LeaseV) (x:KV×List Co.EvV),GrI n x.1→(∀ l∈ls,l.gr≤n)→GrI n (ls.foldl Co.stepK x).1
 | [],_,h,_=>h
 | l::r,x,h,hl=>by
  rw [List.foldl_cons]
  exact gr_fold r _ (gr_set h (by rw [show (Co.stepR x.1 l).1.gr=l.gr from tickV_gr _ _ _ _]; exact hl l (List.mem_cons_self ..))) (fun y hy=>hl y (List.mem_cons_of_mem _ hy))
theorem gr_grant (h:GrI n K) (hn:K.G.now≤n):GrI n (Co.grantK K):=fun y hy=>by
 unfold Co.grantK at hy; split at hy
 ·exact h y hy
 ·change y∈Le.putL _ _ _ at hy
  unfold Le.putL at hy
  split at hy
  ·rcases List.mem_append.1 hy with hy | hy
   ·exact h y hy
   ·rw [List.mem_singleton] at hy; subst hy; exact hn
  ·exact h y hy
theorem gr_tick (h:GrI K.G.now K) (h0:0≤K.G.now∧K.G.now≤1000000):GrI (Co.tickK K).G.now (Co.tickK K):=by
 have e:=tick_nowK h0
 have e2:(Co.foldK K K.L.length).1.G.now=(Co.tickK K).G.now:=(Lc.grant_now _).symm
 refine gr_grant (gr_fold _ _ (fun y hy=>?_) (fun y hy=>?_)) (by rw [← e2]; exact Int.le_refl _)
 ·have:=h y hy; omega
 ·have:=h y (List.mem_of_mem_take hy); omega
theorem rk_gr:Rk (fun K K'=>GrI K.G.now K→GrI K'.G.now K'):=⟨fun _ h=>h,fun h k u=>k (h u),fun K s h=>by show GrI (Co.endK K s).G.now (Co.goneK K s); rw [Lc.end_now K s]; exact gr_end h s,fun K a h=>h,fun K s m h=>by rw [Lc.hear_now K s m]; exact gr_hear h s m⟩
end
theorem gr_do {c:CfgV} {i B:Nat} {g:Gs} (h:GrI g.x.1.G.now g.x.1) (hg:GI c i B g) (hi:i < 10000) (k a b:Int) (d:List Int):GrI (doV c g k a b d).1.x.1.G.now (doV c g k a b d).1.x.1:=by
 unfold doV
 by_cases h1:k=1
 ·rw [if_pos h1]
  exact rk_gr.tick g.x (gr_tick h ⟨hg.j.p.k.now.1,by have:=hg.j.p.t; omega⟩)
 rw [if_neg h1]
 by_cases h2:k=2
 ·rw [if_pos h2]
  exact rk_gr.run c _ (g.x,g.ep) h
 rw [if_neg h2]
 by_cases h3:3≤k∧k≤7
 ·rw [if_pos h3]
  show GrI (Gr.doR g.x.1.G (k - 2) a b (b == 1)).1.now _
  rw [(Lc.doR_w _ _ _ _ _ (by omega)).1]
  exact h
 rw [if_neg h3]
 by_cases h8:k=8
 ·rw [if_pos h8]; exact h
 ·rw [if_neg h8]; exact h
def hasB (L:List LeaseV) (j n:Nat):Bool:=(L.take j).any fun l=>l.ca == (n:Int)
theorem hasB_succ {L:List LeaseV} {j n:Nat} {l:LeaseV} (h:L[j]?=some l):hasB L (j+1) n=(hasB L j n || (l.ca == (n:Int))):=by
 unfold hasB
 rw [List.take_succ,h]
 simp
attribute [local irreducible] Go.Calls doV tickG
set_option maxHeartbeats 8000000 in
theorem wendF (c:CfgV) {a:Option Addr} {len cap:Nat} {ss:Nat→StepD} {w:World} (h:StR a len ss w) (hw:∀ i,i < len→StepW (ss i)) (hlen:len≤9223372036854775807) (ht:Lib.TabIs Tryz.prog w "internal/strconv.uint64pow10" .u64 Lib.pow10Tab):Calls Tryz.prog 12 #[(aCfg c),.slice a len cap] w fun e w'=>e=.returned (.bool true)∧Since w w':=by
 obtain ⟨gb,off,hb⟩:=Ek.rd_addr h.r
 refine entH tab_ok (hold_tb h ht) [.a (sCfg c),.v (.slice a len cap)] Tryz.func12 Tryz.ntmps12 rfl rfl ?_
 cases hl:litB ss len with
 | false =>
  repeat' (first | refine gs_ ?_|((conv=>whnf); first | intro b | refine callH (f:=35) (.b false) (fun w1 hH=>(by have:=lightT (cap:=cap) (Hold.ob hH (A:=stO a len ss) 0 rfl) hlen; rw [hl] at this; exact this)) ?_|refine callH (f:=36) (.b true) (fun w1 hH=>ansTop (Hold.ob hH (A:=tbO) 1 rfl)) ?_|refine fin_s ?_))
  all_goals rfl
 | true =>
  obtain ⟨h3,h2⟩:=lit_of hl hw
  repeat' (first | refine gs_ ?_|((conv=>whnf); first | intro bc | refine bto ?_|refine bfo ?_|refine callH (f:=35) (.b true) (fun w1 hH=>(by have:=lightT (cap:=cap) (Hold.ob hH (A:=stO a len ss) 0 rfl) hlen; rw [hl] at this; exact this)) ?_|refine callN (f:=21) (ι:=Nat×Gp×List Nat) (fun y=>.v (.pointer (some ⟨y.1,0,none⟩))) (fun y=>gsO y.1 c y.2.1 0 (gm0 y.2.1 y.2.2) (gs0 c) true) (fun w1 hH=>newS c w1) (fun y=>?_)|refine fin_s ?_))
  conv=>whnf
  obtain ⟨q1,x1,Sk1⟩:=y
  refine lp ⟨tab_ok⟩ (ι:={v:(Nat×Gm)×Gs // v.1.1≤len∧GI c v.1.1 (sumT ss v.1.1) v.2∧GrI v.2.x.1.G.now v.2.x.1}) (fun v=>match v with | ⟨((k,m),g),_⟩=>⟨[(1,.v (.slice a len cap)),(2,.p 0 0),(5,.v (.pointer (some ⟨q1,0,none⟩))),(6,.i .i64 (k:Int))],[⟨bc,23,true,0,[],(sCfg c),[],true⟩],[stO a len ss,tbO,gsO q1 c x1 (sumT ss k) m g true]⟩) (fun v=>len - v.1.1.1) ⟨((0,gm0 x1 Sk1),gs0 c),Nat.zero_le _,GI.new c,fun l hl=>by cases hl⟩ (wk ?_) ?_
  ·repeat' (first | exact trivial | rfl | ((conv=>whnf); refine And.intro ?_ ?_))
  rintro ⟨⟨⟨k,m⟩,g⟩,hk,hg,hgr⟩
  have hk:k≤len:=hk
  have hg:GI c k (sumT ss k) g:=hg
  have hgr:GrI g.x.1.G.now g.x.1:=hgr
  by_cases hlt:k < len
  ·have hb:=hb (by omega)
   subst hb
   have hW:=hw k hlt
   have hWl:=hW.l
   have hsm:=sumT_at (ss:=ss) hlt
   have hs1:sumT ss (k+1)=sumT ss k+(ss k).n:=rfl
   have hb64:n64 (ss k).b:=n64_of hW.b
   obtain ⟨G',O',R',he1⟩:∃ G' O' R',doV c g (ss k).k (ss k).a (ss k).b (ss k).d=(G',O',R'):=⟨_,_,_,rfl⟩
   have hg1:GI c (k+1) (sumT ss k+(ss k).d.length) G':=by have:=hg.do_ (by omega) (k:=(ss k).k) (a:=(ss k).a) (d:=(ss k).d) (by omega) hb64; rwa [he1] at this
   rw [hWl] at hg1
   have hgr1:GrI G'.x.1.G.now G'.x.1:=by have:=gr_do hgr hg (by omega) (ss k).k (ss k).a (ss k).b (ss k).d; rwa [he1] at this
   have hL:=hg1.j.t.l
   have hlen8:=hg1.len
   have hnow0:=hg1.j.p.k.now.1
   have hnow1:=hg1.j.p.t
   obtain ⟨now,hnw⟩:∃ now,G'.x.1.G.now=now:=⟨_,rfl⟩
   repeat' (first | refine gs_ ?_|((conv=>whnf); first | intro b2 | refine bto ?_|refine bfo ?_|refine wr_i ?_|refine cd (by first | decide | omega) ?_|refine opiv ⟨tab_ok⟩ (by rfl) (by rfl) (by rfl) (by rfl) (by rfl) (by rfl) ⟨by omega,by omega⟩ ?_|refine puiv ⟨tab_ok⟩ (by rfl) (by rfl) (by rfl) (by rfl) (by rfl) (by rfl) ⟨by omega,by omega⟩ ?_|refine opfv ⟨tab_ok⟩ (by rfl) (by rfl) (by rfl) (by rfl) ?_|refine pufv ⟨tab_ok⟩ (by rfl) (by rfl) (by rfl) (by rfl) ?_|refine opix (g:=gb) (off:=off+k*4) [.i .i64 (ss k).k,.i .i64 (ss k).a,.i .i64 (ss k).b,.v (.slice (ss k).A (ss k).n (ss k).c)] (fun w hH=>Ek.rd_rng (StR.r (Hold.ob hH (A:=stO (some ⟨gb,off,none⟩) len ss) 0 rfl)) hlt) ⟨tab_ok⟩ (by rfl) (by rfl) (by first | (simp only [Go.WideShapes.add_plain]; done)|(simp only [Go.WideShapes.add_plain]; rfl)) ?_|refine doX 2 1 (ss k).d (sumT ss (k+1)) he1 hg (by omega) (by omega) (by omega) hW.k (fun w hH=>hz_st hH (i:=0) (j:=2) rfl rfl (by decide) hlt) rfl rfl rfl rfl rfl (by decide) (fun u1=>?_)|refine callH (f:=27) (.v (.pointer (some ⟨x1.q,0,none⟩))) (fun w1 hH=>coreS (Hold.ob hH (A:=gsO q1 c x1 (sumT ss (k+1)) u1.1.1 G' true) 2 rfl)) ?_|refine callN (f:=28) (ι:=NrP w.heap.size G'.x.1.L.length) (fun x=>.v (.slice x.1.2.1 G'.x.1.L.length x.1.2.2)) (fun x=>rwO leaE x.1.1 x.1.2.1 G'.x.1.L.length x.1.2.2 G'.x.1.L true) (fun w1 hH=>toNp (leasesS (Hold.ob hH (A:=gsO q1 c x1 (sumT ss (k+1)) u1.1.1 G' true) 2 rfl) (by omega)) hH.upd.size) (fun ul=>?_)|refine callN (f:=32) (ι:=NrP w.heap.size G'.x.1.G.cars.length) (fun x=>.v (.slice x.1.2.1 G'.x.1.G.cars.length x.1.2.2)) (fun x=>rwO viewE x.1.1 x.1.2.1 G'.x.1.G.cars.length x.1.2.2 (G'.x.1.G.cars.map viewOf) true) (fun w1 hH=>toNp (viewsS (Hold.ob hH (A:=gsO q1 c x1 (sumT ss (k+1)) u1.1.1 G' true) 2 rfl) hlen8) hH.upd.size) (fun uv=>?_)|refine callH (f:=39) (.v (.pointer (some ⟨x1.p.g,0,none⟩))) (fun w1 hH=>groupS (Hold.ob hH (A:=gsO q1 c x1 (sumT ss (k+1)) u1.1.1 G' true) 2 rfl)) ?_|refine callH (f:=40) (.i .i64 now) (fun w1 hH=>(by have:=nowS (Hold.ob hH (A:=gsO q1 c x1 (sumT ss (k+1)) u1.1.1 G' true) 2 rfl); rw [hnw] at this; exact this)) ?_|refine fin_s ?_))
   conv=>whnf
   obtain ⟨⟨l7,A7,c7⟩,hl7,hA7⟩:=ul
   obtain ⟨⟨l8,A8,c8⟩,hl8,hA8⟩:=uv
   have hA7:0 < G'.x.1.L.length→∃ g,A7=some ⟨g,0,none⟩:=hA7
   have hA8:0 < G'.x.1.G.cars.length→∃ g,A8=some ⟨g,0,none⟩:=hA8
   obtain ⟨gv,hgv⟩:=hA8 (by omega)
   subst hgv
   refine lp ⟨tab_ok⟩ (ι:={n:Nat // n≤G'.x.1.L.length}) (fun v=>match v with | ⟨j,_⟩=>⟨[(1,.v (.slice (some ⟨gb,off,none⟩) len cap)),(2,.p 0 0),(5,.v (.pointer (some ⟨q1,0,none⟩))),(6,.i .i64 (k:Int)),(7,.v (.slice A7 G'.x.1.L.length c7)),(8,.v (.slice (some ⟨gv,0,none⟩) G'.x.1.G.cars.length c8)),(9,.i .i64 now),(10,.i .i64 (j:Int))],[⟨bc,23,true,0,[],(sCfg c),[],true⟩],[stO (some ⟨gb,off,none⟩) len ss,tbO,gsO q1 c x1 (sumT ss (k+1)) u1.1.1 G' true,osO u1.1.2.1 u1.1.2.2.1 u1.1.2.2.2,rwO leaE l7 A7 G'.x.1.L.length c7 G'.x.1.L true,rwO viewE l8 (some ⟨gv,0,none⟩) G'.x.1.G.cars.length c8 (G'.x.1.G.cars.map viewOf) true]⟩) (fun v=>G'.x.1.L.length - v.1) ⟨0,Nat.zero_le _⟩ (wkd ?_) ?_
   ·repeat' (first | exact trivial | rfl | ((conv=>whnf); refine And.intro ?_ ?_))
   rintro ⟨j,hj⟩
   have hj:j≤G'.x.1.L.length:=hj
   by_cases hlt3:j < G'.x.1.L.length
   ·obtain ⟨l,hl⟩:∃ l,G'.x.1.L[j]?=some l:=⟨_,List.getElem?_eq_getElem hlt3⟩
    obtain ⟨gl,hgl⟩:=hA7 (by omega)
    subst hgl
    have hlm:=List.mem_of_getElem? hl
    have HL:=hg1.j.p.e l hlm
    have hbd:=HL.bound
    have hgr2:=hgr1 l hlm
    have hgr3:=HL.gr
    rw [hnw] at hbd hgr2 hnow0 hnow1
    repeat' (first | refine gq_ ?_|((conv=>whnf); first | intro b | refine drA ⟨tab_ok⟩ [5,15,23] ?_|refine And.intro ?_ ?_|refine bto ?_|refine bfo ?_|refine wr_i ?_|refine opiv ⟨tab_ok⟩ (by rfl) (by rfl) (by rfl) (by rfl) (by rfl) (by rfl) ⟨by omega,by omega⟩ ?_|refine puiv ⟨tab_ok⟩ (by rfl) (by rfl) (by rfl) (by rfl) (by rfl) (by rfl) ⟨by omega,by omega⟩ ?_|refine opfv ⟨tab_ok⟩ (by rfl) (by rfl) (by rfl) (by rfl) ?_|refine pufv ⟨tab_ok⟩ (by rfl) (by rfl) (by rfl) (by rfl) ?_|refine opxc (g:=gl) (off:=0+j*10+5) (.i .i64 l.ca) (fun w hH=>rng_at (Ek.rng (Hold.ob hH (A:=rwO leaE l7 (some ⟨gl,0,none⟩) G'.x.1.L.length c7 G'.x.1.L true) 4 rfl) hl) rfl) ⟨tab_ok⟩ (by rfl) (by rfl) (by first | (simp only [Go.WideShapes.add_plain]; done)|(simp only [Go.WideShapes.add_plain]; rfl)) ?_|refine opxc (g:=gl) (off:=0+j*10+9) (.i .i64 l.gr) (fun w hH=>rng_at (Ek.rng (Hold.ob hH (A:=rwO leaE l7 (some ⟨gl,0,none⟩) G'.x.1.L.length c7 G'.x.1.L true) 4 rfl) hl) rfl) ⟨tab_ok⟩ (by rfl) (by rfl) (by first | (simp only [Go.WideShapes.add_plain]; done)|(simp only [Go.WideShapes.add_plain]; rfl)) ?_|refine callS (f:=41) (.i .i64 (boundV c)) (boundT c) ?_|refine En.back ⟨j+1,by show j+1≤_; omega⟩ (wkd ?_) ?_|refine fin_s ?_))
    all_goals first | (show G'.x.1.L.length - (j+1) < G'.x.1.L.length - j; omega)|skip
    all_goals (repeat' (first | exact trivial | rfl | ((conv=>whnf); refine And.intro ?_ ?_)))
   ·repeat' (first | refine gs_ ?_|((conv=>whnf); first | intro b | refine bto ?_|refine bfo ?_|refine fin_s ?_))
    refine lp ⟨tab_ok⟩ (ι:={n:Nat // n≤G'.x.1.G.cars.length}) (fun v=>match v with | ⟨n,_⟩=>⟨[(1,.v (.slice (some ⟨gb,off,none⟩) len cap)),(2,.p 0 0),(5,.v (.pointer (some ⟨q1,0,none⟩))),(6,.i .i64 (k:Int)),(7,.v (.slice A7 G'.x.1.L.length c7)),(8,.v (.slice (some ⟨gv,0,none⟩) G'.x.1.G.cars.length c8)),(11,.i .i64 (n:Int))],[⟨bc,23,true,0,[],(sCfg c),[],true⟩],[stO (some ⟨gb,off,none⟩) len ss,tbO,gsO q1 c x1 (sumT ss (k+1)) u1.1.1 G' true,osO u1.1.2.1 u1.1.2.2.1 u1.1.2.2.2,rwO leaE l7 A7 G'.x.1.L.length c7 G'.x.1.L true,rwO viewE l8 (some ⟨gv,0,none⟩) G'.x.1.G.cars.length c8 (G'.x.1.G.cars.map viewOf) true]⟩) (fun v=>G'.x.1.G.cars.length - v.1) ⟨0,Nat.zero_le _⟩ (wkd ?_) ?_
    ·repeat' (first | exact trivial | rfl | ((conv=>whnf); refine And.intro ?_ ?_))
    rintro ⟨n,hn⟩
    have hn:n≤G'.x.1.G.cars.length:=hn
    by_cases hlt4:n < G'.x.1.G.cars.length
    ·obtain ⟨x,hx⟩:∃ x,G'.x.1.G.cars[n]?=some x:=⟨_,List.getElem?_eq_getElem hlt4⟩
     have hv:(G'.x.1.G.cars.map viewOf)[n]?=some (viewOf x):=by rw [List.getElem?_map,hx]; rfl
     repeat' (first | refine gs_ ?_|((conv=>whnf); first | intro b | refine bto ?_|refine bfo ?_|refine fin_s ?_))
     refine lp ⟨tab_ok⟩ (ι:={v:Nat×Bool // v.1≤G'.x.1.L.length∧v.2=hasB G'.x.1.L v.1 n}) (fun v=>match v with | ⟨(j,t),_⟩=>⟨[(1,.v (.slice (some ⟨gb,off,none⟩) len cap)),(2,.p 0 0),(5,.v (.pointer (some ⟨q1,0,none⟩))),(6,.i .i64 (k:Int)),(7,.v (.slice A7 G'.x.1.L.length c7)),(8,.v (.slice (some ⟨gv,0,none⟩) G'.x.1.G.cars.length c8)),(11,.i .i64 (n:Int)),(12,.b t),(13,.i .i64 (j:Int))],[⟨bc,23,true,0,[],(sCfg c),[],true⟩],[stO (some ⟨gb,off,none⟩) len ss,tbO,gsO q1 c x1 (sumT ss (k+1)) u1.1.1 G' true,osO u1.1.2.1 u1.1.2.2.1 u1.1.2.2.2,rwO leaE l7 A7 G'.x.1.L.length c7 G'.x.1.L true,rwO viewE l8 (some ⟨gv,0,none⟩) G'.x.1.G.cars.length c8 (G'.x.1.G.cars.map viewOf) true]⟩) (fun v=>G'.x.1.L.length - v.1.1) ⟨(0,false),Nat.zero_le _,rfl⟩ (wkd ?_) ?_
     ·repeat' (first | exact trivial | rfl | ((conv=>whnf); refine And.intro ?_ ?_))
     rintro ⟨⟨j,t⟩,hj,ht2⟩
     have hj:j≤G'.x.1.L.length:=hj
     have ht2:t=hasB G'.x.1.L j n:=ht2
     by_cases hlt5:j < G'.x.1.L.length
     ·obtain ⟨l,hl⟩:∃ l,G'.x.1.L[j]?=some l:=⟨_,List.getElem?_eq_getElem hlt5⟩
      obtain ⟨gl,hgl⟩:=hA7 (by omega)
      subst hgl
      have hsu:=hasB_succ (n:=n) hl
      rw [← ht2] at hsu
      cases t with
      | true =>
       repeat' (first | refine gs_ ?_|((conv=>whnf); first | intro b | refine bto ?_|refine bfo ?_|refine wr_i ?_|refine opiv ⟨tab_ok⟩ (by rfl) (by rfl) (by rfl) (by rfl) (by rfl) (by rfl) ⟨by omega,by omega⟩ ?_|refine puiv ⟨tab_ok⟩ (by rfl) (by rfl) (by rfl) (by rfl) (by rfl) (by rfl) ⟨by omega,by omega⟩ ?_|refine opfv ⟨tab_ok⟩ (by rfl) (by rfl) (by rfl) (by rfl) ?_|refine pufv ⟨tab_ok⟩ (by rfl) (by rfl) (by rfl) (by rfl) ?_|refine opxc (g:=gl) (off:=0+j*10+5) (.i .i64 l.ca) (fun w hH=>rng_at (Ek.rng (Hold.ob hH (A:=rwO leaE l7 (some ⟨gl,0,none⟩) G'.x.1.L.length c7 G'.x.1.L true) 4 rfl) hl) rfl) ⟨tab_ok⟩ (by rfl) (by rfl) (by first | (simp only [Go.WideShapes.add_plain]; done)|(simp only [Go.WideShapes.add_plain]; rfl)) ?_|refine opxc (g:=gl) (off:=0+j*10+9) (.i .i64 l.gr) (fun w hH=>rng_at (Ek.rng (Hold.ob hH (A:=rwO leaE l7 (some ⟨gl,0,none⟩) G'.x.1.L.length c7 G'.x.1.L true) 4 rfl) hl) rfl) ⟨tab_ok⟩ (by rfl) (by rfl) (by first | (simp only [Go.WideShapes.add_plain]; done)|(simp only [Go.WideShapes.add_plain]; rfl)) ?_|refine En.back ⟨(j+1,true),by show j+1≤_; omega,hsu.symm⟩ (wkd ?_) ?_|refine fin_s ?_))
       all_goals first | (show G'.x.1.L.length - (j+1) < G'.x.1.L.length - j; omega)|skip
       all_goals (repeat' (first | exact trivial | rfl | ((conv=>whnf); refine And.intro ?_ ?_)))
      | false =>
       repeat' (first | refine gs_ ?_|((conv=>whnf); first | intro b | refine bto ?_|refine bfo ?_|refine wr_i ?_|refine opiv ⟨tab_ok⟩ (by rfl) (by rfl) (by rfl) (by rfl) (by rfl) (by rfl) ⟨by omega,by omega⟩ ?_|refine puiv ⟨tab_ok⟩ (by rfl) (by rfl) (by rfl) (by rfl) (by rfl) (by rfl) ⟨by omega,by omega⟩ ?_|refine opfv ⟨tab_ok⟩ (by rfl) (by rfl) (by rfl) (by rfl) ?_|refine pufv ⟨tab_ok⟩ (by rfl) (by rfl) (by rfl) (by rfl) ?_|refine opxc (g:=gl) (off:=0+j*10+5) (.i .i64 l.ca) (fun w hH=>rng_at (Ek.rng (Hold.ob hH (A:=rwO leaE l7 (some ⟨gl,0,none⟩) G'.x.1.L.length c7 G'.x.1.L true) 4 rfl) hl) rfl) ⟨tab_ok⟩ (by rfl) (by rfl) (by first | (simp only [Go.WideShapes.add_plain]; done)|(simp only [Go.WideShapes.add_plain]; rfl)) ?_|refine opxc (g:=gl) (off:=0+j*10+9) (.i .i64 l.gr) (fun w hH=>rng_at (Ek.rng (Hold.ob hH (A:=rwO leaE l7 (some ⟨gl,0,none⟩) G'.x.1.L.length c7 G'.x.1.L true) 4 rfl) hl) rfl) ⟨tab_ok⟩ (by rfl) (by rfl) (by first | (simp only [Go.WideShapes.add_plain]; done)|(simp only [Go.WideShapes.add_plain]; rfl)) ?_|refine En.back ⟨(j+1,l.ca == (n:Int)),by show j+1≤_; omega,hsu.symm⟩ (wkd ?_) ?_|refine fin_s ?_))
       all_goals first | (show G'.x.1.L.length - (j+1) < G'.x.1.L.length - j; omega)|skip
       all_goals (repeat' (first | exact trivial | rfl | ((conv=>whnf); refine And.intro ?_ ?_)))
     ·obtain rfl:j=G'.x.1.L.length:=by omega
      cases t with
      | true =>
       repeat' (first | refine gs_ ?_|((conv=>whnf); first | intro b | refine bto ?_|refine bfo ?_|refine wr_i ?_|refine opiv ⟨tab_ok⟩ (by rfl) (by rfl) (by rfl) (by rfl) (by rfl) (by rfl) ⟨by omega,by omega⟩ ?_|refine puiv ⟨tab_ok⟩ (by rfl) (by rfl) (by rfl) (by rfl) (by rfl) (by rfl) ⟨by omega,by omega⟩ ?_|refine opfv ⟨tab_ok⟩ (by rfl) (by rfl) (by rfl) (by rfl) ?_|refine pufv ⟨tab_ok⟩ (by rfl) (by rfl) (by rfl) (by rfl) ?_|refine En.back ⟨n+1,by show n+1≤_; omega⟩ (wkd ?_) ?_|refine fin_s ?_))
       all_goals first | (show G'.x.1.G.cars.length - (n+1) < G'.x.1.G.cars.length - n; omega)|skip
       all_goals (repeat' (first | exact trivial | rfl | ((conv=>whnf); refine And.intro ?_ ?_)))
      | false =>
       have hne:(viewOf x).mo≠1:=by
        show (if x.br=true then 2 else x.mo)≠1
        split
        ·decide
        ·intro hm
         obtain ⟨l,hl,hl2⟩:=hg1.j.ci.b n x hx hm
         unfold hasB at ht2
         rw [List.take_length] at ht2
         have:=List.any_eq_false.1 ht2.symm l hl
         exact this (beq_iff_eq.2 hl2)
       repeat' (first | refine gs_ ?_|((conv=>whnf); first | intro b | refine bto ?_|refine bfo ?_|refine wr_i ?_|refine br_f (beq_eq_false_iff_ne.2 hne) ?_|refine opiv ⟨tab_ok⟩ (by rfl) (by rfl) (by rfl) (by rfl) (by rfl) (by rfl) ⟨by omega,by omega⟩ ?_|refine puiv ⟨tab_ok⟩ (by rfl) (by rfl) (by rfl) (by rfl) (by rfl) (by rfl) ⟨by omega,by omega⟩ ?_|refine opfv ⟨tab_ok⟩ (by rfl) (by rfl) (by rfl) (by rfl) ?_|refine pufv ⟨tab_ok⟩ (by rfl) (by rfl) (by rfl) (by rfl) ?_|refine opxc (g:=gv) (off:=0+n*5+2) (.i .i64 (viewOf x).mo) (fun w hH=>rng_at (Ek.rng (Hold.ob hH (A:=rwO viewE l8 (some ⟨gv,0,none⟩) G'.x.1.G.cars.length c8 (G'.x.1.G.cars.map viewOf) true) 5 rfl) hv) rfl) ⟨tab_ok⟩ (by rfl) (by rfl) (by first | (simp only [Go.WideShapes.add_plain]; done)|(simp only [Go.WideShapes.add_plain]; rfl)) ?_|refine En.back ⟨n+1,by show n+1≤_; omega⟩ (wkd ?_) ?_|refine fin_s ?_))
       all_goals first | (show G'.x.1.G.cars.length - (n+1) < G'.x.1.G.cars.length - n; omega)|skip
       all_goals (repeat' (first | exact trivial | rfl | ((conv=>whnf); refine And.intro ?_ ?_)))
    ·repeat' (first | refine gs_ ?_|((conv=>whnf); first | intro b | refine bto ?_|refine bfo ?_|refine wr_i ?_|refine En.back ⟨((k+1,u1.1.1),G'),by show k+1≤len; omega,hg1,hgr1⟩ (wkd ?_) ?_|refine fin_s ?_))
     all_goals first | (show len - (k+1) < len - k; omega)|skip
     all_goals (repeat' (first | exact trivial | rfl | ((conv=>whnf); refine And.intro ?_ ?_)))
  ·repeat' (first | refine gs_ ?_|((conv=>whnf); first | intro b | refine bto ?_|refine bfo ?_|refine callH (f:=36) (.b true) (fun w1 hH=>ansTop (Hold.ob hH (A:=tbO) 1 rfl)) ?_|refine fin_s ?_))
   all_goals rfl
theorem wendL {H:Type} {enc:TypeId×Value→H} {x:DataW H×List MemPlace} (c:CfgV) {a:Option Addr} {len cap:Nat} {w:World} (ht:Lib.TabIs Tryz.prog w "internal/strconv.uint64pow10" .u64 Lib.pow10Tab) (hx:∃ m,DataW.trod enc Tryz.prog w 0 (fun _=>true) true m 24 (Value.cells (.slice a len cap)).toList=some x) (hU:∀ u∈x.1.weights Tryz.prog 24,u≤reachBytes):Calls Tryz.prog 12 #[(aCfg c),.slice a len cap] w fun e w'=>e=.returned (.bool true)∧Since w w':=by
 obtain ⟨ss,h1,h2,h3⟩:=steps_in hx hU
 exact wendF c h1 h2 h3 ht
end Gw
end Go.Proofs.YtepfmfalebmcnaaGreatDoor
