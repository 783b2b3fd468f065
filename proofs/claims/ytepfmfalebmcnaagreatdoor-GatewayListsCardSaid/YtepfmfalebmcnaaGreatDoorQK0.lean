/-
  Wanted: GatewayLists 0.
  No condition.
-/
import Derived.Test.YtepfmfalebmcnaaGreatDoorQH14
import Derived.Test.YtepfmfalebmcnaaGreatDoorQH16
import Derived.Test.YtepfmfalebmcnaaGreatDoorQH15
set_option linter.all false
namespace Go.Proofs.YtepfmfalebmcnaaGreatDoor
namespace Gw
open Go.RowKit Ba Mem En Go.Proofs.YtepfmfalebmcnaaGreatDoor.Ty
open Byt (BV isB)
open Co (Hold.ob)
set_option maxRecDepth 100000
attribute [local irreducible] Go.Calls
theorem light22 {a:Option Addr} {len cap:Nat} {ss:Nat→StepD} {w:World} (h:StR a len ss w) (hlen:len≤9223372036854775807):Calls Tryz.prog 16 #[.slice a len cap] w fun e w'=>e=.returned (.bool (litB ss len))∧Since w w':=by
 obtain ⟨gb,off,hb⟩:=Ek.rd_addr h.r
 refine entH tab_ok (hold_st h) [.v (.slice a len cap)] Tryz.func16 Tryz.ntmps16 rfl rfl ?_
 repeat' (first | refine gs_ ?_|((conv=>whnf); first | intro b | refine fin_s ?_))
 conv=>whnf
 refine lp ⟨tab_ok⟩ (ι:={k:Nat // k≤len}) (fun x=>match x with | ⟨k,_⟩=>⟨[(0,.v (.slice a len cap)),(3,.i .i64 (sumW ss k)),(4,.i .i64 (k:Int))],[],[stO a len ss]⟩) (fun k=>len - k.1) ⟨0,Nat.zero_le _⟩ (wk ?_) ?_
 ·repeat' (first | exact trivial | rfl | ((conv=>whnf); refine And.intro ?_ ?_))
 rintro ⟨k,hk⟩
 by_cases hlt:k < len
 ·have hb:=hb (by omega)
  subst hb
  repeat' (first | refine gs_ ?_|((conv=>whnf); first | intro b | refine bto ?_|refine bfo ?_|refine wr_i ?_|refine wr_lit ?_|refine iv_ ?_|refine ui_ ?_|refine fv_ ?_|refine uf_ ?_|refine opxc (g:=gb) (off:=off+k*4+3) (.v (.slice (ss k).A (ss k).n (ss k).c)) (fun w hH=>rng_at (Ek.rd_rng (StR.r (Hold.ob hH (A:=stO (some ⟨gb,off,none⟩) len ss) 0 rfl)) hlt) rfl) ⟨tab_ok⟩ (by rfl) (by rfl) (by simp only [Go.WideShapes.add_plain]; rfl) ?_|refine En.back ⟨k+1,by omega⟩ (wk ?_) ?_|refine fin_s ?_))
  all_goals first | (show len - (k+1) < len - k; omega)|skip
  all_goals (repeat' (first | exact trivial | rfl | ((conv=>whnf); refine And.intro ?_ ?_)))
 ·obtain rfl:k=len:=by omega
  repeat' (first | refine gs_ ?_|((conv=>whnf); first | intro b | refine bto ?_|refine bfo ?_|refine b3_ (fun h=>?_) (fun h=>?_)|refine fin_s ?_))
  all_goals (simp [den,litB, *])
end Gw
namespace Gw
open Go.RowKit Ba Mem En Go.Proofs.YtepfmfalebmcnaaGreatDoor.Ty
open Fm (frames)
open Byt (BV isB)
open Co (KV newK Hold.ob)
set_option maxRecDepth 100000
attribute [local irreducible] Go.Calls
section
variable {X:Cx} {s:St}
theorem doX {K:SV→St→Prop} {f:FuncId} {vs:List SV} (i j:Nat) {gq B:Nat} {c:CfgV} {x:Gp} {m:Gm} {g:Gs} {k a b:Int} {dA:Option Addr} {dn dc:Nat} (d:List Int) (B':Nat) {i0:Nat} {g':Gs} {o':List (Int×List Int)} {r:Int} (he:doV c g k a b d=(g',o',r)) (hg:GI c i0 B g) (hi:i0 < 10000) (hB:B+d.length≤60000) (hB2:B+d.length≤B')
  (hk:(Lit.int .i64 k).wf=true) (hz:∀ w,Hold X s.m s.ob w→BV w dA dn d∧∀ y∈rdF dA dn,y∉gmF gq x m)
  (hf:f=24) (hP:X.P=Tryz.prog) (hA:s.ob[i]?=some (gsO gq c x B m g true)) (hT:s.ob[j]?=some tbO) (hv:denL s.m vs=[.pointer (some ⟨gq,0,none⟩),.agg #[.int .i64 k,.int .i64 a,.int .i64 b,.slice dA dn dc]]) (hij:j≠i)
  (h:∀ y:DoI o',setO i (gsO gq c x B' y.1.1 g' true) s.ob fun ob=>appO ob (osO y.1.2.1 y.1.2.2.1 y.1.2.2.2) fun ob=>K (.t [.v (.slice y.1.2.1 o'.length y.1.2.2.1),.i .i64 r]) ⟨s.fr,s.m,ob⟩)
  (hen:entChk X.P f=true:=by kernel_rfl):CallVC X f vs s K:=by
 refine callON i (A:=gsO gq c x B m g true) (fun y:DoI o'=>.t [.v (.slice y.1.2.1 o'.length y.1.2.2.1),.i .i64 r]) (fun y=>gsO gq c x B' y.1.1 g' true) (fun y=>osO y.1.2.1 y.1.2.2.1 y.1.2.2.2) (fun w hH hA1=>?_) h hA rfl hen (fun _=>rfl)
 subst hf
 rw [hP,hv]
 obtain ⟨z1,z2⟩:=hz w hH
 have hTb:=hH.obj _ (List.mem_of_getElem? hT)
 have hdis:∀ y∈gmF gq x m,y∉tbO.F:=pair_at (R:=DisR) (fun _ _ h=>h.symm) hH.dis hA hT (Ne.symm hij) (.inl rfl)
 refine (doD (k:=k) (a:=a) (b:=b) (dc:=dc) hA1 hg hi hB z1 z2 hTb (tb_far (A:=gsO gq c x B m g true) hdis) hk).mono ?_
 rintro e w' hq
 unfold DoQ at hq
 rw [he] at hq
 obtain ⟨y,h1,h2,h3,h4,h5,h6⟩:=hq
 refine ⟨⟨y.1,y.2,fun h0=>?_⟩,h1,h2.more hB2,h3,h4,h5,h6⟩
 obtain ⟨q,hq⟩:=Ek.addr h3.r
 have e:y.1.2.2.2.length=o'.length:=(List.length_map ..).symm.trans (congrArg List.length y.2)
 exact ⟨q,hq (by omega)⟩
end
end Gw
namespace Gw
open Go.RowKit Ba Mem En Go.Proofs.YtepfmfalebmcnaaGreatDoor.Ty Mg
open Fm (frm)
open Co (Hold.ob)
set_option maxRecDepth 100000
attribute [local irreducible] Go.Calls
def cfg0:CfgV:=⟨2,5,2,4,2,3,9,1,30,2,1,300,5,2,8,4,60,8⟩
def cfgA (c:CfgV):Value:=(aCfg c)
theorem configT (w:World):Calls Tryz.prog 46 #[] w fun e w'=>e=.returned (cfgA cfg0)∧Since w w':=by
 refine ent tab_ok [] Tryz.func46 Tryz.ntmps46 rfl rfl ?_
 repeat' (first | refine gs_ ?_|((conv=>whnf); first | intro b | refine fin_s ?_))
 all_goals rfl
theorem helloT (n:Int) (h0:mayB (helP n 7)=true) (w:World):Calls Tryz.prog 47 #[.int .i64 n] w fun e w'=>∃ x:Option Addr×Nat,e=.returned (.slice x.1 27 x.2)∧byteE.At w.heap.size x.1 27 x.2 (frm (bytesOf (helP n 7))) w'∧Since w w':=by
 have hbo:=bytes_b (helP n 7) rfl
 refine ent tab_ok [.i .i64 n] Tryz.func47 Tryz.ntmps47 rfl rfl ?_
 repeat' (first | refine gs_ ?_|((conv=>whnf); first | intro b | refine callN (f:=20) (ι:=Option Addr×Nat) (fun x=>.v (.slice x.1 21 x.2)) (fun x=>rwO byteE w.heap.size x.1 21 x.2 (bytesOf (helP n 7)) true) (fun w1 hH=>(bytesH (helP n 7) h0 rfl w1).mono (by rintro e w' ⟨x,rfl,h1,h2⟩; rw [← hbo] at h1; exact ⟨x,rfl,Ek.base h1 hH.upd.size,h2,Ek.lows h1⟩)) (fun x=>?_)|refine callN (f:=19) (ι:=Option Addr×Nat) (fun y=>.v (.slice y.1 27 y.2)) (fun y=>rwO byteE w.heap.size y.1 27 y.2 (frm (bytesOf (helP n 7))) true) (fun w1 hH=>(frmE x.1 x.2 (bytesOf (helP n 7)) 21 27 w1 (Hold.ob hH (A:=rwO byteE w.heap.size x.1 21 x.2 (bytesOf (helP n 7)) true) 0 rfl) (bytes_isB _) (by omega) (by rw [Fm.frm_length,hbo]; rfl)).mono (by rintro e w' ⟨y,rfl,h1,h2⟩; exact ⟨y,rfl,Ek.base h1 hH.upd.size,h2,Ek.lows h1⟩)) (fun y=>?_)|refine fin fun w' hH=>⟨y,rfl,Hold.ob hH (A:=rwO byteE w.heap.size y.1 27 y.2 (frm (bytesOf (helP n 7))) true) 1 rfl,hH.upd.since⟩|refine fin_s ?_))
end Gw
namespace Gw
open Go.RowKit Ba Mem En Go.Proofs.YtepfmfalebmcnaaGreatDoor.Ty Mg
open Fm (frm frames)
open Co (newK)
set_option maxRecDepth 100000
def hel3:List Int:=frm (bytesOf (helP 3 7))
def wan3:PktV:=⟨3,1,0,0,true,2,1,0,0⟩
def an1:Kv×Int:=runL cfg0 ((newK cfg0,fun _=>none),0) [bytesOf (helP 3 7)]
def an2:Ko:=tickG an1.1
theorem hel3_f:frames hel3=([bytesOf (helP 3 7)],[]):=by kernel_rfl
theorem an1_ep:an1.2=1:=by kernel_rfl
theorem an2_out:an2.2=[(3,frm (bytesOf wan3))]:=by kernel_rfl
theorem an2_ep:epochV an2.1.2 3=1:=by kernel_rfl
theorem an2_len:an2.1.1.G.cars.length=2:=by kernel_rfl
theorem hel3_may:mayB (helP 3 7)=true:=by kernel_rfl
theorem wan3_may:mayB wan3=true:=by kernel_rfl
end Gw
namespace Gw
open Go.RowKit Ba Mem En Go.Proofs.YtepfmfalebmcnaaGreatDoor.Ty Mg
open Fm (frm frames)
open Byt (BV)
open Co (newK Hold.ob KV)
set_option maxRecDepth 100000
attribute [local irreducible] Go.Calls
section
variable {gq M N:Nat} {c:CfgV} {x:Gp} {ep sa sb:Int} {K:KV} {xs:List Int} {Sk Ss:List Nat} {D:Fam} {w:World} {dA:Option Addr} {dn dc:Nat}
theorem hel3_len:hel3.length=27:=by kernel_rfl
theorem bytes0 (h:GWt gq cfg0 x 0 0 (newK cfg0) 0 [] Sk (fun _=>none) Ss w) (hz:BV w dA 27 hel3) (hz1:∀ g∈rdF dA 27,g∉gwF gq x Sk (fun _=>none) Ss) :
  Calls Tryz.prog 24 #[.pointer (some ⟨gq,0,none⟩),.agg #[.int .i64 2,.int .i64 sa,.int .i64 sb,.slice dA 27 dc]] w fun e w'=>∃ y:{y:List Nat×Fam×List Nat // vals y.2.1=an1.1.2},e=.returned (.tuple #[.slice none 0 0,.int .i64 0])∧GWt gq cfg0 x 27 27 an1.1.1 1 [] y.1.1 y.1.2.1 y.1.2.2 w'∧Upd (gwF gq x Sk (fun _=>none) Ss) w w'∧∀ g∈gwF gq x y.1.1 y.1.2.1 y.1.2.2,g∈gwF gq x Sk (fun _=>none) Ss∨w.heap.size≤g:=by
 have e0:frames ([]++hel3)=([bytesOf (helP 3 7)],[]):=hel3_f
 have e1:runL cfg0 ((newK cfg0,vals fun _=>none),0) (frames ([]++hel3)).1=an1:=by rw [e0]; rfl
 have e2:([]++hel3).length=27:=hel3_len
 refine (bytesD h hz hz1 (JI.new cfg0) (by decide) (by rw [e2]; decide) (by decide)).mono ?_
 rintro e w' ⟨⟨y,hy⟩,rfl,h1,h2,h3⟩
 simp only [e1] at hy h1
 rw [e2,e0,an1_ep] at h1
 exact ⟨⟨y,hy⟩,rfl,h1,h2,h3⟩
theorem tick0 (h:GWt gq cfg0 x 27 27 an1.1.1 1 [] Sk D Ss w) (hv:vals D=an1.1.2) :
  Calls Tryz.prog 24 #[.pointer (some ⟨gq,0,none⟩),.agg #[.int .i64 1,.int .i64 sa,.int .i64 sb,.slice dA dn dc]] w fun e w'=>∃ y:{y:List Nat×Fam×(Nat×Nat)×(Option Addr×Nat) // vals y.2.1=an2.1.2},e=.returned (.tuple #[.slice (some ⟨y.1.2.2.1.1,0,none⟩) 1 y.1.2.2.1.2,.int .i64 0])∧GWt gq cfg0 x 27 27 an2.1.1 1 [] y.1.1 y.1.2.1 Ss w'∧(rwO outE w.heap.size (some ⟨y.1.2.2.1.1,0,none⟩) 1 y.1.2.2.1.2 [⟨3,y.1.2.2.2.1,y.1.2.2.2.2,frm (bytesOf wan3)⟩] true).st w'∧(daO w.heap.size [⟨3,y.1.2.2.2.1,y.1.2.2.2.2,frm (bytesOf wan3)⟩] true).st w'∧Upd (gwF gq x Sk D Ss) w w'∧(∀ g∈gwF gq x y.1.1 y.1.2.1 Ss,g∈gwF gq x Sk D Ss∨w.heap.size≤g)∧(∀ g∈[y.1.2.2.1.1],w.heap.size≤g∧g∉gwF gq x y.1.1 y.1.2.1 Ss)∧(∀ g∈datF [⟨3,y.1.2.2.2.1,y.1.2.2.2.2,frm (bytesOf wan3)⟩],w.heap.size≤g∧g∉gwF gq x y.1.1 y.1.2.1 Ss)∧∀ g∈[y.1.2.2.1.1],g∉datF [⟨3,y.1.2.2.2.1,y.1.2.2.2.2,frm (bytesOf wan3)⟩]:=by
 have hj:JI cfg0 0 0 (an1.1.1,vals D):=by rw [hv]; exact JI.run (by decide) _ (JI.new cfg0)
 have e1:tickG (an1.1.1,vals D)=an2:=by rw [hv]; rfl
 refine (tickD h hj (by decide) (by decide) (by decide)).mono ?_
 rintro e w' ⟨⟨S',D',A,cp,os⟩,rfl,h1,h2,h3,h4,h5,h6,h7,h8,h9,h10⟩
 rw [e1] at h1 h9 h10
 rw [an2_out] at h10
 obtain ⟨A1,c1,rfl⟩:=outs_one h10
 obtain ⟨g,hg⟩:=Ek.addr h2
 have hg:=hg (Nat.zero_lt_one)
 dsimp only at hg
 subst hg
 exact ⟨⟨(S',D',(g,cp),(A1,c1)),h9⟩,rfl,h1,h2,h3,h4,h5,h6,h7,h8⟩
end
end Gw
namespace Gw
open Go.RowKit Ba Mem En Go.Proofs.YtepfmfalebmcnaaGreatDoor.Ty
open Fm (frames)
open Byt (BV isB)
open Co (KV newK Hold.ob)
set_option maxRecDepth 100000
attribute [local irreducible] Go.Calls
section
variable {X:Cx} {m:List Row} {ob:List Asr} {w:World}
end
section
variable {gq B:Nat} {c:CfgV} {x:Gp} {m:Gm} {g:Gs} {w:World}
theorem viewsS (h:GSt gq c x B m g w) (h1:1≤g.x.1.G.cars.length∧g.x.1.G.cars.length≤8):Calls Tryz.prog 32 #[.pointer (some ⟨gq,0,none⟩)] w fun e w'=>∃ A' c',e=.returned (.slice A' g.x.1.G.cars.length c')∧viewE.At w.heap.size A' g.x.1.G.cars.length c' (g.x.1.G.cars.map viewOf) w'∧Since w w':=viewsT h.t.b h.t.k h.t.g1 (by omega) (by omega)
end
end Gw
namespace Gw
open Go.RowKit Ba Mem En Go.Proofs.YtepfmfalebmcnaaGreatDoor.Ty Mg
open Fm (frm frames)
open Byt (BV)
open Co (newK Hold.ob KV)
set_option maxRecDepth 100000
attribute [local irreducible] Go.Calls
theorem opcs {X:Cx} {s:St} {o:Oper} {K:St→Prop} {t d:TypeId} {x:Operand} {A:Option Addr} {n c:Nat} {zs:List Int} (ho:o.op=.convert t d x) (hx:evO x s.fr=some (.v (.slice A n c))) (hz:∀ w,Hold X s.m s.ob w→BV w A n zs) (h1:X.P.underlying t=some (.slice 5)) (h2:X.P.underlying 5=some (.int .u8)) (h3:X.P.underlying d=some .string) (h:put X.n o.dst (.v (.string (strOfNums zs))) s K):OpVC X o s K :=
 opq (.v (.string (strOfNums zs))) (fun a w hf hH=>exec_str t 5 d x (hz w hH) ho (by rw [(evO_of hf hx).2]; rfl) h1 h2 h3) h rfl
theorem frm_isB (p:PktV) (hl:(bytesOf p).length≤255):∀ z∈frm (bytesOf p),Byt.isB z:=Fm.frm_isB (bytes_isB p)
theorem wan3_len:(frm (bytesOf wan3)).length=27:=by kernel_rfl
theorem rng_k {w:World} {g off k:Nat} {cs:List Value} {v:Value} (h:w.rangeAt g off cs) (hk:cs[k]?=some v):w.rangeAt g (off+k) [v]:=fun j u hj=>by
 cases j with
 | zero =>
  simp at hj; subst hj
  simpa using h k _ hk
 | succ j=>simp at hj
set_option maxHeartbeats 4000000 in
theorem answersT (w:World):Calls Tryz.prog 18 #[] w fun e w'=>e=.returned (.bool true)∧Since w w':=by
 refine ent tab_ok [] Tryz.func18 Tryz.ntmps18 rfl rfl ?_
 repeat' (first | refine gq_ ?_|((conv=>whnf); first | refine callH (f:=46) (.a [.i .i64 2,.i .i64 5,.i .i64 2,.i .i64 4,.i .i64 2,.i .i64 3,.i .i64 9,.i .i64 1,.i .i64 30,.i .i64 2,.i .i64 1,.i .i64 300,.i .i64 5,.i .i64 2,.i .i64 8,.i .i64 4,.i .i64 60,.i .i64 8]) (fun w1 hH=>configT w1) ?_|refine callN (f:=21) (ι:=Nat×Gp×List Nat) (fun y=>.v (.pointer (some ⟨y.1,0,none⟩))) (fun y=>gwO y.1 cfg0 y.2.1 0 0 (newK cfg0) 0 [] y.2.2 (fun _=>none) [y.2.1.s] true) (fun w1 hH=>newX cfg0 w1) (fun y=>?_)|refine callN (f:=47) (ι:=Option Addr×Nat) (fun z=>.v (.slice z.1 27 z.2)) (fun z=>rwO byteE w.heap.size z.1 27 z.2 hel3 true) (fun w1 hH=>(helloT 3 hel3_may w1).mono (by rintro e w' ⟨z,rfl,h1,h2⟩; exact ⟨z,rfl,Ek.base h1 hH.upd.size,h2,Ek.lows h1⟩)) (fun z=>?_)|refine callO (f:=24) (A:=gwO y.1 cfg0 y.2.1 0 0 (newK cfg0) 0 [] y.2.2 (fun _=>none) [y.2.1.s] true) 0 (fun _:{u:List Nat×Fam×List Nat // vals u.2.1=an1.1.2}=>.t [.v (.slice none 0 0),.i .i64 0]) (fun u=>gwO y.1 cfg0 y.2.1 27 27 an1.1.1 1 [] u.1.1 u.1.2.1 u.1.2.2 true) (fun w1 hH hA=>bytes0 hA (Byt.BV.of_own (byte_own.1 (Hold.ob hH (A:=rwO byteE w.heap.size z.1 27 z.2 hel3 true) 1 rfl)) (frm_isB _ (by decide))) (fun g hg hm=>(pair_at (R:=DisR) (fun _ _ h=>h.symm) hH.dis (i:=0) (j:=1) rfl rfl (by decide) (.inl rfl)) g hm hg)) (fun u=>?_)|refine callO2N (f:=24) (A:=gwO y.1 cfg0 y.2.1 27 27 an1.1.1 1 [] u.1.1 u.1.2.1 u.1.2.2 true) 0 (fun v:{v:List Nat×Fam×(Nat×Nat)×(Option Addr×Nat) // vals v.2.1=an2.1.2}=>.t [.v (.slice (some ⟨v.1.2.2.1.1,0,none⟩) 1 v.1.2.2.1.2),.i .i64 0]) (fun v=>gwO y.1 cfg0 y.2.1 27 27 an2.1.1 1 [] v.1.1 v.1.2.1 u.1.2.2 true) (fun v=>rwO outE w.heap.size (some ⟨v.1.2.2.1.1,0,none⟩) 1 v.1.2.2.1.2 [⟨3,v.1.2.2.2.1,v.1.2.2.2.2,frm (bytesOf wan3)⟩] true) (fun v=>daO w.heap.size [⟨3,v.1.2.2.2.1,v.1.2.2.2.2,frm (bytesOf wan3)⟩] true) (fun w1 hH hA=>(tick0 hA u.2).mono (by rintro e w' ⟨v,rfl,h1,h2,h3,h4,h5,h6,h7,h8⟩; exact ⟨v,rfl,h1,Ek.base h2 hH.upd.size,fun o ho=>Ek.base (h3 o ho) hH.upd.size,h4,h5,h6,h7,h8⟩)) (fun v=>?_)|refine callH (f:=24) (.t [.v (.slice none 0 0),.i .i64 1]) (fun w1 hH=>doNo (Hold.ob hH (A:=gwO y.1 cfg0 y.2.1 27 27 an2.1.1 1 [] v.1.1 v.1.2.1 u.1.2.2 true) 0 rfl) (wf_small (by decide)) (by decide)) ?_|intro b | refine fin_s ?_))
 repeat' (first | refine gq_ ?_|((conv=>whnf); first | refine drA (id:=6) ⟨tab_ok⟩ [19,26,27,31] ?_|refine drA ⟨tab_ok⟩ [] ?_|refine And.intro ?_ ?_|refine br_t (by rfl) ?_|refine opiv ⟨tab_ok⟩ (by rfl) (by rfl) (by rfl) (by rfl) (by rfl) (by rfl) ⟨by decide,by decide⟩ ?_|refine puiv ⟨tab_ok⟩ (by rfl) (by rfl) (by rfl) (by rfl) (by rfl) (by rfl) ⟨by decide,by decide⟩ ?_|refine fv_ ?_|refine uf_ ?_|refine opxc (g:=v.1.2.2.1.1) (off:=0+0*2+0) (.i .i64 3) (fun w1 hH=>rng_k (v:=.int .i64 3) (Ek.rng (x:=(⟨3,v.1.2.2.2.1,v.1.2.2.2.2,frm (bytesOf wan3)⟩:OutD)) (k:=0) (Hold.ob hH (A:=rwO outE w.heap.size (some ⟨v.1.2.2.1.1,0,none⟩) 1 v.1.2.2.1.2 [⟨3,v.1.2.2.2.1,v.1.2.2.2.2,frm (bytesOf wan3)⟩] true) 2 rfl) rfl) rfl) ⟨tab_ok⟩ (by rfl) (by rfl) (by show Addr.add (Addr.add ⟨v.1.2.2.1.1,0,none⟩ (0*2)) 0=_; rw [Go.WideShapes.add_plain,Go.WideShapes.add_plain]) ?_|refine opxc (g:=v.1.2.2.1.1) (off:=0+0*2+1) (.v (.slice v.1.2.2.2.1 27 v.1.2.2.2.2)) (fun w1 hH=>rng_k (v:=.slice v.1.2.2.2.1 27 v.1.2.2.2.2) (Ek.rng (x:=(⟨3,v.1.2.2.2.1,v.1.2.2.2.2,frm (bytesOf wan3)⟩:OutD)) (k:=0) (Hold.ob hH (A:=rwO outE w.heap.size (some ⟨v.1.2.2.1.1,0,none⟩) 1 v.1.2.2.1.2 [⟨3,v.1.2.2.2.1,v.1.2.2.2.2,frm (bytesOf wan3)⟩] true) 2 rfl) rfl) (by show [Value.int .i64 3,Value.slice v.1.2.2.2.1 (frm (bytesOf wan3)).length v.1.2.2.2.2][1]?=_; rw [wan3_len]; rfl)) ⟨tab_ok⟩ (by rfl) (by rfl) (by show Addr.add (Addr.add ⟨v.1.2.2.1.1,0,none⟩ (0*2)) 1=_; rw [Go.WideShapes.add_plain,Go.WideShapes.add_plain]) ?_|refine opcs (A:=v.1.2.2.2.1) (n:=27) (zs:=frm (bytesOf wan3)) (by rfl) (by rfl) (fun w1 hH=>Byt.BV.of_own (byte_own.1 ((Hold.ob hH (A:=daO w.heap.size [⟨3,v.1.2.2.2.1,v.1.2.2.2.2,frm (bytesOf wan3)⟩] true) 3 rfl) _ (List.mem_singleton.2 rfl))) (frm_isB _ (by decide))) (Tryz.underlying29) (Tryz.underlying5) (Tryz.underlying9) ?_|refine callN (f:=20) (ι:=Option Addr×Nat) (fun q=>.v (.slice q.1 21 q.2)) (fun q=>rwO byteE w.heap.size q.1 21 q.2 (bytesOf wan3) true) (fun w1 hH=>(bytesH wan3 wan3_may rfl w1).mono (by rintro e w' ⟨q,rfl,h1,h2⟩; exact ⟨q,rfl,Ek.base h1 hH.upd.size,h2,Ek.lows h1⟩)) (fun q=>?_)|refine br_t (beq_self_eq_true _) ?_|refine callN (f:=19) (ι:=Option Addr×Nat) (fun r=>.v (.slice r.1 27 r.2)) (fun r=>rwO byteE w.heap.size r.1 27 r.2 (frm (bytesOf wan3)) true) (fun w1 hH=>(frmE q.1 q.2 (bytesOf wan3) 21 27 w1 (Hold.ob hH (A:=rwO byteE w.heap.size q.1 21 q.2 (bytesOf wan3) true) 4 rfl) (bytes_isB _) (by omega) wan3_len).mono (by rintro e w' ⟨r,rfl,h1,h2⟩; exact ⟨r,rfl,Ek.base h1 hH.upd.size,h2,Ek.lows h1⟩)) (fun r=>?_)|refine opcs (A:=r.1) (n:=27) (zs:=frm (bytesOf wan3)) (by rfl) (by rfl) (fun w1 hH=>Byt.BV.of_own (byte_own.1 (Hold.ob hH (A:=rwO byteE w.heap.size r.1 27 r.2 (frm (bytesOf wan3)) true) 5 rfl)) (frm_isB _ (by decide))) (Tryz.underlying29) (Tryz.underlying5) (Tryz.underlying9) ?_|refine callH (f:=23) (.i .i64 1) (fun w1 hH=>have hW:=Hold.ob hH (A:=gwO y.1 cfg0 y.2.1 27 27 an2.1.1 1 [] v.1.1 v.1.2.1 u.1.2.2 true) 0 rfl; (epochT hW.b hW.k hW.g1 (wf_small (by decide))).mono (by rintro e w' ⟨rfl,h2⟩; rw [v.2,an2_ep]; exact ⟨rfl,h2⟩)) ?_|refine callN (f:=32) (ι:=Option Addr×Nat) (fun r2=>.v (.slice r2.1 2 r2.2)) (fun r2=>rwO viewE w.heap.size r2.1 2 r2.2 (an2.1.1.G.cars.map viewOf) true) (fun w1 hH=>have hW:=Hold.ob hH (A:=gwO y.1 cfg0 y.2.1 27 27 an2.1.1 1 [] v.1.1 v.1.2.1 u.1.2.2 true) 0 rfl; (viewsT hW.b hW.k hW.g1 (by rw [an2_len]; decide) (by rw [an2_len]; decide)).mono (by rintro e w' ⟨A,c,rfl,h1,h2⟩; rw [an2_len] at h1 ⊢; exact ⟨(A,c),rfl,Ek.base h1 hH.upd.size,h2,Ek.lows h1⟩)) (fun r2=>?_)|refine fin fun w' hH=>⟨rfl,hH.upd.since⟩|refine fin_s ?_))
end Gw
namespace Gw
open Go.RowKit Ba Mem En Go.Proofs.YtepfmfalebmcnaaGreatDoor.Ty
open Byt (BV isB)
open Co (Hold.ob)
set_option maxRecDepth 100000
def restD (u:Nat):List UInt8:=if u=0 then [] else Lib.decDigits u
theorem rest_step {u:Nat} (h:0 < u):restD u=restD (u / 10)++[UInt8.ofNat (48+u % 10)]:=by
 unfold restD
 rw [if_neg (by omega)]
 by_cases h1:u < 10
 ·rw [Lib.decDigits_one h1,if_pos (by omega),show u % 10=u by omega]; rfl
 ·rw [if_neg (by omega),Lib.decDigits,dif_neg h1]
theorem dec_rest {u:Nat} (h:0 < u):Lib.decDigits u=restD u:=by unfold restD; rw [if_neg (by omega)]
theorem itoa_0:Lib.itoa 0=[48]:=by unfold Lib.itoa; rw [if_neg (by decide)]; exact Lib.decDigits_one (by decide)
theorem itoa_p {n:Int} (h:0 < n):Lib.itoa n=restD n.toNat:=by unfold Lib.itoa; rw [if_neg (by omega),dec_rest (by omega)]
theorem itoa_n {n:Int} (h:n < 0):Lib.itoa n=45::restD n.natAbs:=by unfold Lib.itoa; rw [if_pos h,dec_rest (by omega)]
theorem one_str (k:Nat) (h:k < 256):strOfNums [(k:Int)]=⟨[UInt8.ofNat k].toArray⟩:=by
 unfold strOfNums
 simp
theorem rest_len {v u:Nat} {tl:List UInt8} (h:restD v++tl=restD u) (hu:(restD u).length≤21):tl.length≤21:=by
 have:=congrArg List.length h
 rw [List.length_append] at this
 omega
section
variable {v:Nat}
theorem tm_p:IntKind.i64.wrap (48+(v:Int).tmod 10)=((48+v % 10:Nat):Int):=by
 have e:(v:Int).tmod 10=((v % 10:Nat):Int):=rfl
 rw [e,show (48:Int)+((v % 10:Nat):Int)=((48+v % 10:Nat):Int) by omega]; exact wr64 _ (by omega) (by omega)
theorem td_p (h:v≤9223372036854775807):IntKind.i64.wrap ((v:Int).tdiv 10)=((v / 10:Nat):Int):=by
 have e:(v:Int).tdiv 10=((v / 10:Nat):Int):=rfl
 rw [e]; exact wr64 _ (by omega) (by omega)
theorem tm_n:IntKind.i64.wrap (48 - (-(v:Int)).tmod 10)=((48+v % 10:Nat):Int):=by
 have e:(-(v:Int)).tmod 10 = -((v % 10:Nat):Int):=by rw [Int.neg_tmod]; rfl
 rw [e,show (48:Int) - -((v % 10:Nat):Int)=((48+v % 10:Nat):Int) by omega]; exact wr64 _ (by omega) (by omega)
theorem td_n (h:v≤9223372036854775808):IntKind.i64.wrap ((-(v:Int)).tdiv 10) = -((v / 10:Nat):Int):=by
 have e:(-(v:Int)).tdiv 10 = -((v / 10:Nat):Int):=by rw [Int.neg_tdiv]; rfl
 rw [e]; exact wr64 _ (by omega) (by omega)
theorem dg_p:IntKind.u8.wrap ((48+v % 10:Nat):Int)=((48+v % 10:Nat):Int):=by rw [u8_wrap]; omega
theorem dg_b:∀ z∈[((48+v % 10:Nat):Int)],isB z:=fun z hz=>by rw [List.mem_singleton.1 hz]; unfold isB; omega
end
theorem opcv {X:Cx} {s:St} {o:Oper} {K:St→Prop} {t d:TypeId} {x:Operand} {A:Option Addr} {n c:Nat} {zs:List Int} (bs:List UInt8) (ho:o.op=.convert t d x) (hx:evO x s.fr=some (.v (.slice A n c))) (hz:∀ w,Hold X s.m s.ob w→BV w A n zs) (h1:X.P.underlying t=some (.slice 5)) (h2:X.P.underlying 5=some (.int .u8)) (h3:X.P.underlying d=some .string) (hs:strOfNums zs=⟨bs.toArray⟩) (h:put X.n o.dst (.v (.string ⟨bs.toArray⟩)) s K):OpVC X o s K :=
 opcs (zs:=zs) ho hx hz h1 h2 h3 (by rw [hs]; exact h)
attribute [local irreducible] Go.Calls restD
theorem decZ (w:World):Calls Tryz.prog 33 #[.int .i64 0] w fun e w'=>e=.returned (.string ⟨#[48]⟩)∧Since w w':=by
 refine ent tab_ok [.i .i64 0] Tryz.func33 Tryz.ntmps33 rfl rfl ?_
 repeat' (first | refine gs_ ?_|((conv=>whnf); first | intro b | refine bto ?_|refine bfo ?_|refine fin_s ?_))
 all_goals rfl
set_option maxHeartbeats 4000000 in
theorem decP (u:Nat) (h0:0 < u) (h1:u≤9223372036854775807) (hl:(restD u).length≤21) (w:World):Calls Tryz.prog 33 #[.int .i64 (u:Int)] w fun e w'=>e=.returned (.string ⟨(restD u).toArray⟩)∧Since w w':=by
 have hne:((u:Int) == 0)=false:=beq_eq_false_iff_ne.2 (by omega)
 refine ent tab_ok [.i .i64 (u:Int)] Tryz.func33 Tryz.ntmps33 rfl rfl ?_
 repeat' (first | refine gs_ ?_|((conv=>whnf); first | intro b | refine bto ?_|refine bfo ?_|refine br_f hne ?_|refine fin_s ?_))
 conv=>whnf
 refine lp ⟨tab_ok⟩ (ι:={x:Nat×List UInt8 // restD x.1++x.2=restD u∧x.1≤u}) (fun x=>match x with | ⟨(v,tl),_⟩=>⟨[(0,.i .i64 (v:Int)),(3,.v (.string ⟨tl.toArray⟩))],[],[]⟩) (fun x=>x.1.1) ⟨(u,[]),by simp,Nat.le_refl _⟩ (wk ?_) ?_
 ·repeat' (first | exact trivial | rfl | ((conv=>whnf); refine And.intro ?_ ?_))
 rintro ⟨⟨v,tl⟩,he,hv⟩
 have he:restD v++tl=restD u:=he
 have hv:v≤u:=hv
 have htl:=rest_len he hl
 by_cases hz:v=0
 ·subst hz
  have e0:tl=restD u:=by
   rw [← he]
   unfold restD
   rw [if_pos rfl]; rfl
  repeat' (first | refine gs_ ?_|((conv=>whnf); first | intro b | refine bto ?_|refine bfo ?_|refine fin_s ?_))
  all_goals (rw [e0]; rfl)
 ·have he2:restD (v / 10)++([UInt8.ofNat (48+v % 10)]++tl)=restD u:=by rw [← he,rest_step (u:=v) (by omega),List.append_assoc]
  repeat' (first | refine gs_ ?_|((conv=>whnf); first | intro b | refine bto ?_|refine bfo ?_|refine cd (by first | decide | omega) ?_|refine wr (tm_p (v:=v)) ?_|refine wr (td_p (v:=v) (by omega)) ?_|refine wr (dg_p (v:=v)) ?_|refine wr_i ?_|refine opbo ⟨tab_ok⟩ byteE [((48+v % 10:Nat):Int)] [_] [.i .u8 ((48+v % 10:Nat):Int)] (by rfl) (by rfl) (by rfl) rfl rfl (fun g0=>?_)|refine opcv (A:=some ⟨g0,0,none⟩) (n:=1) (zs:=[((48+v % 10:Nat):Int)]) [UInt8.ofNat (48+v % 10)] (by rfl) (by rfl) (fun w1 hH=>Byt.BV.of_own (byte_own.1 (Hold.ob hH (A:=rwO byteE w.heap.size (some ⟨g0,0,none⟩) 1 1 [((48+v % 10:Nat):Int)] true) 0 rfl)) dg_b) (Tryz.underlying29) (Tryz.underlying5) (Tryz.underlying9) (one_str _ (by omega)) ?_|refine opsa (xs:=[UInt8.ofNat (48+v % 10)]) (ys:=tl) (by rfl) (by rfl) (by rfl) (by show (1:Int)≤_; omega) (by omega) ?_|refine En.back ⟨(v / 10,[UInt8.ofNat (48+v % 10)]++tl),he2,by show v / 10≤u; omega⟩ (wkd ?_) ?_|refine fin_s ?_))
  all_goals first | (show v / 10 < v; omega)|skip
  all_goals (repeat' (first | exact trivial | rfl | ((conv=>whnf); refine And.intro ?_ ?_)))
set_option maxHeartbeats 4000000 in
theorem decN (u:Nat) (h0:0 < u) (h1:u≤9223372036854775808) (hl:(restD u).length≤21) (w:World):Calls Tryz.prog 33 #[.int .i64 (-(u:Int))] w fun e w'=>e=.returned (.string ⟨(45::restD u).toArray⟩)∧Since w w':=by
 have hne:((-(u:Int)) == 0)=false:=beq_eq_false_iff_ne.2 (by omega)
 obtain ⟨v,hvu⟩:∃ v,v=u:=⟨_,rfl⟩
 subst hvu
 have he0:restD (v / 10)++([UInt8.ofNat (48+v % 10)]++[])=restD v:=by rw [rest_step (u:=v) (by omega)]; simp
 refine ent tab_ok [.i .i64 (-(v:Int))] Tryz.func33 Tryz.ntmps33 rfl rfl ?_
 repeat' (first | refine gs_ ?_|((conv=>whnf); first | intro b | refine bto ?_|refine bfo ?_|refine cd (by first | decide | omega) ?_|refine br_f hne ?_|refine wr (tm_n (v:=v)) ?_|refine wr (td_n (v:=v) (by omega)) ?_|refine wr (dg_p (v:=v)) ?_|refine wr_i ?_|refine opbo ⟨tab_ok⟩ byteE [((48+v % 10:Nat):Int)] [_] [.i .u8 ((48+v % 10:Nat):Int)] (by rfl) (by rfl) (by rfl) rfl rfl (fun g0=>?_)|refine opcv (A:=some ⟨g0,0,none⟩) (n:=1) (zs:=[((48+v % 10:Nat):Int)]) [UInt8.ofNat (48+v % 10)] (by rfl) (by rfl) (fun w1 hH=>Byt.BV.of_own (byte_own.1 (Hold.ob hH (A:=rwO byteE w.heap.size (some ⟨g0,0,none⟩) 1 1 [((48+v % 10:Nat):Int)] true) 0 rfl)) dg_b) (Tryz.underlying29) (Tryz.underlying5) (Tryz.underlying9) (one_str _ (by omega)) ?_|refine fin_s ?_))
 conv=>whnf
 refine lp ⟨tab_ok⟩ (ι:={x:Nat×List UInt8 // restD x.1++x.2=restD v∧x.1≤v}) (fun x=>match x with | ⟨(y,tl),_⟩=>⟨[(0,.i .i64 (-(y:Int))),(3,.v (.string ⟨tl.toArray⟩))],[],[]⟩) (fun x=>x.1.1) ⟨(v / 10,[UInt8.ofNat (48+v % 10)]++[]),he0,by show v / 10≤v; omega⟩ (wkd ?_) ?_
 ·repeat' (first | exact trivial | rfl | ((conv=>whnf); refine And.intro ?_ ?_))
 rintro ⟨⟨y,tl⟩,he,hv⟩
 have he:restD y++tl=restD v:=he
 have hv:y≤v:=hv
 have htl:=rest_len he hl
 by_cases hz:y=0
 ·subst hz
  have e0:tl=restD v:=by
   rw [← he]
   unfold restD
   rw [if_pos rfl]; rfl
  repeat' (first | refine gs_ ?_|((conv=>whnf); first | intro b | refine bto ?_|refine bfo ?_|refine opsa (xs:=[45]) (ys:=tl) (by rfl) (by rfl) (by rfl) (by decide) (by omega) ?_|refine fin_s ?_))
  all_goals (rw [e0]; rfl)
 ·have he2:restD (y / 10)++([UInt8.ofNat (48+y % 10)]++tl)=restD v:=by rw [← he,rest_step (u:=y) (by omega),List.append_assoc]
  repeat' (first | refine gs_ ?_|((conv=>whnf); first | intro b | refine bto ?_|refine bfo ?_|refine cd (by first | decide | omega) ?_|refine wr (tm_n (v:=y)) ?_|refine wr (td_n (v:=y) (by omega)) ?_|refine wr (dg_p (v:=y)) ?_|refine wr_i ?_|refine opbo ⟨tab_ok⟩ byteE [((48+y % 10:Nat):Int)] [_] [.i .u8 ((48+y % 10:Nat):Int)] (by rfl) (by rfl) (by rfl) rfl rfl (fun g0=>?_)|refine opcv (A:=some ⟨g0,0,none⟩) (n:=1) (zs:=[((48+y % 10:Nat):Int)]) [UInt8.ofNat (48+y % 10)] (by rfl) (by rfl) (fun w1 hH=>Byt.BV.of_own (byte_own.1 (Hold.ob hH (A:=rwO byteE w.heap.size (some ⟨g0,0,none⟩) 1 1 [((48+y % 10:Nat):Int)] true) 0 rfl)) dg_b) (Tryz.underlying29) (Tryz.underlying5) (Tryz.underlying9) (one_str _ (by omega)) ?_|refine opsa (xs:=[UInt8.ofNat (48+y % 10)]) (ys:=tl) (by rfl) (by rfl) (by rfl) (by show (1:Int)≤_; omega) (by omega) ?_|refine En.back ⟨(y / 10,[UInt8.ofNat (48+y % 10)]++tl),he2,by show y / 10≤v; omega⟩ (wkd ?_) ?_|refine fin_s ?_))
  all_goals first | (show y / 10 < y; omega)|skip
  all_goals (repeat' (first | exact trivial | rfl | ((conv=>whnf); refine And.intro ?_ ?_)))
theorem decT (n:Int) (h:n64 n) (w:World):Calls Tryz.prog 33 #[.int .i64 n] w fun e w'=>e=.returned (.string ⟨(Lib.itoa n).toArray⟩)∧Since w w':=by
 unfold n64 at h
 have hl:=Lib.itoa_length_le n h.1 h.2
 rcases Int.lt_trichotomy n 0 with h0 | h0 | h0
 ·have e:n = -((n.natAbs:Nat):Int):=by omega
  rw [itoa_n h0] at hl ⊢
  have:=decN n.natAbs (by omega) (by omega) (by simp only [List.length_cons] at hl; omega) w
  rw [← e] at this
  exact this
 ·subst h0
  rw [itoa_0]
  exact decZ w
 ·have e:n=((n.toNat:Nat):Int):=by omega
  rw [itoa_p h0] at hl ⊢
  have:=decP n.toNat (by omega) (by omega) hl w
  rw [← e] at this
  exact this
end Gw
namespace Gw
open Go.RowKit Ba Mem En Go.Proofs.YtepfmfalebmcnaaGreatDoor.Ty
open Fm (frames)
open Byt (BV isB)
open Co (KV newK Hold.ob NrP toNp Nr)
set_option maxRecDepth 100000
theorem do_8 (c:CfgV) (g:Gs) (a b:Int) (d:List Int):doV c g 8 a b d=(g,[(-1,txtV g.x.1.G.cars)],0):=by
 unfold doV; rw [if_neg (by decide),if_neg (by decide),if_neg (by decide),if_pos rfl]
theorem outs_at1 {os:List OutD} {s:Int} {zs:List Int} (h:outsV os=[(s,zs)]):∃ A c,os=[⟨s,A,c,zs⟩]:=by
 match os,h with
 | [⟨s',A,c,zs'⟩],h =>
  simp only [outsV,List.map_cons,List.map_nil,List.cons.injEq,Prod.mk.injEq,and_true] at h
  obtain ⟨rfl,rfl⟩:=h
  exact ⟨A,c,rfl⟩
theorem str_back (bs:List UInt8):strOfNums (bs.map fun b=>(b.toNat:Int))=⟨bs.toArray⟩:=by
 unfold strOfNums
 rw [List.map_map]
 have:((fun n:Int=>UInt8.ofNat n.toNat) ∘ fun b:UInt8=>(b.toNat:Int))=id:=by
  funext b
  simp
 rw [this,List.map_id]
theorem pusa {X:Cx} {s:St} {o:Oper} {K:SV→Prop} {t t2:TypeId} {x y:Operand} {xs ys:List UInt8} (ho:o.op=.binOp .add t x y t2) (hx:evO x s.fr=some (.v (.string ⟨xs.toArray⟩))) (hy:evO y s.fr=some (.v (.string ⟨ys.toArray⟩))) (h1:(xs.length:Int)≤8388608) (h2:(ys.length:Int)≤8388608) (h:K (.v (.string ⟨(xs++ys).toArray⟩))):PuVC X o s K :=
 ⟨⟨.v (.string ⟨(xs++ys).toArray⟩),rfl,fun a hf w=>by
  have e1:=(evO_of hf hx).2
  have e2:=(evO_of hf hy).2
  unfold execOp
  simp only [ho,e1,e2,den]
  simp [eqGuard,binOp,run_string_add_lists (P:=X.P) w xs ys h1 h2,Result.andThen],h⟩⟩
abbrev vPS (lo g n c k:Nat) (ls:List ViewV):={x:List Value×List Value // x.1.length=0+k*5∧∀ y w',Blk w' g 62 (el x.1 (viewC y).toArray x.2)→viewE.At lo (some ⟨g,0,none⟩) n c (ls.set k y) w'}
theorem view_open {lo g n c k:Nat} {ls:List ViewV} {w:World} {x:ViewV} (h:viewE.At lo (some ⟨g,0,none⟩) n c ls w) (hx:ls[k]?=some x):∃ p:vPS lo g n c k ls,g∈blkOf (some ⟨g,0,none⟩)∧p.1.1.length=0+k*5∧Blk w g 62 (el p.1.1 (viewC x).toArray p.1.2):=by
 obtain ⟨hi,rfl⟩:=List.getElem?_eq_some_iff.1 hx
 obtain ⟨P,S,hP,hB,hb⟩:=own_el (enc:=viewC) (k:=5) (fun _=>rfl) h hi
 exact ⟨⟨(P,S),hP,fun y w' hB'=>hb y w' hB'⟩,by simp [blkOf],hP,hB⟩
theorem upTo_succ {vs:List ViewV} {k:Nat} {v:ViewV} (h:vs[k]?=some v):upTo vs (k+1)=upTo vs k++Lib.itoa k++[32]++Lib.itoa v.un++[32]++Lib.itoa v.ds++[32]++Lib.itoa v.mo++[32]++Lib.itoa v.wy++[32]++Lib.itoa v.lo++[10]:=by
 show upTo vs k++(match vs[k]? with | some v=>lineL k v | none=>[])=_
 rw [h]
 simp only [lineL,numsL,vN,List.take_succ_cons,List.take_zero,List.flatMap_cons,List.flatMap_nil,List.append_assoc,List.append_nil]
attribute [local irreducible] Go.Calls doV tickG
set_option maxHeartbeats 8000000 in
theorem listsF (c:CfgV) {a:Option Addr} {len cap:Nat} {ss:Nat→StepD} {w:World} (h:StR a len ss w) (hw:∀ i,i < len→StepW (ss i)) (hlen:len≤9223372036854775807) (ht:Lib.TabIs Tryz.prog w "internal/strconv.uint64pow10" .u64 Lib.pow10Tab):Calls Tryz.prog 6 #[(aCfg c),.slice a len cap] w fun e w'=>e=.returned (.bool true)∧Since w w':=by
 obtain ⟨gb,off,hb⟩:=Ek.rd_addr h.r
 refine entH tab_ok (hold_tb h ht) [.a (sCfg c),.v (.slice a len cap)] Tryz.func6 Tryz.ntmps6 rfl rfl ?_
 cases hl:litB ss len with
 | false =>
  repeat' (first | refine gs_ ?_|((conv=>whnf); first | intro b | refine callH (f:=16) (.b false) (fun w1 hH=>(by have:=light22 (cap:=cap) (Hold.ob hH (A:=stO a len ss) 0 rfl) hlen; rw [hl] at this; exact this)) ?_|refine callH (f:=18) (.b true) (fun w1 hH=>answersT w1) ?_|refine fin_s ?_))
  all_goals rfl
 | true =>
  obtain ⟨h3,h2⟩:=lit_of hl hw
  repeat' (first | refine gs_ ?_|((conv=>whnf); first | intro bc | refine bto ?_|refine bfo ?_|refine callH (f:=16) (.b true) (fun w1 hH=>(by have:=light22 (cap:=cap) (Hold.ob hH (A:=stO a len ss) 0 rfl) hlen; rw [hl] at this; exact this)) ?_|refine callN (f:=21) (ι:=Nat×Gp×List Nat) (fun y=>.v (.pointer (some ⟨y.1,0,none⟩))) (fun y=>gsO y.1 c y.2.1 0 (gm0 y.2.1 y.2.2) (gs0 c) true) (fun w1 hH=>newS c w1) (fun y=>?_)|refine fin_s ?_))
  conv=>whnf
  obtain ⟨q1,x1,Sk1⟩:=y
  refine lp ⟨tab_ok⟩ (ι:={v:(Nat×Gm)×Gs // v.1.1≤len∧GI c v.1.1 (sumT ss v.1.1) v.2}) (fun v=>match v with | ⟨((k,m),g),_⟩=>⟨[(1,.v (.slice a len cap)),(5,.v (.pointer (some ⟨q1,0,none⟩))),(6,.i .i64 (k:Int))],[⟨bc,23,true,0,[],(sCfg c),[],true⟩],[stO a len ss,tbO,gsO q1 c x1 (sumT ss k) m g true]⟩) (fun v=>len - v.1.1.1) ⟨((0,gm0 x1 Sk1),gs0 c),Nat.zero_le _,GI.new c⟩ (wk ?_) ?_
  ·repeat' (first | exact trivial | rfl | ((conv=>whnf); refine And.intro ?_ ?_))
  rintro ⟨⟨⟨k,m⟩,g⟩,hk,hg⟩
  have hk:k≤len:=hk
  have hg:GI c k (sumT ss k) g:=hg
  by_cases hlt:k < len
  ·have hb:=hb (by omega)
   subst hb
   have hW:=hw k hlt
   have hWl:=hW.l
   have hsm:=sumT_at (ss:=ss) hlt
   have hs1:sumT ss (k+1)=sumT ss k+(ss k).n:=rfl
   have hb64:n64 (ss k).b:=n64_of hW.b
   obtain ⟨G',O',R',he1⟩:∃ G' O' R',doV c g (ss k).k (ss k).a (ss k).b (ss k).d=(G',O',R'):=⟨_,_,_,rfl⟩
   have hg1:GI c (k+1) (sumT ss k+(ss k).d.length) G':=by have:=hg.do_ (by omega) (k:=(ss k).k) (a:=(ss k).a) (d:=(ss k).d) (by omega) hb64; rwa [he1] at this
   rw [hWl] at hg1
   repeat' (first | refine gs_ ?_|((conv=>whnf); first | intro b2 | refine bto ?_|refine bfo ?_|refine wr_i ?_|refine cd (by first | decide | omega) ?_|refine iv_ ?_|refine ui_ ?_|refine fv_ ?_|refine uf_ ?_|refine opix (g:=gb) (off:=off+k*4) [.i .i64 (ss k).k,.i .i64 (ss k).a,.i .i64 (ss k).b,.v (.slice (ss k).A (ss k).n (ss k).c)] (fun w hH=>Ek.rd_rng (StR.r (Hold.ob hH (A:=stO (some ⟨gb,off,none⟩) len ss) 0 rfl)) hlt) ⟨tab_ok⟩ (by rfl) (by rfl) (by first | (simp only [Go.WideShapes.add_plain]; done)|(simp only [Go.WideShapes.add_plain]; rfl)) ?_|refine doX 2 1 (ss k).d (sumT ss (k+1)) he1 hg (by omega) (by omega) (by omega) hW.k (fun w hH=>hz_st hH (i:=0) (j:=2) rfl rfl (by decide) hlt) rfl rfl rfl rfl rfl (by decide) (fun u1=>?_)|refine En.back ⟨((k+1,u1.1.1),G'),by show k+1≤len; omega,hg1⟩ (wkd ?_) ?_|refine fin_s ?_))
   all_goals first | (show len - (k+1) < len - k; omega)|skip
   all_goals (repeat' (first | exact trivial | rfl | ((conv=>whnf); refine And.intro ?_ ?_)))
  ·obtain rfl:k=len:=by omega
   have he8:=do_8 c g 0 0 []
   have hlen8:=hg.len
   have hnum:=hg.num
   have hml:(g.x.1.G.cars.map viewOf).length=g.x.1.G.cars.length:=List.length_map ..
   repeat' (first | refine gs_ ?_|((conv=>whnf); first | intro b | refine bto ?_|refine bfo ?_|refine doX 2 1 [] (sumT ss k) he8 hg (by omega) (by simp; omega) (by simp) (by decide) (fun w hH=>⟨BV.nil _ _,by intro g hg; cases hg⟩) rfl rfl rfl rfl rfl (by decide) (fun u1=>?_)|refine callN (f:=32) (ι:=NrP w.heap.size g.x.1.G.cars.length) (fun x=>.v (.slice x.1.2.1 g.x.1.G.cars.length x.1.2.2)) (fun x=>rwO viewE x.1.1 x.1.2.1 g.x.1.G.cars.length x.1.2.2 (g.x.1.G.cars.map viewOf) true) (fun w1 hH=>toNp (viewsS (Hold.ob hH (A:=gsO q1 c x1 (sumT ss k) u1.1.1 g true) 2 rfl) hlen8) hH.upd.size) (fun uv=>?_)|refine fin_s ?_))
   conv=>whnf
   obtain ⟨⟨m2,A2,c2,os2⟩,hov,hA2⟩:=u1
   obtain ⟨⟨l8,A8,c8⟩,hl8,hA8⟩:=uv
   obtain ⟨g2,hg2⟩:=hA2 (by show 0 < 1; decide)
   have hg2:A2=some ⟨g2,0,none⟩:=hg2
   subst hg2
   have hov:outsV os2=[(-1,txtV g.x.1.G.cars)]:=hov
   obtain ⟨A3,c3,rfl⟩:=outs_at1 hov
   have hA8:0 < g.x.1.G.cars.length→∃ g,A8=some ⟨g,0,none⟩:=hA8
   obtain ⟨gv,hgv⟩:=hA8 (by omega)
   subst hgv
   refine lpS ⟨tab_ok⟩ (ι:={x:Nat×List UInt8 // x.1≤g.x.1.G.cars.length∧upTo (g.x.1.G.cars.map viewOf) x.1=x.2}) (fun x=>match x with | ⟨(n,tx),_⟩=>⟨[(7,.v (.slice (some ⟨g2,0,none⟩) 1 c2)),(8,.i .i64 0),(9,.v (.string ⟨tx.toArray⟩)),(10,.v (.slice (some ⟨gv,0,none⟩) g.x.1.G.cars.length c8)),(11,.i .i64 (n:Int))],[⟨bc,23,true,0,[],(sCfg c),[],true⟩],[stO a k ss,tbO,gsO q1 c x1 (sumT ss k) m2 g true,osO (some ⟨g2,0,none⟩) c2 [⟨-1,A3,c3,txtV g.x.1.G.cars⟩],rwO viewE l8 (some ⟨gv,0,none⟩) g.x.1.G.cars.length c8 (g.x.1.G.cars.map viewOf) true]⟩) (fun x=>g.x.1.G.cars.length - x.1.1) ⟨(0,[]),Nat.zero_le _,rfl⟩ (wkd ?_) ?_
   ·repeat' (first | exact trivial | rfl | ((conv=>whnf); refine And.intro ?_ ?_))
   rintro ⟨⟨n,tx⟩,hn,htx⟩
   have hn:n≤g.x.1.G.cars.length:=hn
   have htx:upTo (g.x.1.G.cars.map viewOf) n=tx:=htx
   have htl:=upTo_len (g.x.1.G.cars.map viewOf) hnum (by omega) n (by omega)
   rw [htx] at htl
   by_cases hlt3:n < g.x.1.G.cars.length
   ·obtain ⟨z,hz⟩:∃ z,(g.x.1.G.cars.map viewOf)[n]?=some z:=⟨_,List.getElem?_eq_getElem (by omega)⟩
    obtain ⟨n1,n2,n3,n4,n5⟩:=hnum z (List.mem_of_getElem? hz)
    have n0:n64 (n:Int):=⟨by omega,by omega⟩
    have b0:=Lib.itoa_length_le (n:Int) n0.1 n0.2
    have b1:=Lib.itoa_length_le _ n1.1 n1.2
    have b2:=Lib.itoa_length_le _ n2.1 n2.2
    have b3:=Lib.itoa_length_le _ n3.1 n3.2
    have b4:=Lib.itoa_length_le _ n4.1 n4.2
    have b5:=Lib.itoa_length_le _ n5.1 n5.2
    have hup:=upTo_succ hz
    rw [htx] at hup
    refine sm_open ⟨tab_ok⟩ (π:=vPS l8 gv g.x.1.G.cars.length c8 n (g.x.1.G.cars.map viewOf)) 4 (fun p=>⟨gv,62,true,0+n*5,p.1.1,[.i .i64 z.un,.i .i64 z.ds,.i .i64 z.mo,.i .i64 z.wy,.i .i64 z.lo],p.1.2,true⟩) (by rfl) (by rfl) (fun w hw=>view_open hw hz) (fun p=>rfl) (fun p=>?_)
    repeat' (first | refine gs_ ?_|((conv=>whnf); first | intro b | refine bto ?_|refine bfo ?_|refine wr_i ?_|refine puir ⟨tab_ok⟩ 1 (by rfl) (by rfl) (by rfl) (by rfl) (by rfl) (by rfl) (by rfl) ⟨⟨by omega,by omega⟩,by show 0+n*5=_; simp⟩ ?_|refine callH (f:=33) (.v (.string ⟨(Lib.itoa (n:Int)).toArray⟩)) (fun w1 hH=>decT _ n0 w1) ?_|refine callH (f:=33) (.v (.string ⟨(Lib.itoa z.un).toArray⟩)) (fun w1 hH=>decT _ n1 w1) ?_|refine callH (f:=33) (.v (.string ⟨(Lib.itoa z.ds).toArray⟩)) (fun w1 hH=>decT _ n2 w1) ?_|refine callH (f:=33) (.v (.string ⟨(Lib.itoa z.mo).toArray⟩)) (fun w1 hH=>decT _ n3 w1) ?_|refine callH (f:=33) (.v (.string ⟨(Lib.itoa z.wy).toArray⟩)) (fun w1 hH=>decT _ n4 w1) ?_|refine callH (f:=33) (.v (.string ⟨(Lib.itoa z.lo).toArray⟩)) (fun w1 hH=>decT _ n5 w1) ?_|refine pusa (xs:=tx) (ys:=Lib.itoa (n:Int)) (by rfl) (by rfl) (by rfl) (by omega) (by omega) ?_|refine pusa (xs:=tx++Lib.itoa (n:Int)) (ys:=[32]) (by rfl) (by rfl) (by rfl) (by simp only [List.length_append,List.length_cons,List.length_nil]; omega) (by simp only [List.length_append,List.length_cons,List.length_nil]; omega) ?_|refine pusa (xs:=tx++Lib.itoa (n:Int)++[32]) (ys:=Lib.itoa z.un) (by rfl) (by rfl) (by rfl) (by simp only [List.length_append,List.length_cons,List.length_nil]; omega) (by omega) ?_|refine pusa (xs:=tx++Lib.itoa (n:Int)++[32]++Lib.itoa z.un) (ys:=[32]) (by rfl) (by rfl) (by rfl) (by simp only [List.length_append,List.length_cons,List.length_nil]; omega) (by simp only [List.length_append,List.length_cons,List.length_nil]; omega) ?_|refine pusa (xs:=tx++Lib.itoa (n:Int)++[32]++Lib.itoa z.un++[32]) (ys:=Lib.itoa z.ds) (by rfl) (by rfl) (by rfl) (by simp only [List.length_append,List.length_cons,List.length_nil]; omega) (by omega) ?_|refine pusa (xs:=tx++Lib.itoa (n:Int)++[32]++Lib.itoa z.un++[32]++Lib.itoa z.ds) (ys:=[32]) (by rfl) (by rfl) (by rfl) (by simp only [List.length_append,List.length_cons,List.length_nil]; omega) (by simp only [List.length_append,List.length_cons,List.length_nil]; omega) ?_|refine pusa (xs:=tx++Lib.itoa (n:Int)++[32]++Lib.itoa z.un++[32]++Lib.itoa z.ds++[32]) (ys:=Lib.itoa z.mo) (by rfl) (by rfl) (by rfl) (by simp only [List.length_append,List.length_cons,List.length_nil]; omega) (by omega) ?_|refine pusa (xs:=tx++Lib.itoa (n:Int)++[32]++Lib.itoa z.un++[32]++Lib.itoa z.ds++[32]++Lib.itoa z.mo) (ys:=[32]) (by rfl) (by rfl) (by rfl) (by simp only [List.length_append,List.length_cons,List.length_nil]; omega) (by simp only [List.length_append,List.length_cons,List.length_nil]; omega) ?_|refine pusa (xs:=tx++Lib.itoa (n:Int)++[32]++Lib.itoa z.un++[32]++Lib.itoa z.ds++[32]++Lib.itoa z.mo++[32]) (ys:=Lib.itoa z.wy) (by rfl) (by rfl) (by rfl) (by simp only [List.length_append,List.length_cons,List.length_nil]; omega) (by omega) ?_|refine pusa (xs:=tx++Lib.itoa (n:Int)++[32]++Lib.itoa z.un++[32]++Lib.itoa z.ds++[32]++Lib.itoa z.mo++[32]++Lib.itoa z.wy) (ys:=[32]) (by rfl) (by rfl) (by rfl) (by simp only [List.length_append,List.length_cons,List.length_nil]; omega) (by simp only [List.length_append,List.length_cons,List.length_nil]; omega) ?_|refine pusa (xs:=tx++Lib.itoa (n:Int)++[32]++Lib.itoa z.un++[32]++Lib.itoa z.ds++[32]++Lib.itoa z.mo++[32]++Lib.itoa z.wy++[32]) (ys:=Lib.itoa z.lo) (by rfl) (by rfl) (by rfl) (by simp only [List.length_append,List.length_cons,List.length_nil]; omega) (by omega) ?_|refine pusa (xs:=tx++Lib.itoa (n:Int)++[32]++Lib.itoa z.un++[32]++Lib.itoa z.ds++[32]++Lib.itoa z.mo++[32]++Lib.itoa z.wy++[32]++Lib.itoa z.lo) (ys:=[10]) (by rfl) (by rfl) (by rfl) (by simp only [List.length_append,List.length_cons,List.length_nil]; omega) (by simp only [List.length_append,List.length_cons,List.length_nil]; omega) ?_|refine En.back ⟨(n+1,(tx++Lib.itoa (n:Int)++[32]++Lib.itoa z.un++[32]++Lib.itoa z.ds++[32]++Lib.itoa z.mo++[32]++Lib.itoa z.wy++[32]++Lib.itoa z.lo++[10])),by show n+1≤_; omega,hup⟩ (wk_close 1 (rwO viewE l8 (some ⟨gv,0,none⟩) g.x.1.G.cars.length c8 (g.x.1.G.cars.map viewOf) true) 4 ?_ (fun w' hB=>?_) (by rfl) (by rfl) (by rfl) (by rfl) (by rfl) (by rfl)) ?_|refine fin_s ?_))
    all_goals first | (show g.x.1.G.cars.length - (n+1) < g.x.1.G.cars.length - n; omega)|skip
    all_goals first
     | (show viewE.At _ _ _ _ _ _; have:=p.2.2 z w' hB; rw [set_same hz] at this; exact this)
     | (repeat' (first | exact trivial | rfl | ((conv=>whnf); refine And.intro ?_ ?_)))
   ·obtain rfl:n=g.x.1.G.cars.length:=by omega
    have hbs:strOfNums (txtV g.x.1.G.cars)=⟨tx.toArray⟩:=by unfold txtV; rw [str_back,htx]
    refine sm_run ⟨tab_ok⟩ ?_
    repeat' (first | refine gs_ ?_|((conv=>whnf); first | intro b | refine bto ?_|refine bfo ?_|refine wr_i ?_|refine callH (f:=18) (.b true) (fun w1 hH=>answersT w1) ?_|refine br_t (beq_self_eq_true _) ?_|refine iv_ ?_|refine ui_ ?_|refine fv_ ?_|refine uf_ ?_|refine opxc (g:=g2) (off:=0+0*2+0) (.i .i64 (-1)) (fun w1 hH=>rng_at (v:=.int .i64 (-1)) (Ek.rng (x:=(⟨-1,A3,c3,txtV g.x.1.G.cars⟩:OutD)) (k:=0) (OsAt.r (Hold.ob hH (A:=osO (some ⟨g2,0,none⟩) c2 [⟨-1,A3,c3,txtV g.x.1.G.cars⟩]) 3 rfl)) rfl) rfl) ⟨tab_ok⟩ (by rfl) (by rfl) (by first | (simp only [Go.WideShapes.add_plain]; done)|(simp only [Go.WideShapes.add_plain]; rfl)) ?_|refine opxc (g:=g2) (off:=0+0*2+1) (.v (.slice A3 (txtV g.x.1.G.cars).length c3)) (fun w1 hH=>rng_at (v:=.slice A3 (txtV g.x.1.G.cars).length c3) (Ek.rng (x:=(⟨-1,A3,c3,txtV g.x.1.G.cars⟩:OutD)) (k:=0) (OsAt.r (Hold.ob hH (A:=osO (some ⟨g2,0,none⟩) c2 [⟨-1,A3,c3,txtV g.x.1.G.cars⟩]) 3 rfl)) rfl) rfl) ⟨tab_ok⟩ (by rfl) (by rfl) (by first | (simp only [Go.WideShapes.add_plain]; done)|(simp only [Go.WideShapes.add_plain]; rfl)) ?_|refine opcv (A:=A3) (n:=(txtV g.x.1.G.cars).length) (zs:=txtV g.x.1.G.cars) tx (by rfl) (by rfl) (fun w1 hH=>OsAt.d (Hold.ob hH (A:=osO (some ⟨g2,0,none⟩) c2 [⟨-1,A3,c3,txtV g.x.1.G.cars⟩]) 3 rfl) _ (List.mem_singleton.2 rfl)) (Tryz.underlying29) (Tryz.underlying5) (Tryz.underlying9) hbs ?_|refine fin_s ?_))
    all_goals (exact congrArg Value.bool (beq_self_eq_true _))
theorem listsL {H:Type} {enc:TypeId×Value→H} {x:DataW H×List MemPlace} (c:CfgV) {a:Option Addr} {len cap:Nat} {w:World} (ht:Lib.TabIs Tryz.prog w "internal/strconv.uint64pow10" .u64 Lib.pow10Tab) (hx:∃ m,DataW.trod enc Tryz.prog w 0 (fun _=>true) true m 24 (Value.cells (.slice a len cap)).toList=some x) (hU:∀ u∈x.1.weights Tryz.prog 24,u≤reachBytes):Calls Tryz.prog 6 #[(aCfg c),.slice a len cap] w fun e w'=>e=.returned (.bool true)∧Since w w':=by
 obtain ⟨ss,h1,h2,h3⟩:=steps_in hx hU
 exact listsF c h1 h2 h3 ht
end Gw
end Go.Proofs.YtepfmfalebmcnaaGreatDoor
