/-
  Wanted: WholeLocked 0.
  No condition.
-/
import Derived.Test.YtepfmfalebmcnaaGreatDoorQH5
import Derived.Test.YtepfmfalebmcnaaGreatDoorQH4
import Derived.Test.YtepfmfalebmcnaaGreatDoorQH9
import Derived.Test.YtepfmfalebmcnaaGreatDoorQH8
import Derived.Test.YtepfmfalebmcnaaGreatDoorQH14
import Derived.Test.YtepfmfalebmcnaaGreatDoorQH16
import Derived.Test.YtepfmfalebmcnaaGreatDoorQH15
import Derived.Test.YtepfmfalebmcnaaGreatDoorQH17
set_option linter.all false
namespace Go.Proofs.YtepfmfalebmcnaaGreatDoor
namespace Ct
open Go.RowKit Ba Mem Go.Proofs.YtepfmfalebmcnaaGreatDoor.Ty Do Mo Go.Proofs.YtepfmfalebmcnaaGreatDoor.St Sc Pl
theorem tk_shut (c:CfgV) (x:CarV) (h:¬ (tkV c x).un=x.un):x.ds=0∧(tkV c x).ds=0:=by
 obtain ⟨e1,e2,e3,e4,e5,e6,e7,e8⟩:=tk_same c x
 rcases step_un c (tkX c x) (tkR x) (tkO x) (tkK c x) with ⟨h1,h2⟩ | ⟨_,h2,h3,_,_⟩
 ·exact absurd (h1.trans e3) h
 ·exact ⟨e1 ▸ h2,h3⟩
end Ct
namespace Gr
open Go.RowKit Ba Mem Go.Proofs.YtepfmfalebmcnaaGreatDoor.Ty Mo Go.Proofs.YtepfmfalebmcnaaGreatDoor.St Pl Sc
open Ct (cfgA carA dwV bdX tkV tkF tkW tkS tkX goX goS goF goW svX ldX stX nW nO mayB mayB_iff tk_may tk_ti tk_R tk_shut tk_same may_ta may_bd dw_in)
section
variable {c:CfgV} {T:Nat} {x:CarV}
end
section
variable {G:GrV} {i:Int} {f:CarV→CarV×Int}
end
section
variable {c:CfgV} {n T:Nat} {G:GrV}
end
theorem tick_safe {c:CfgV} {n T:Nat} {G:GrV} (h:GI c n T G) {k:Nat} {x z:CarV} (hx:G.cars[k]?=some x) (hz:(tickG G).cars[k]?=some z) :
  (x.un≠z.un→x.ds=0∧z.ds=0)∧(z.ds≠0→z.un % 4=0)∧0≤z.un∧z.un≤252∧z.un≤4*(fl c.fl - 1):=by
 have hs:=(GI.tick h).2.2.1 z (List.mem_of_getElem? hz)
 have hg:=(goodB_iff c z).1 ((mayB_iff c z).1 hs.1).1
 obtain ⟨y,_,g2,g3⟩:=tick_at hx
 have e:=Option.some.inj (hz.symm.trans g3)
 have hb:=fl_hi c.fl
 refine ⟨fun hne=>?_,fun hd=>?_,hg.2.1,by omega,hg.2.2.1⟩
 ·have q:=tk_shut G.c y (by rw [← e,show y.un=x.un by rw [g2]]; exact fun h=>hne h.symm)
  rw [show y.ds=x.ds by rw [g2],← e] at q
  exact q
 ·rcases hg.2.2.2.2 with h | h
  ·exact absurd h hd
  ·exact ((lvB_iff _).1 h).2.2
end Gr
namespace Lc
open Go.RowKit Ba Mem En Go.Proofs.YtepfmfalebmcnaaGreatDoor.Ty Mo Go.Proofs.YtepfmfalebmcnaaGreatDoor.St Co
open Gr (GrV one giveR aimR takeR tickG)
theorem SU.refl (G:GrV):SU G G:=⟨rfl,fun i x h=>⟨x,h,rfl,rfl⟩⟩
theorem SU.trans {G G' G'':GrV} (h:SU G G') (k:SU G' G''):SU G G'':=⟨k.1.trans h.1,fun i x hx=>by
 obtain ⟨y,h1,h2,h3⟩:=h.2 i x hx
 obtain ⟨z,k1,k2,k3⟩:=k.2 i y h1
 exact ⟨z,k1,k2.trans h2,k3.trans h3⟩⟩
theorem su_end (K:KV) (s:Int):SU K.G (Co.endK K s).G:=by
 unfold Co.endK; split
 ·exact SU.one _ _ (fun x=>by show (Gr.givX _ x).ds=_∧(Gr.givX _ x).un=_; unfold Gr.givX; split <;> exact ⟨rfl,rfl⟩)
 ·exact SU.refl _
theorem su_set (K:KV) (l:LeaseV) (o:Bool):SU K.G (setK K l o).G:=by
 unfold setK; split
 ·exact su_end _ _
 ·show SU K.G (aimR _ _ _ _).1
  unfold aimR; split
  ·exact SU.one _ _ (fun x=>by show (Gr.aimX _ _ x).ds=_∧(Gr.aimX _ _ x).un=_; unfold Gr.aimX; split <;> exact ⟨rfl,rfl⟩)
  ·exact SU.refl _
theorem su_fold (K:KV) (k:Nat):SU (tickG K.G) (foldK K k).1.G:=by
 have key:∀ (ls:List LeaseV) (x:KV×List EvV),SU x.1.G (ls.foldl stepK x).1.G:=by
  intro ls
  induction ls with
  | nil=>intro x; exact SU.refl _
  | cons l r ih=>intro x; rw [List.foldl_cons]; exact SU.trans (su_set x.1 _ _) (ih (stepK x l))
 exact key _ (tkK1 K,[])
theorem su_grant (K:KV):SU K.G (grantK K).G:=by
 unfold grantK; split
 ·exact SU.refl _
 ·rename_i a _
  show SU K.G (takeR _ _ _).1
  unfold takeR; split
  ·exact SU.one _ _ (fun x=>by show (Gr.takeX _ x).ds=_∧(Gr.takeX _ x).un=_; unfold Gr.takeX; split <;> exact ⟨rfl,rfl⟩)
  ·exact SU.refl _
theorem su_tick (K:KV):SU (tickG K.G) (tickK K).G:=(su_fold K _).trans (su_grant _)
theorem tick_moves {c:CfgV} {n T m:Nat} {K:KV} (h:KI c n T m K) {k:Nat} {x z:CarV} (hx:K.G.cars[k]?=some x) (hz:(tickK K).G.cars[k]?=some z) (hne:x.un≠z.un):x.ds=0∧z.ds=0:=by
 have hk:k < (tickG K.G).cars.length:=by rw [Gr.tick_len]; exact (List.getElem?_eq_some_iff.1 hx).1
 have hy:=List.getElem?_eq_getElem hk
 obtain ⟨z',h1,h2,h3⟩:=(su_tick K).2 k _ hy
 rw [hz] at h1
 have e:=Option.some.inj h1
 subst e
 have:=(Gr.tick_safe h.g hx hy).1 (by rw [← h3]; exact hne)
 exact ⟨this.1,h2.trans this.2⟩
theorem tick_clen (K:KV):(tickK K).G.cars.length=K.G.cars.length:=(su_tick K).1.trans (Gr.tick_len _)
end Lc
namespace Gw
open Go.RowKit Ba Mem En Go.Proofs.YtepfmfalebmcnaaGreatDoor.Ty
open Byt (BV isB)
open Co (Hold.ob)
set_option maxRecDepth 100000
attribute [local irreducible] Go.Calls
theorem lightT {a:Option Addr} {len cap:Nat} {ss:Nat→StepD} {w:World} (h:StR a len ss w) (hlen:len≤9223372036854775807):Calls Tryz.prog 35 #[.slice a len cap] w fun e w'=>e=.returned (.bool (litB ss len))∧Since w w':=by
 obtain ⟨gb,off,hb⟩:=Ek.rd_addr h.r
 refine entH tab_ok (hold_st h) [.v (.slice a len cap)] Tryz.func35 Tryz.ntmps35 rfl rfl ?_
 repeat' (first | refine gs_ ?_|((conv=>whnf); first | intro b | refine fin_s ?_))
 conv=>whnf
 refine lp ⟨tab_ok⟩ (ι:={k:Nat // k≤len}) (fun x=>match x with | ⟨k,_⟩=>⟨[(0,.v (.slice a len cap)),(3,.i .i64 (sumW ss k)),(4,.i .i64 (k:Int))],[],[stO a len ss]⟩) (fun k=>len - k.1) ⟨0,Nat.zero_le _⟩ (wk ?_) ?_
 ·repeat' (first | exact trivial | rfl | ((conv=>whnf); refine And.intro ?_ ?_))
 rintro ⟨k,hk⟩
 by_cases hlt:k < len
 ·have hb:=hb (by omega)
  subst hb
  repeat' (first | refine gs_ ?_|((conv=>whnf); first | intro b | refine bto ?_|refine bfo ?_|refine wr_i ?_|refine wr_lit ?_|refine opiv ⟨tab_ok⟩ (by rfl) (by rfl) (by rfl) (by rfl) (by rfl) (by rfl) ⟨by omega,by omega⟩ ?_|refine puiv ⟨tab_ok⟩ (by rfl) (by rfl) (by rfl) (by rfl) (by rfl) (by rfl) ⟨by omega,by omega⟩ ?_|refine opfv ⟨tab_ok⟩ (by rfl) (by rfl) (by rfl) (by rfl) ?_|refine pufv ⟨tab_ok⟩ (by rfl) (by rfl) (by rfl) (by rfl) ?_|refine opxc (g:=gb) (off:=off+k*4+3) (.v (.slice (ss k).A (ss k).n (ss k).c)) (fun w hH=>rng_at (Ek.rd_rng (StR.r (Hold.ob hH (A:=stO (some ⟨gb,off,none⟩) len ss) 0 rfl)) hlt) rfl) ⟨tab_ok⟩ (by rfl) (by rfl) (by simp only [Go.WideShapes.add_plain]; rfl) ?_|refine En.back ⟨k+1,by omega⟩ (wk ?_) ?_|refine fin_s ?_))
  all_goals first | (show len - (k+1) < len - k; omega)|skip
  all_goals (repeat' (first | exact trivial | rfl | ((conv=>whnf); refine And.intro ?_ ?_)))
 ·obtain rfl:k=len:=by omega
  repeat' (first | refine gs_ ?_|((conv=>whnf); first | intro b | refine bto ?_|refine bfo ?_|refine b3_ (fun h=>?_) (fun h=>?_)|refine fin_s ?_))
  all_goals (simp [den,litB, *])
end Gw
namespace Gw
open Go.RowKit Ba Mem En Go.Proofs.YtepfmfalebmcnaaGreatDoor.Ty
open Fm (frames)
open Byt (BV isB)
open Co (KV newK Hold.ob)
set_option maxRecDepth 100000
attribute [local irreducible] Go.Calls
section
variable {X:Cx} {s:St}
theorem doX {K:SV→St→Prop} {f:FuncId} {vs:List SV} (i j:Nat) {gq B:Nat} {c:CfgV} {x:Gp} {m:Gm} {g:Gs} {k a b:Int} {dA:Option Addr} {dn dc:Nat} (d:List Int) (B':Nat) {i0:Nat} {g':Gs} {o':List (Int×List Int)} {r:Int} (he:doV c g k a b d=(g',o',r)) (hg:GI c i0 B g) (hi:i0 < 10000) (hB:B+d.length≤60000) (hB2:B+d.length≤B')
  (hk:(Lit.int .i64 k).wf=true) (hz:∀ w,Hold X s.m s.ob w→BV w dA dn d∧∀ y∈rdF dA dn,y∉gmF gq x m)
  (hf:f=24) (hP:X.P=Tryz.prog) (hA:s.ob[i]?=some (gsO gq c x B m g true)) (hT:s.ob[j]?=some tbO) (hv:denL s.m vs=[.pointer (some ⟨gq,0,none⟩),.agg #[.int .i64 k,.int .i64 a,.int .i64 b,.slice dA dn dc]]) (hij:j≠i)
  (h:∀ y:DoI o',setO i (gsO gq c x B' y.1.1 g' true) s.ob fun ob=>appO ob (osO y.1.2.1 y.1.2.2.1 y.1.2.2.2) fun ob=>K (.t [.v (.slice y.1.2.1 o'.length y.1.2.2.1),.i .i64 r]) ⟨s.fr,s.m,ob⟩)
  (hen:entChk X.P f=true:=by kernel_rfl):CallVC X f vs s K:=by
 refine callON i (A:=gsO gq c x B m g true) (fun y:DoI o'=>.t [.v (.slice y.1.2.1 o'.length y.1.2.2.1),.i .i64 r]) (fun y=>gsO gq c x B' y.1.1 g' true) (fun y=>osO y.1.2.1 y.1.2.2.1 y.1.2.2.2) (fun w hH hA1=>?_) h hA rfl hen (fun _=>rfl)
 subst hf
 rw [hP,hv]
 obtain ⟨z1,z2⟩:=hz w hH
 have hTb:=hH.obj _ (List.mem_of_getElem? hT)
 have hdis:∀ y∈gmF gq x m,y∉tbO.F:=pair_at (R:=DisR) (fun _ _ h=>h.symm) hH.dis hA hT (Ne.symm hij) (.inl rfl)
 refine (doD (k:=k) (a:=a) (b:=b) (dc:=dc) hA1 hg hi hB z1 z2 hTb (tb_far (A:=gsO gq c x B m g true) hdis) hk).mono ?_
 rintro e w' hq
 unfold DoQ at hq
 rw [he] at hq
 obtain ⟨y,h1,h2,h3,h4,h5,h6⟩:=hq
 refine ⟨⟨y.1,y.2,fun h0=>?_⟩,h1,h2.more hB2,h3,h4,h5,h6⟩
 obtain ⟨q,hq⟩:=Ek.addr h3.r
 have e:y.1.2.2.2.length=o'.length:=(List.length_map ..).symm.trans (congrArg List.length y.2)
 exact ⟨q,hq (by omega)⟩
end
theorem do_2 (c:CfgV) (g:Gs) (a b:Int) (d:List Int):doV c g 2 a b d=((doV c g 2 a b d).1,[],0):=by unfold doV; rw [if_neg (by decide),if_pos rfl]
end Gw
namespace Gw
open Go.RowKit Ba Mem En Go.Proofs.YtepfmfalebmcnaaGreatDoor.Ty
open Fm (frames)
open Byt (BV isB)
open Co (KV newK Hold.ob)
set_option maxRecDepth 100000
attribute [local irreducible] Go.Calls
section
variable {X:Cx} {m:List Row} {ob:List Asr} {w:World}
end
section
variable {gq B:Nat} {c:CfgV} {x:Gp} {m:Gm} {g:Gs} {w:World}
theorem epochS {i:Int} (h:GSt gq c x B m g w) (hi:(Lit.int .i64 i).wf=true):Calls Tryz.prog 23 #[.pointer (some ⟨gq,0,none⟩),.int .i64 i] w fun e w'=>e=.returned (.int .i64 (epochV g.x.2 i))∧Since w w':=by
 have:=epochT h.t.b h.t.k h.t.g1 hi
 rw [h.v] at this; exact this
theorem viewsS (h:GSt gq c x B m g w) (h1:1≤g.x.1.G.cars.length∧g.x.1.G.cars.length≤8):Calls Tryz.prog 32 #[.pointer (some ⟨gq,0,none⟩)] w fun e w'=>∃ A' c',e=.returned (.slice A' g.x.1.G.cars.length c')∧viewE.At w.heap.size A' g.x.1.G.cars.length c' (g.x.1.G.cars.map viewOf) w'∧Since w w':=viewsT h.t.b h.t.k h.t.g1 (by omega) (by omega)
end
end Gw
namespace Gw
open Go.RowKit Ba Mem En Go.Proofs.YtepfmfalebmcnaaGreatDoor.Ty Mg
open Fm (frm frames)
open Byt (BV isB)
open Co (KV newK Hold.ob)
set_option maxRecDepth 100000
def cfgT:CfgV:=⟨1,3,0,2,0,0,0,0,0,0,0,0,0,0,0,0,9,2⟩
def helT1:List Int:=frm (bytesOf (helP 1 0))
def wanT:PktV:=⟨1,1,0,0,true,2,1,0,0⟩
def tp1:Gs:=(doV cfgT (gs0 cfgT) 2 0 0 helT1).1
def tp2:Gs:=(doV cfgT tp1 1 0 0 []).1
theorem helT1_len:helT1.length=27:=by kernel_rfl
theorem helT1_may:mayB (helP 1 0)=true:=by kernel_rfl
theorem tp2_out:(doV cfgT tp1 1 0 0 []).2=([(1,frm (bytesOf wanT))],0):=by kernel_rfl
theorem tp2_ep:epochV tp2.x.2 1=1:=by kernel_rfl
theorem tp1_e:doV cfgT (gs0 cfgT) 2 0 0 helT1=(tp1,[],0):=do_2 _ _ _ _ _
theorem tp2_e:doV cfgT tp1 1 0 0 []=(tp2,[(1,frm (bytesOf wanT))],0):=by rw [← tp2_out]; rfl
theorem hold_tt {nt:Nat} {w:World} (ht:Lib.TabIs Tryz.prog w "internal/strconv.uint64pow10" .u64 Lib.pow10Tab):Hold ⟨Tryz.prog,tab,[],w,nt,[]⟩ [] [tbO] w :=
 Hold.addObj (Hold.nil _ tab [] _ w) tbO ht (by intro k; cases k) (by intro r hr; cases hr) (by intro A hA; cases hA)
attribute [local irreducible] Go.Calls doV tp1 tp2
set_option maxHeartbeats 4000000 in
theorem ansTop {w:World} (ht:Lib.TabIs Tryz.prog w "internal/strconv.uint64pow10" .u64 Lib.pow10Tab):Calls Tryz.prog 36 #[] w fun e w'=>e=.returned (.bool true)∧Since w w':=by
 have hbo:=bytes_b (helP 1 0) rfl
 have hl:=helT1_len
 have hg0:GI cfgT 0 0 (gs0 cfgT):=GI.new cfgT
 have hg1:GI cfgT 1 (0+27) tp1:=by have:=hg0.do_ (by decide) (k:=2) (a:=0) (b:=0) (d:=helT1) (by omega) ⟨by decide,by decide⟩; rw [hl,tp1_e] at this; exact this
 refine entH tab_ok (hold_tt ht) [] Tryz.func36 Tryz.ntmps36 rfl rfl ?_
 repeat' (first | refine gs_ ?_|((conv=>whnf); first | intro b | refine callN (f:=21) (ι:=Nat×Gp×List Nat) (fun y=>.v (.pointer (some ⟨y.1,0,none⟩))) (fun y=>gsO y.1 cfgT y.2.1 0 (gm0 y.2.1 y.2.2) (gs0 cfgT) true) (fun w1 hH=>newS cfgT w1) (fun y=>?_)|refine callN (f:=20) (ι:=Option Addr×Nat) (fun x=>.v (.slice x.1 21 x.2)) (fun x=>rwO byteE w.heap.size x.1 21 x.2 (bytesOf (helP 1 0)) true) (fun w1 hH=>(bytesH (helP 1 0) helT1_may rfl w1).mono (by rintro e w' ⟨x,rfl,h1,h2⟩; rw [← hbo] at h1; exact ⟨x,rfl,Ek.base h1 hH.upd.size,h2,Ek.lows h1⟩)) (fun x=>?_)|refine callN (f:=19) (ι:=Option Addr×Nat) (fun z=>.v (.slice z.1 27 z.2)) (fun z=>rwO byteE w.heap.size z.1 27 z.2 helT1 true) (fun w1 hH=>(frmE x.1 x.2 (bytesOf (helP 1 0)) 21 27 w1 (Hold.ob hH (A:=rwO byteE w.heap.size x.1 21 x.2 (bytesOf (helP 1 0)) true) 2 rfl) (bytes_isB _) (by omega) helT1_len).mono (by rintro e w' ⟨z,rfl,h1,h2⟩; exact ⟨z,rfl,Ek.base h1 hH.upd.size,h2,Ek.lows h1⟩)) (fun z=>?_)|refine doX 1 0 helT1 (0+27) tp1_e hg0 (by decide) (by omega) (by omega) (by decide) (fun w1 hH=>⟨Byt.BV.of_own (byte_own.1 (Hold.ob hH (A:=rwO byteE w.heap.size z.1 27 z.2 helT1 true) 3 rfl)) (Fm.frm_isB (bytes_isB _)),fun g hg hm=>(pair_at (R:=DisR) (fun _ _ h=>h.symm) hH.dis (i:=1) (j:=3) rfl rfl (by decide) (.inl rfl)) g hm (rdF_blk g hg)⟩) rfl rfl rfl rfl rfl (by decide) (fun u1=>?_)|refine doX 1 0 [] (0+27) tp2_e hg1 (by decide) (by decide) (by decide) (by decide) (fun w1 hH=>⟨BV.nil _ _,by intro g hg; cases hg⟩) rfl rfl rfl rfl rfl (by decide) (fun u2=>?_)|refine fin_s ?_))
 conv=>whnf
 obtain ⟨⟨m2,A2,c2,os2⟩,hov,hA2⟩:=u2
 obtain ⟨g2,hg2⟩:=hA2 (by decide)
 have hg2:A2=some ⟨g2,0,none⟩:=hg2
 subst hg2
 have hov:outsV os2=[(1,frm (bytesOf wanT))]:=hov
 obtain ⟨A3,c3,rfl⟩:=outs_one hov
 repeat' (first | refine gs_ ?_|((conv=>whnf); first | intro b | refine br_t (by rfl) ?_|refine br_t (beq_self_eq_true _) ?_|refine opiv ⟨tab_ok⟩ (by rfl) (by rfl) (by rfl) (by rfl) (by rfl) (by rfl) ⟨by decide,by decide⟩ ?_|refine opfv ⟨tab_ok⟩ (by rfl) (by rfl) (by rfl) (by rfl) ?_|refine opxc (g:=g2) (off:=0+0*2+0) (.i .i64 1) (fun w1 hH=>rng_at (v:=.int .i64 1) (Ek.rng (x:=(⟨1,A3,c3,frm (bytesOf wanT)⟩:OutD)) (k:=0) (OsAt.r (Hold.ob hH (A:=osO (some ⟨g2,0,none⟩) c2 [⟨1,A3,c3,frm (bytesOf wanT)⟩]) 5 rfl)) rfl) rfl) ⟨tab_ok⟩ (by rfl) (by rfl) (by simp only [Go.WideShapes.add_plain]; rfl) ?_|refine callH (f:=23) (.i .i64 1) (fun w1 hH=>(by have:=epochS (i:=1) (Hold.ob hH (A:=gsO y.1 cfgT y.2.1 (0+27) m2 tp2 true) 1 rfl) (wf_small (by decide)); rw [tp2_ep] at this; exact this)) ?_|refine fin_s ?_))
 all_goals rfl
end Gw
namespace Gw
open Go.RowKit Ba Mem En Go.Proofs.YtepfmfalebmcnaaGreatDoor.Ty
open Fm (frames)
open Byt (BV isB)
open Fl (leaE)
open Qu (askE intE)
open Ri (opB aimF)
open Co (KV newK Hold.ob NrP toNp Nr)
open Pl (goodB_iff)
open Mo (lvB)
open Ct (mayB_iff)
set_option maxRecDepth 100000
theorem rk_su:Rk (fun K K'=>Lc.SU K.G K'.G):=⟨fun K=>Lc.SU.refl _,fun h k=>Lc.SU.trans h k,fun K s=>Lc.su_end K s,fun K a=>Lc.SU.refl _,fun K s m=>by
 show Lc.SU K.G (Co.hearK K s m).G
 unfold Co.hearK; split
 ·exact Lc.su_set _ _ _
 ·exact Lc.SU.refl _⟩
theorem doR_su {G:Gr.GrV} {k a b:Int} {y:Bool} (hk:1≤k∧k≤5):Lc.SU G (Gr.doR G k a b y).1:=by
 unfold Gr.doR
 split
 ·unfold Gr.hallR; (repeat' split) <;> exact ⟨rfl,fun i x h=>⟨x,h,rfl,rfl⟩⟩
 split
 ·unfold Gr.pressR; split
  ·exact Lc.SU.one _ _ (fun x=>by show (Gr.pressX _ x).ds=_∧(Gr.pressX _ x).un=_; unfold Gr.pressX; split <;> exact ⟨rfl,rfl⟩)
  ·exact Lc.SU.refl _
 split
 ·exact Lc.SU.one _ _ (fun x=>⟨rfl,rfl⟩)
 split
 ·exact Lc.SU.one _ _ (fun x=>⟨rfl,rfl⟩)
 split
 ·unfold Gr.faultR; split
  ·split
   ·have:=Lc.SU.one (G:=G) a (fun x=>(Gr.fltX x,0)) (fun x=>⟨rfl,rfl⟩)
    exact ⟨this.1,this.2⟩
   ·exact Lc.SU.refl _
  ·exact Lc.SU.one _ _ (fun x=>⟨rfl,rfl⟩)
 omega
def MvP (k:Int) (G G':Gr.GrV):Prop:=G'.cars.length=G.cars.length∧∀ (n:Nat) (x y:CarV),G.cars[n]?=some x→G'.cars[n]?=some y→x.un≠y.un→k=1∧x.ds=0∧y.ds=0
theorem mv_su {k:Int} {G G':Gr.GrV} (h:Lc.SU G G'):MvP k G G':=⟨h.1,fun n x y hx hy hne=>by
 obtain ⟨z,h1,_,h3⟩:=h.2 n x hx
 rw [hy] at h1
 exact absurd (Option.some.inj h1 ▸ h3).symm hne⟩
theorem mv_do {c:CfgV} {i B:Nat} {g:Gs} (hg:GI c i B g) (k a b:Int) (d:List Int):MvP k g.x.1.G (doV c g k a b d).1.x.1.G:=by
 unfold doV
 by_cases h1:k=1
 ·rw [if_pos h1]
  have h2:=rk_su.tick g.x
  refine ⟨h2.1.trans (Lc.tick_clen _),fun n x y hx hy hne=>?_⟩
  have hn:n < (Co.tickK g.x.1).G.cars.length:=by rw [Lc.tick_clen]; exact (List.getElem?_eq_some_iff.1 hx).1
  have hz:=List.getElem?_eq_getElem hn
  obtain ⟨z,h3,h4,h5⟩:=h2.2 n _ hz
  rw [show (tickG g.x).1.1.G.cars[n]?=some y from hy] at h3
  have e:=Option.some.inj h3
  subst e
  have:=Lc.tick_moves hg.j.p.k hx hz (fun e=>hne (e.trans h5.symm))
  exact ⟨h1,this.1,h4.trans this.2⟩
 rw [if_neg h1]
 by_cases h2:k=2
 ·rw [if_pos h2]
  exact mv_su (rk_su.run c _ (g.x,g.ep))
 rw [if_neg h2]
 by_cases h3:3≤k∧k≤7
 ·rw [if_pos h3]
  exact mv_su (doR_su (by omega))
 rw [if_neg h3]
 by_cases h8:k=8
 ·rw [if_pos h8]; exact mv_su (Lc.SU.refl _)
 ·rw [if_neg h8]; exact mv_su (Lc.SU.refl _)
theorem GI.lv {c:CfgV} {i B:Nat} {g:Gs} (h:GI c i B g) {n:Nat} {x:CarV} (hx:g.x.1.G.cars[n]?=some x) (hd:x.ds≠0):x.un.tmod 4=0:=by
 have h1:=(h.j.p.k.g.2.2.1 x (List.mem_of_getElem? hx)).1
 have h2:=((goodB_iff c x).1 ((mayB_iff c x).1 h1).1).2.2.2.2.resolve_left hd
 have h3:0≤x.un∧x.un≤252∧x.un % 4=0:=by unfold lvB at h2; simpa using h2
 rw [Int.tmod_eq_emod_of_nonneg h3.1]
 exact h3.2.2
attribute [local irreducible] Go.Calls doV tickG
set_option maxHeartbeats 8000000 in
theorem wlockF (c:CfgV) {a:Option Addr} {len cap:Nat} {ss:Nat→StepD} {w:World} (h:StR a len ss w) (hw:∀ i,i < len→StepW (ss i)) (hlen:len≤9223372036854775807) (ht:Lib.TabIs Tryz.prog w "internal/strconv.uint64pow10" .u64 Lib.pow10Tab):Calls Tryz.prog 10 #[(aCfg c),.slice a len cap] w fun e w'=>e=.returned (.bool true)∧Since w w':=by
 obtain ⟨gb,off,hb⟩:=Ek.rd_addr h.r
 refine entH tab_ok (hold_tb h ht) [.a (sCfg c),.v (.slice a len cap)] Tryz.func10 Tryz.ntmps10 rfl rfl ?_
 cases hl:litB ss len with
 | false =>
  repeat' (first | refine gs_ ?_|((conv=>whnf); first | intro b | refine callH (f:=35) (.b false) (fun w1 hH=>(by have:=lightT (cap:=cap) (Hold.ob hH (A:=stO a len ss) 0 rfl) hlen; rw [hl] at this; exact this)) ?_|refine callH (f:=36) (.b true) (fun w1 hH=>ansTop (Hold.ob hH (A:=tbO) 1 rfl)) ?_|refine fin_s ?_))
  all_goals rfl
 | true =>
  obtain ⟨h3,h2⟩:=lit_of hl hw
  repeat' (first | refine gs_ ?_|((conv=>whnf); first | intro b | refine bto ?_|refine bfo ?_|refine callH (f:=35) (.b true) (fun w1 hH=>(by have:=lightT (cap:=cap) (Hold.ob hH (A:=stO a len ss) 0 rfl) hlen; rw [hl] at this; exact this)) ?_|refine callN (f:=21) (ι:=Nat×Gp×List Nat) (fun y=>.v (.pointer (some ⟨y.1,0,none⟩))) (fun y=>gsO y.1 c y.2.1 0 (gm0 y.2.1 y.2.2) (gs0 c) true) (fun w1 hH=>newS c w1) (fun y=>?_)|refine fin_s ?_))
  conv=>whnf
  obtain ⟨q1,x1,Sk1⟩:=y
  refine lp ⟨tab_ok⟩ (ι:={v:(Nat×Gm)×Gs // v.1.1≤len∧GI c v.1.1 (sumT ss v.1.1) v.2}) (fun v=>match v with | ⟨((k,m),g),_⟩=>⟨[(1,.v (.slice a len cap)),(5,.v (.pointer (some ⟨q1,0,none⟩))),(6,.i .i64 (k:Int))],[],[stO a len ss,tbO,gsO q1 c x1 (sumT ss k) m g true]⟩) (fun v=>len - v.1.1.1) ⟨((0,gm0 x1 Sk1),gs0 c),Nat.zero_le _,GI.new c⟩ (wk ?_) ?_
  ·repeat' (first | exact trivial | rfl | ((conv=>whnf); refine And.intro ?_ ?_))
  rintro ⟨⟨⟨k,m⟩,g⟩,hk,hg⟩
  have hk:k≤len:=hk
  have hg:GI c k (sumT ss k) g:=hg
  by_cases hlt:k < len
  ·have hb:=hb (by omega)
   subst hb
   have hW:=hw k hlt
   have hWl:=hW.l
   have hsm:=sumT_at (ss:=ss) hlt
   have hs1:sumT ss (k+1)=sumT ss k+(ss k).n:=rfl
   have hb64:n64 (ss k).b:=n64_of hW.b
   obtain ⟨G',O',R',he1⟩:∃ G' O' R',doV c g (ss k).k (ss k).a (ss k).b (ss k).d=(G',O',R'):=⟨_,_,_,rfl⟩
   have hg1:GI c (k+1) (sumT ss k+(ss k).d.length) G':=by have:=hg.do_ (by omega) (k:=(ss k).k) (a:=(ss k).a) (d:=(ss k).d) (by omega) hb64; rwa [he1] at this
   rw [hWl] at hg1
   have hlen7:=hg.len
   have hlen8:=hg1.len
   have hmv:MvP (ss k).k g.x.1.G G'.x.1.G:=by have:=mv_do hg (ss k).k (ss k).a (ss k).b (ss k).d; rwa [he1] at this
   have hle:=hmv.1
   repeat' (first | refine gs_ ?_|((conv=>whnf); first | intro b2 | refine bto ?_|refine bfo ?_|refine wr_i ?_|refine cd (by first | decide | omega) ?_|refine br_f (bne_refl _) ?_|refine opiv ⟨tab_ok⟩ (by rfl) (by rfl) (by rfl) (by rfl) (by rfl) (by rfl) ⟨by omega,by omega⟩ ?_|refine puiv ⟨tab_ok⟩ (by rfl) (by rfl) (by rfl) (by rfl) (by rfl) (by rfl) ⟨by omega,by omega⟩ ?_|refine opfv ⟨tab_ok⟩ (by rfl) (by rfl) (by rfl) (by rfl) ?_|refine pufv ⟨tab_ok⟩ (by rfl) (by rfl) (by rfl) (by rfl) ?_|refine opix (g:=gb) (off:=off+k*4) [.i .i64 (ss k).k,.i .i64 (ss k).a,.i .i64 (ss k).b,.v (.slice (ss k).A (ss k).n (ss k).c)] (fun w hH=>Ek.rd_rng (StR.r (Hold.ob hH (A:=stO (some ⟨gb,off,none⟩) len ss) 0 rfl)) hlt) ⟨tab_ok⟩ (by rfl) (by rfl) (by first | (simp only [Go.WideShapes.add_plain]; done)|(simp only [Go.WideShapes.add_plain]; rfl)) ?_|refine doX 2 1 (ss k).d (sumT ss (k+1)) he1 hg (by omega) (by omega) (by omega) hW.k (fun w hH=>hz_st hH (i:=0) (j:=2) rfl rfl (by decide) hlt) rfl rfl rfl rfl rfl (by decide) (fun u1=>?_)|refine callN (f:=32) (ι:=NrP w.heap.size g.x.1.G.cars.length) (fun x=>.v (.slice x.1.2.1 g.x.1.G.cars.length x.1.2.2)) (fun x=>rwO viewE x.1.1 x.1.2.1 g.x.1.G.cars.length x.1.2.2 (g.x.1.G.cars.map viewOf) true) (fun w1 hH=>toNp (viewsS (Hold.ob hH (A:=gsO q1 c x1 (sumT ss k) m g true) 2 rfl) hlen7) hH.upd.size) (fun ua=>?_)|refine callN (f:=32) (ι:=NrP w.heap.size g.x.1.G.cars.length) (fun x=>.v (.slice x.1.2.1 g.x.1.G.cars.length x.1.2.2)) (fun x=>rwO viewE x.1.1 x.1.2.1 g.x.1.G.cars.length x.1.2.2 (G'.x.1.G.cars.map viewOf) true) (fun w1 hH=>toNp (by have:=viewsS (Hold.ob hH (A:=gsO q1 c x1 (sumT ss (k+1)) u1.1.1 G' true) 2 rfl) hlen8; rw [hle] at this; exact this) hH.upd.size) (fun ub=>?_)|refine fin_s ?_))
   conv=>whnf
   obtain ⟨⟨l7,A7,c7⟩,hl7,hA7⟩:=ua
   obtain ⟨⟨l8,A8,c8⟩,hl8,hA8⟩:=ub
   have hA7:0 < g.x.1.G.cars.length→∃ g,A7=some ⟨g,0,none⟩:=hA7
   have hA8:0 < g.x.1.G.cars.length→∃ g,A8=some ⟨g,0,none⟩:=hA8
   obtain ⟨ga,hga⟩:=hA7 (by omega)
   obtain ⟨gv,hgv⟩:=hA8 (by omega)
   subst hga hgv
   refine lp ⟨tab_ok⟩ (ι:={n:Nat // n≤g.x.1.G.cars.length}) (fun v=>match v with | ⟨n,_⟩=>⟨[(1,.v (.slice (some ⟨gb,off,none⟩) len cap)),(5,.v (.pointer (some ⟨q1,0,none⟩))),(6,.i .i64 (k:Int)),(7,.v (.slice (some ⟨ga,0,none⟩) g.x.1.G.cars.length c7)),(8,.v (.slice (some ⟨gv,0,none⟩) g.x.1.G.cars.length c8)),(9,.i .i64 (n:Int))],[],[stO (some ⟨gb,off,none⟩) len ss,tbO,gsO q1 c x1 (sumT ss (k+1)) u1.1.1 G' true,rwO viewE l7 (some ⟨ga,0,none⟩) g.x.1.G.cars.length c7 (g.x.1.G.cars.map viewOf) true,osO u1.1.2.1 u1.1.2.2.1 u1.1.2.2.2,rwO viewE l8 (some ⟨gv,0,none⟩) g.x.1.G.cars.length c8 (G'.x.1.G.cars.map viewOf) true]⟩) (fun v=>g.x.1.G.cars.length - v.1) ⟨0,Nat.zero_le _⟩ (wkd ?_) ?_
   ·repeat' (first | exact trivial | rfl | ((conv=>whnf); refine And.intro ?_ ?_))
   rintro ⟨n,hn⟩
   have hn:n≤g.x.1.G.cars.length:=hn
   by_cases hlt3:n < g.x.1.G.cars.length
   ·obtain ⟨x,hx⟩:∃ x,g.x.1.G.cars[n]?=some x:=⟨_,List.getElem?_eq_getElem hlt3⟩
    obtain ⟨y,hy⟩:∃ y,G'.x.1.G.cars[n]?=some y:=⟨_,List.getElem?_eq_getElem (by omega)⟩
    have hvx:(g.x.1.G.cars.map viewOf)[n]?=some (viewOf x):=by rw [List.getElem?_map,hx]; rfl
    have hvy:(G'.x.1.G.cars.map viewOf)[n]?=some (viewOf y):=by rw [List.getElem?_map,hy]; rfl
    by_cases hu:(viewOf x).un=(viewOf y).un
    ·by_cases hd:(viewOf y).ds=0
     ·repeat' (first | refine gq_ ?_|((conv=>whnf); first | intro b | refine drA ⟨tab_ok⟩ [4,9,16,23,31,40,47] ?_|refine And.intro ?_ ?_|refine bto ?_|refine bfo ?_|refine wr_i ?_|refine cd (by first | decide | omega) ?_|refine br_f (bne_f' hu) ?_|refine br_f (bne_f' hd) ?_|refine opiv ⟨tab_ok⟩ (by rfl) (by rfl) (by rfl) (by rfl) (by rfl) (by rfl) ⟨by omega,by omega⟩ ?_|refine puiv ⟨tab_ok⟩ (by rfl) (by rfl) (by rfl) (by rfl) (by rfl) (by rfl) ⟨by omega,by omega⟩ ?_|refine opfv ⟨tab_ok⟩ (by rfl) (by rfl) (by rfl) (by rfl) ?_|refine pufv ⟨tab_ok⟩ (by rfl) (by rfl) (by rfl) (by rfl) ?_|refine opxc (g:=ga) (off:=0+n*5+0) (.i .i64 (viewOf x).un) (fun w hH=>rng_at (Ek.rng (Hold.ob hH (A:=rwO viewE l7 (some ⟨ga,0,none⟩) g.x.1.G.cars.length c7 (g.x.1.G.cars.map viewOf) true) 3 rfl) hvx) rfl) ⟨tab_ok⟩ (by rfl) (by rfl) (by first | (simp only [Go.WideShapes.add_plain]; done)|(simp only [Go.WideShapes.add_plain]; rfl)) ?_|refine opxc (g:=gv) (off:=0+n*5+0) (.i .i64 (viewOf y).un) (fun w hH=>rng_at (Ek.rng (Hold.ob hH (A:=rwO viewE l8 (some ⟨gv,0,none⟩) g.x.1.G.cars.length c8 (G'.x.1.G.cars.map viewOf) true) 5 rfl) hvy) rfl) ⟨tab_ok⟩ (by rfl) (by rfl) (by first | (simp only [Go.WideShapes.add_plain]; done)|(simp only [Go.WideShapes.add_plain]; rfl)) ?_|refine opxc (g:=ga) (off:=0+n*5+1) (.i .i64 (viewOf x).ds) (fun w hH=>rng_at (Ek.rng (Hold.ob hH (A:=rwO viewE l7 (some ⟨ga,0,none⟩) g.x.1.G.cars.length c7 (g.x.1.G.cars.map viewOf) true) 3 rfl) hvx) rfl) ⟨tab_ok⟩ (by rfl) (by rfl) (by first | (simp only [Go.WideShapes.add_plain]; done)|(simp only [Go.WideShapes.add_plain]; rfl)) ?_|refine opxc (g:=gv) (off:=0+n*5+1) (.i .i64 (viewOf y).ds) (fun w hH=>rng_at (Ek.rng (Hold.ob hH (A:=rwO viewE l8 (some ⟨gv,0,none⟩) g.x.1.G.cars.length c8 (G'.x.1.G.cars.map viewOf) true) 5 rfl) hvy) rfl) ⟨tab_ok⟩ (by rfl) (by rfl) (by first | (simp only [Go.WideShapes.add_plain]; done)|(simp only [Go.WideShapes.add_plain]; rfl)) ?_|refine En.back ⟨n+1,by show n+1≤_; omega⟩ (wkd ?_) ?_|refine fin_s ?_))
      all_goals first | (show g.x.1.G.cars.length - (n+1) < g.x.1.G.cars.length - n; omega)|skip
      all_goals (repeat' (first | exact trivial | rfl | ((conv=>whnf); refine And.intro ?_ ?_)))
     ·have hlv:(viewOf y).un.tmod 4=0:=hg1.lv hy hd
      repeat' (first | refine gq_ ?_|((conv=>whnf); first | intro b | refine drA ⟨tab_ok⟩ [4,9,16,23,31,40,47] ?_|refine And.intro ?_ ?_|refine bto ?_|refine bfo ?_|refine wr_i ?_|refine cd (by first | decide | omega) ?_|refine br_f (bne_f' hu) ?_|refine br_t (bne_iff_ne.2 hd) ?_|refine br_f (bne_f' hlv) ?_|refine opiv ⟨tab_ok⟩ (by rfl) (by rfl) (by rfl) (by rfl) (by rfl) (by rfl) ⟨by omega,by omega⟩ ?_|refine puiv ⟨tab_ok⟩ (by rfl) (by rfl) (by rfl) (by rfl) (by rfl) (by rfl) ⟨by omega,by omega⟩ ?_|refine opfv ⟨tab_ok⟩ (by rfl) (by rfl) (by rfl) (by rfl) ?_|refine pufv ⟨tab_ok⟩ (by rfl) (by rfl) (by rfl) (by rfl) ?_|refine opxc (g:=ga) (off:=0+n*5+0) (.i .i64 (viewOf x).un) (fun w hH=>rng_at (Ek.rng (Hold.ob hH (A:=rwO viewE l7 (some ⟨ga,0,none⟩) g.x.1.G.cars.length c7 (g.x.1.G.cars.map viewOf) true) 3 rfl) hvx) rfl) ⟨tab_ok⟩ (by rfl) (by rfl) (by first | (simp only [Go.WideShapes.add_plain]; done)|(simp only [Go.WideShapes.add_plain]; rfl)) ?_|refine opxc (g:=gv) (off:=0+n*5+0) (.i .i64 (viewOf y).un) (fun w hH=>rng_at (Ek.rng (Hold.ob hH (A:=rwO viewE l8 (some ⟨gv,0,none⟩) g.x.1.G.cars.length c8 (G'.x.1.G.cars.map viewOf) true) 5 rfl) hvy) rfl) ⟨tab_ok⟩ (by rfl) (by rfl) (by first | (simp only [Go.WideShapes.add_plain]; done)|(simp only [Go.WideShapes.add_plain]; rfl)) ?_|refine opxc (g:=ga) (off:=0+n*5+1) (.i .i64 (viewOf x).ds) (fun w hH=>rng_at (Ek.rng (Hold.ob hH (A:=rwO viewE l7 (some ⟨ga,0,none⟩) g.x.1.G.cars.length c7 (g.x.1.G.cars.map viewOf) true) 3 rfl) hvx) rfl) ⟨tab_ok⟩ (by rfl) (by rfl) (by first | (simp only [Go.WideShapes.add_plain]; done)|(simp only [Go.WideShapes.add_plain]; rfl)) ?_|refine opxc (g:=gv) (off:=0+n*5+1) (.i .i64 (viewOf y).ds) (fun w hH=>rng_at (Ek.rng (Hold.ob hH (A:=rwO viewE l8 (some ⟨gv,0,none⟩) g.x.1.G.cars.length c8 (G'.x.1.G.cars.map viewOf) true) 5 rfl) hvy) rfl) ⟨tab_ok⟩ (by rfl) (by rfl) (by first | (simp only [Go.WideShapes.add_plain]; done)|(simp only [Go.WideShapes.add_plain]; rfl)) ?_|refine En.back ⟨n+1,by show n+1≤_; omega⟩ (wkd ?_) ?_|refine fin_s ?_))
      all_goals first | (show g.x.1.G.cars.length - (n+1) < g.x.1.G.cars.length - n; omega)|skip
      all_goals (repeat' (first | exact trivial | rfl | ((conv=>whnf); refine And.intro ?_ ?_)))
    ·obtain ⟨hk1,hd1,hd2⟩:=hmv.2 n x y hx hy hu
     have hd1:(viewOf x).ds=0:=hd1
     have hd2:(viewOf y).ds=0:=hd2
     repeat' (first | refine gq_ ?_|((conv=>whnf); first | intro b | refine drA ⟨tab_ok⟩ [4,9,16,23,31,40,47] ?_|refine And.intro ?_ ?_|refine bto ?_|refine bfo ?_|refine wr_i ?_|refine cd (by first | decide | omega) ?_|refine br_t (bne_iff_ne.2 hu) ?_|refine br_f (bne_f' hd1) ?_|refine br_f (bne_f' hd2) ?_|refine br_f (bne_f' hk1) ?_|refine opiv ⟨tab_ok⟩ (by rfl) (by rfl) (by rfl) (by rfl) (by rfl) (by rfl) ⟨by omega,by omega⟩ ?_|refine puiv ⟨tab_ok⟩ (by rfl) (by rfl) (by rfl) (by rfl) (by rfl) (by rfl) ⟨by omega,by omega⟩ ?_|refine opfv ⟨tab_ok⟩ (by rfl) (by rfl) (by rfl) (by rfl) ?_|refine pufv ⟨tab_ok⟩ (by rfl) (by rfl) (by rfl) (by rfl) ?_|refine opxc (g:=ga) (off:=0+n*5+0) (.i .i64 (viewOf x).un) (fun w hH=>rng_at (Ek.rng (Hold.ob hH (A:=rwO viewE l7 (some ⟨ga,0,none⟩) g.x.1.G.cars.length c7 (g.x.1.G.cars.map viewOf) true) 3 rfl) hvx) rfl) ⟨tab_ok⟩ (by rfl) (by rfl) (by first | (simp only [Go.WideShapes.add_plain]; done)|(simp only [Go.WideShapes.add_plain]; rfl)) ?_|refine opxc (g:=gv) (off:=0+n*5+0) (.i .i64 (viewOf y).un) (fun w hH=>rng_at (Ek.rng (Hold.ob hH (A:=rwO viewE l8 (some ⟨gv,0,none⟩) g.x.1.G.cars.length c8 (G'.x.1.G.cars.map viewOf) true) 5 rfl) hvy) rfl) ⟨tab_ok⟩ (by rfl) (by rfl) (by first | (simp only [Go.WideShapes.add_plain]; done)|(simp only [Go.WideShapes.add_plain]; rfl)) ?_|refine opxc (g:=ga) (off:=0+n*5+1) (.i .i64 (viewOf x).ds) (fun w hH=>rng_at (Ek.rng (Hold.ob hH (A:=rwO viewE l7 (some ⟨ga,0,none⟩) g.x.1.G.cars.length c7 (g.x.1.G.cars.map viewOf) true) 3 rfl) hvx) rfl) ⟨tab_ok⟩ (by rfl) (by rfl) (by first | (simp only [Go.WideShapes.add_plain]; done)|(simp only [Go.WideShapes.add_plain]; rfl)) ?_|refine opxc (g:=gv) (off:=0+n*5+1) (.i .i64 (viewOf y).ds) (fun w hH=>rng_at (Ek.rng (Hold.ob hH (A:=rwO viewE l8 (some ⟨gv,0,none⟩) g.x.1.G.cars.length c8 (G'.x.1.G.cars.map viewOf) true) 5 rfl) hvy) rfl) ⟨tab_ok⟩ (by rfl) (by rfl) (by first | (simp only [Go.WideShapes.add_plain]; done)|(simp only [Go.WideShapes.add_plain]; rfl)) ?_|refine opxc (g:=gb) (off:=off+k*4+0) (.i .i64 (ss k).k) (fun w hH=>rng_at (Ek.rd_rng (StR.r (Hold.ob hH (A:=stO (some ⟨gb,off,none⟩) len ss) 0 rfl)) hlt) rfl) ⟨tab_ok⟩ (by rfl) (by rfl) (by first | (simp only [Go.WideShapes.add_plain]; done)|(simp only [Go.WideShapes.add_plain]; rfl)) ?_|refine En.back ⟨n+1,by show n+1≤_; omega⟩ (wkd ?_) ?_|refine fin_s ?_))
     all_goals first | (show g.x.1.G.cars.length - (n+1) < g.x.1.G.cars.length - n; omega)|skip
     all_goals (repeat' (first | exact trivial | rfl | ((conv=>whnf); refine And.intro ?_ ?_)))
   ·repeat' (first | refine gs_ ?_|((conv=>whnf); first | intro b | refine bto ?_|refine bfo ?_|refine wr_i ?_|refine En.back ⟨((k+1,u1.1.1),G'),by show k+1≤len; omega,hg1⟩ (wkd ?_) ?_|refine fin_s ?_))
    all_goals first | (show len - (k+1) < len - k; omega)|skip
    all_goals (repeat' (first | exact trivial | rfl | ((conv=>whnf); refine And.intro ?_ ?_)))
  ·repeat' (first | refine gs_ ?_|((conv=>whnf); first | intro b | refine bto ?_|refine bfo ?_|refine callH (f:=36) (.b true) (fun w1 hH=>ansTop (Hold.ob hH (A:=tbO) 1 rfl)) ?_|refine fin_s ?_))
   all_goals rfl
theorem wlockL {H:Type} {enc:TypeId×Value→H} {x:DataW H×List MemPlace} (c:CfgV) {a:Option Addr} {len cap:Nat} {w:World} (ht:Lib.TabIs Tryz.prog w "internal/strconv.uint64pow10" .u64 Lib.pow10Tab) (hx:∃ m,DataW.trod enc Tryz.prog w 0 (fun _=>true) true m 24 (Value.cells (.slice a len cap)).toList=some x) (hU:∀ u∈x.1.weights Tryz.prog 24,u≤reachBytes):Calls Tryz.prog 10 #[(aCfg c),.slice a len cap] w fun e w'=>e=.returned (.bool true)∧Since w w':=by
 obtain ⟨ss,h1,h2,h3⟩:=steps_in hx hU
 exact wlockF c h1 h2 h3 ht
end Gw
end Go.Proofs.YtepfmfalebmcnaaGreatDoor
