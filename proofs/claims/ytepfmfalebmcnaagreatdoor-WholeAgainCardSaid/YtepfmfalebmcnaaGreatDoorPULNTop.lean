/-
  Wanted: NTop.
  No condition.
-/
import Derived.Test.YtepfmfalebmcnaaGreatDoorPU17
set_option linter.all false
namespace Go.Proofs.YtepfmfalebmcnaaGreatDoor
namespace Gw
open Go.RowKit Ba Mem En Go.Proofs.YtepfmfalebmcnaaGreatDoor.Ty Mg
open Fm (frm frames)
open Byt (BV isB)
open Co (KV newK Hold.ob)
set_option maxRecDepth 100000
def cfgT:CfgV:=⟨1,3,0,2,0,0,0,0,0,0,0,0,0,0,0,0,9,2⟩
def helT1:List Int:=frm (bytesOf (helP 1 0))
def wanT:PktV:=⟨1,1,0,0,true,2,1,0,0⟩
def tp1:Gs:=(doV cfgT (gs0 cfgT) 2 0 0 helT1).1
def tp2:Gs:=(doV cfgT tp1 1 0 0 []).1
theorem helT1_len:helT1.length=27:=by kernel_rfl
theorem helT1_may:mayB (helP 1 0)=true:=by kernel_rfl
theorem tp2_out:(doV cfgT tp1 1 0 0 []).2=([(1,frm (bytesOf wanT))],0):=by kernel_rfl
theorem tp2_ep:epochV tp2.x.2 1=1:=by kernel_rfl
theorem tp1_e:doV cfgT (gs0 cfgT) 2 0 0 helT1=(tp1,[],0):=do_2 _ _ _ _ _
theorem tp2_e:doV cfgT tp1 1 0 0 []=(tp2,[(1,frm (bytesOf wanT))],0):=by rw [← tp2_out]; rfl
theorem hold_tt {nt:Nat} {w:World} (ht:Lib.TabIs Tryz.prog w "internal/strconv.uint64pow10" .u64 Lib.pow10Tab):Hold ⟨Tryz.prog,tab,[],w,nt,[]⟩ [] [tbO] w :=
 Hold.addObj (Hold.nil _ tab [] _ w) tbO ht (by intro k; cases k) (by intro r hr; cases hr) (by intro A hA; cases hA)
attribute [local irreducible] Go.Calls doV tp1 tp2
set_option maxHeartbeats 4000000 in
theorem ansTop {w:World} (ht:Lib.TabIs Tryz.prog w "internal/strconv.uint64pow10" .u64 Lib.pow10Tab):Calls Tryz.prog 36 #[] w fun e w'=>e=.returned (.bool true)∧Since w w':=by
 have hbo:=bytes_b (helP 1 0) rfl
 have hl:=helT1_len
 have hg0:GI cfgT 0 0 (gs0 cfgT):=GI.new cfgT
 have hg1:GI cfgT 1 (0+27) tp1:=by have:=hg0.do_ (by decide) (k:=2) (a:=0) (b:=0) (d:=helT1) (by omega) ⟨by decide,by decide⟩; rw [hl,tp1_e] at this; exact this
 refine entH tab_ok (hold_tt ht) [] Tryz.func36 Tryz.ntmps36 rfl rfl ?_
 repeat' (first | refine gs_ ?_|((conv=>whnf); first | intro b | refine callN (f:=21) (ι:=Nat×Gp×List Nat) (fun y=>.v (.pointer (some ⟨y.1,0,none⟩))) (fun y=>gsO y.1 cfgT y.2.1 0 (gm0 y.2.1 y.2.2) (gs0 cfgT) true) (fun w1 hH=>newS cfgT w1) (fun y=>?_)|refine callN (f:=20) (ι:=Option Addr×Nat) (fun x=>.v (.slice x.1 21 x.2)) (fun x=>rwO byteE w.heap.size x.1 21 x.2 (bytesOf (helP 1 0)) true) (fun w1 hH=>(bytesH (helP 1 0) helT1_may rfl w1).mono (by rintro e w' ⟨x,rfl,h1,h2⟩; rw [← hbo] at h1; exact ⟨x,rfl,Ek.base h1 hH.upd.size,h2,Ek.lows h1⟩)) (fun x=>?_)|refine callN (f:=19) (ι:=Option Addr×Nat) (fun z=>.v (.slice z.1 27 z.2)) (fun z=>rwO byteE w.heap.size z.1 27 z.2 helT1 true) (fun w1 hH=>(frmE x.1 x.2 (bytesOf (helP 1 0)) 21 27 w1 (Hold.ob hH (A:=rwO byteE w.heap.size x.1 21 x.2 (bytesOf (helP 1 0)) true) 2 rfl) (bytes_isB _) (by omega) helT1_len).mono (by rintro e w' ⟨z,rfl,h1,h2⟩; exact ⟨z,rfl,Ek.base h1 hH.upd.size,h2,Ek.lows h1⟩)) (fun z=>?_)|refine doX 1 0 helT1 (0+27) tp1_e hg0 (by decide) (by omega) (by omega) (by decide) (fun w1 hH=>⟨Byt.BV.of_own (byte_own.1 (Hold.ob hH (A:=rwO byteE w.heap.size z.1 27 z.2 helT1 true) 3 rfl)) (Fm.frm_isB (bytes_isB _)),fun g hg hm=>(pair_at (R:=DisR) (fun _ _ h=>h.symm) hH.dis (i:=1) (j:=3) rfl rfl (by decide) (.inl rfl)) g hm (rdF_blk g hg)⟩) rfl rfl rfl rfl rfl (by decide) (fun u1=>?_)|refine doX 1 0 [] (0+27) tp2_e hg1 (by decide) (by decide) (by decide) (by decide) (fun w1 hH=>⟨BV.nil _ _,by intro g hg; cases hg⟩) rfl rfl rfl rfl rfl (by decide) (fun u2=>?_)|refine fin_s ?_))
 conv=>whnf
 obtain ⟨⟨m2,A2,c2,os2⟩,hov,hA2⟩:=u2
 obtain ⟨g2,hg2⟩:=hA2 (by decide)
 have hg2:A2=some ⟨g2,0,none⟩:=hg2
 subst hg2
 have hov:outsV os2=[(1,frm (bytesOf wanT))]:=hov
 obtain ⟨A3,c3,rfl⟩:=outs_one hov
 repeat' (first | refine gs_ ?_|((conv=>whnf); first | intro b | refine br_t (by rfl) ?_|refine br_t (beq_self_eq_true _) ?_|refine opiv ⟨tab_ok⟩ (by rfl) (by rfl) (by rfl) (by rfl) (by rfl) (by rfl) ⟨by decide,by decide⟩ ?_|refine opfv ⟨tab_ok⟩ (by rfl) (by rfl) (by rfl) (by rfl) ?_|refine opxc (g:=g2) (off:=0+0*2+0) (.i .i64 1) (fun w1 hH=>rng_at (v:=.int .i64 1) (Ek.rng (x:=(⟨1,A3,c3,frm (bytesOf wanT)⟩:OutD)) (k:=0) (OsAt.r (Hold.ob hH (A:=osO (some ⟨g2,0,none⟩) c2 [⟨1,A3,c3,frm (bytesOf wanT)⟩]) 5 rfl)) rfl) rfl) ⟨tab_ok⟩ (by rfl) (by rfl) (by simp only [Go.WideShapes.add_plain]; rfl) ?_|refine callH (f:=23) (.i .i64 1) (fun w1 hH=>(by have:=epochS (i:=1) (Hold.ob hH (A:=gsO y.1 cfgT y.2.1 (0+27) m2 tp2 true) 1 rfl) (wf_small (by decide)); rw [tp2_ep] at this; exact this)) ?_|refine fin_s ?_))
 all_goals rfl
end Gw
end Go.Proofs.YtepfmfalebmcnaaGreatDoor
