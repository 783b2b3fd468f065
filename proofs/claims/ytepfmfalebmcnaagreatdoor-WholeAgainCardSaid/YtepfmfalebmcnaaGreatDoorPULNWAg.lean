/-
  Wanted: NWAg.
  No condition.
-/
import Derived.Test.YtepfmfalebmcnaaGreatDoorPULNTop
import Derived.Test.YtepfmfalebmcnaaGreatDoorPU17
set_option linter.all false
namespace Go.Proofs.YtepfmfalebmcnaaGreatDoor
namespace Gw
open Go.RowKit Ba Mem En Go.Proofs.YtepfmfalebmcnaaGreatDoor.Ty
open Fm (frames)
open Byt (BV isB)
open Co (KV newK Hold.ob)
set_option maxRecDepth 100000
attribute [local irreducible] Go.Calls doV
set_option maxHeartbeats 8000000 in
theorem againF (c:CfgV) (cut:Int) (hc:0≤cut∧cut≤255) {a:Option Addr} {len cap:Nat} {ss:Nat→StepD} {w:World} (h:StR a len ss w) (hw:∀ i,i < len→StepW (ss i)) (hlen:len≤9223372036854775807) (ht:Lib.TabIs Tryz.prog w "internal/strconv.uint64pow10" .u64 Lib.pow10Tab):Calls Tryz.prog 15 #[(aCfg c),.slice a len cap,.int .u8 cut] w fun e w'=>e=.returned (.bool true)∧Since w w':=by
 obtain ⟨gb,off,hb⟩:=Ek.rd_addr h.r
 refine entH tab_ok (hold_tb h ht) [.a (sCfg c),.v (.slice a len cap),.i .u8 cut] Tryz.func15 Tryz.ntmps15 rfl rfl ?_
 cases hl:litB ss len with
 | false =>
  repeat' (first | refine gs_ ?_|((conv=>whnf); first | intro b | refine callH (f:=35) (.b false) (fun w1 hH=>(by have:=lightT (cap:=cap) (Hold.ob hH (A:=stO a len ss) 0 rfl) hlen; rw [hl] at this; exact this)) ?_|refine callH (f:=36) (.b true) (fun w1 hH=>ansTop (Hold.ob hH (A:=tbO) 1 rfl)) ?_|refine fin_s ?_))
  all_goals rfl
 | true =>
  obtain ⟨h3,h2⟩:=lit_of hl hw
  repeat' (first | refine gs_ ?_|((conv=>whnf); first | intro b | refine callH (f:=35) (.b true) (fun w1 hH=>(by have:=lightT (cap:=cap) (Hold.ob hH (A:=stO a len ss) 0 rfl) hlen; rw [hl] at this; exact this)) ?_|refine callN (f:=21) (ι:=Nat×Gp×List Nat) (fun y=>.v (.pointer (some ⟨y.1,0,none⟩))) (fun y=>gsO y.1 c y.2.1 0 (gm0 y.2.1 y.2.2) (gs0 c) true) (fun w1 hH=>newS c w1) (fun y=>?_)|refine fin_s ?_))
  conv=>whnf
  rename_i y1
  obtain ⟨q1,x1,Sk1⟩:=y1
  obtain ⟨q2,x2,Sk2⟩:=y
  refine lp ⟨tab_ok⟩ (ι:={v:(Nat×Gm×Gm)×Gs // v.1.1≤len∧GI c v.1.1 (sumT ss v.1.1) v.2}) (fun v=>match v with | ⟨((k,m1,m2),g),_⟩=>⟨[(1,.v (.slice a len cap)),(2,.i .u8 cut),(7,.v (.pointer (some ⟨q1,0,none⟩))),(8,.v (.pointer (some ⟨q2,0,none⟩))),(9,.i .i64 (k:Int))],[],[stO a len ss,tbO,gsO q1 c x1 (sumT ss k) m1 g true,gsO q2 c x2 (sumT ss k) m2 g true]⟩) (fun v=>len - v.1.1.1) ⟨((0,gm0 x1 Sk1,gm0 x2 Sk2),gs0 c),Nat.zero_le _,GI.new c⟩ (wk ?_) ?_
  ·repeat' (first | exact trivial | rfl | ((conv=>whnf); refine And.intro ?_ ?_))
  rintro ⟨⟨⟨k,m1,m2⟩,g⟩,hk,hg⟩
  have hk:k≤len:=hk
  have hg:GI c k (sumT ss k) g:=hg
  by_cases hlt:k < len
  ·have hb:=hb (by omega)
   subst hb
   have hW:=hw k hlt
   have hWl:=hW.l
   have hWc:=hW.c
   have hs:=sumT_at (ss:=ss) hlt
   have hs1:sumT ss (k+1)=sumT ss k+(ss k).n:=rfl
   have hb64:n64 (ss k).b:=n64_of hW.b
   obtain ⟨G',O',R',he1⟩:∃ G' O' R',doV c g (ss k).k (ss k).a (ss k).b (ss k).d=(G',O',R'):=⟨_,_,_,rfl⟩
   have hg1:GI c (k+1) (sumT ss k+(ss k).d.length) G':=by have:=hg.do_ (by omega) (k:=(ss k).k) (a:=(ss k).a) (d:=(ss k).d) (by omega) hb64; rwa [he1] at this
   have hO:O'.length≤64:=by have:=do_len c g (ss k).k (ss k).a (ss k).b (ss k).d; rwa [he1] at this
   rw [hWl] at hg1
   by_cases hk2:(ss k).k=2
   ·rcases Nat.eq_zero_or_pos (ss k).n with hn | hn
    ·repeat' (first | refine gs_ ?_|((conv=>whnf); first | intro b2 | refine bto ?_|refine bfo ?_|refine wr_i ?_|refine cd (by first | decide | omega) ?_|refine br_t (beq_iff_eq.2 hk2) ?_|refine br_f (bne_refl _) ?_|refine opiv ⟨tab_ok⟩ (by rfl) (by rfl) (by rfl) (by rfl) (by rfl) (by rfl) ⟨by omega,by omega⟩ ?_|refine opix (g:=gb) (off:=off+k*4) [.i .i64 (ss k).k,.i .i64 (ss k).a,.i .i64 (ss k).b,.v (.slice (ss k).A (ss k).n (ss k).c)] (fun w hH=>Ek.rd_rng (StR.r (Hold.ob hH (A:=stO (some ⟨gb,off,none⟩) len ss) 0 rfl)) hlt) ⟨tab_ok⟩ (by rfl) (by rfl) (by simp only [Go.WideShapes.add_plain]; rfl) ?_|refine doX 2 1 (ss k).d (sumT ss (k+1)) he1 hg (by omega) (by omega) (by omega) hW.k (fun w hH=>hz_st hH (i:=0) (j:=2) rfl rfl (by decide) hlt) rfl rfl rfl rfl rfl (by decide) (fun u1=>?_)|refine doX 3 1 (ss k).d (sumT ss (k+1)) he1 hg (by omega) (by omega) (by omega) hW.k (fun w hH=>hz_st hH (i:=0) (j:=3) rfl rfl (by decide) hlt) rfl rfl rfl rfl rfl (by decide) (fun u2=>?_)|refine callH (f:=25) (.b true) (fun w hH=>sameT (Hold.ob hH (A:=osO u1.1.2.1 u1.1.2.2.1 u1.1.2.2.2) 4 rfl) (Hold.ob hH (A:=osO u2.1.2.1 u2.1.2.2.1 u2.1.2.2.2) 5 rfl) (u1.2.1.trans u2.2.1.symm) (outs_len u1.2.1) (outs_len u2.2.1) (by omega)) ?_|refine En.back ⟨((k+1,u1.1.1,u2.1.1),G'),by show k+1≤len; omega,hg1⟩ (wkd ?_) ?_|refine fin_s ?_))
     all_goals first | (show len - (k+1) < len - k; omega)|skip
     all_goals (repeat' (first | exact trivial | rfl | ((conv=>whnf); refine And.intro ?_ ?_)))
    ·obtain ⟨kk,hkk,hk0,hk1⟩:=cut_at cut hc (ss k).n
     have hkm:=hk1 hn
     have hlt1:((ss k).d.take kk).length=kk:=by rw [List.length_take]; omega
     have hlt2:((ss k).d.drop kk).length=(ss k).n - kk:=by rw [List.length_drop]; omega
     have he0:R'=0∧O'=[]∧(doV c g 2 (ss k).a (ss k).b (ss k).d).1=G':=by rw [hk2,do_2] at he1; simp only [Prod.mk.injEq] at he1; exact ⟨he1.2.2.symm,he1.2.1.symm,he1.1⟩
     obtain ⟨rfl,rfl,hG'⟩:=he0
     obtain ⟨G1,hG1⟩:∃ G1,(doV c g 2 0 0 ((ss k).d.take kk)).1=G1:=⟨_,rfl⟩
     have he2:doV c g 2 0 0 ((ss k).d.take kk)=(G1,[],0):=by rw [do_2,hG1]
     have hg2:GI c (k+1) (sumT ss k+kk) G1:=by have:=hg.do_ (by omega) (k:=2) (a:=0) (b:=0) (d:=(ss k).d.take kk) (by omega) ⟨by decide,by decide⟩; rwa [hG1,hlt1] at this
     have he3:doV c G1 (ss k).k (ss k).a (ss k).b ((ss k).d.drop kk)=(G',[],0):=by
      have:=do_two c g 0 0 (ss k).a (ss k).b (ss k).a (ss k).b ((ss k).d.take kk) ((ss k).d.drop kk)
      rw [hG1,List.take_append_drop,hG'] at this
      rw [hk2]; exact this
     repeat' (first | refine gs_ ?_|((conv=>whnf); first | intro b2 | refine bto ?_|refine bfo ?_|refine wr_i ?_|refine cd (by first | decide | omega) ?_|refine br_t (beq_iff_eq.2 hk2) ?_|refine br_f (bne_refl _) ?_|refine opiv ⟨tab_ok⟩ (by rfl) (by rfl) (by rfl) (by rfl) (by rfl) (by rfl) ⟨by omega,by omega⟩ ?_|refine opix (g:=gb) (off:=off+k*4) [.i .i64 (ss k).k,.i .i64 (ss k).a,.i .i64 (ss k).b,.v (.slice (ss k).A (ss k).n (ss k).c)] (fun w hH=>Ek.rd_rng (StR.r (Hold.ob hH (A:=stO (some ⟨gb,off,none⟩) len ss) 0 rfl)) hlt) ⟨tab_ok⟩ (by rfl) (by rfl) (by simp only [Go.WideShapes.add_plain]; rfl) ?_|refine opsh ⟨tab_ok⟩ kk (by rfl) (by rfl) (by rfl) (by rfl) (by rfl) (by rfl) ⟨hkm,by omega⟩ ?_|refine opst_ ⟨tab_ok⟩ kk (by rfl) (by rfl) (by rfl) (by rfl) (by rfl) (by rfl) ⟨hkm,by omega⟩ ?_|refine doX 2 1 (ss k).d (sumT ss (k+1)) he1 hg (by omega) (by omega) (by omega) hW.k (fun w hH=>hz_st hH (i:=0) (j:=2) rfl rfl (by decide) hlt) rfl rfl rfl rfl rfl (by decide) (fun u1=>?_)|refine doX 3 1 ((ss k).d.take kk) (sumT ss k+kk) he2 hg (by omega) (by omega) (by omega) (by decide) (fun w hH=>hz_take (hz_st hH (i:=0) (j:=3) rfl rfl (by decide) hlt) hkk) rfl rfl rfl rfl rfl (by decide) (fun u2=>?_)|refine doX 3 1 ((ss k).d.drop kk) (sumT ss (k+1)) he3 hg2 (by omega) (by omega) (by omega) hW.k (fun w hH=>hz_drop (hz_st hH (i:=0) (j:=3) rfl rfl (by decide) hlt) hkk hWc) rfl rfl rfl rfl rfl (by decide) (fun u3=>?_)|refine callH (f:=25) (.b true) (fun w hH=>sameT (Hold.ob hH (A:=osO u1.1.2.1 u1.1.2.2.1 u1.1.2.2.2) 4 rfl) (Hold.ob hH (A:=osO u3.1.2.1 u3.1.2.2.1 u3.1.2.2.2) 6 rfl) (u1.2.1.trans u3.2.1.symm) (outs_len u1.2.1) (outs_len u3.2.1) (by decide)) ?_|refine En.back ⟨((k+1,u1.1.1,u3.1.1),G'),by show k+1≤len; omega,hg1⟩ (wkd ?_) ?_|refine fin_s ?_))
     all_goals first | (show len - (k+1) < len - k; omega)|skip
     all_goals (repeat' (first | exact trivial | rfl | ((conv=>whnf); refine And.intro ?_ ?_)))
   ·repeat' (first | refine gs_ ?_|((conv=>whnf); first | intro b2 | refine bto ?_|refine bfo ?_|refine wr_i ?_|refine cd (by first | decide | omega) ?_|refine br_f (beq_eq_false_iff_ne.2 hk2) ?_|refine br_f (bne_refl _) ?_|refine opiv ⟨tab_ok⟩ (by rfl) (by rfl) (by rfl) (by rfl) (by rfl) (by rfl) ⟨by omega,by omega⟩ ?_|refine opix (g:=gb) (off:=off+k*4) [.i .i64 (ss k).k,.i .i64 (ss k).a,.i .i64 (ss k).b,.v (.slice (ss k).A (ss k).n (ss k).c)] (fun w hH=>Ek.rd_rng (StR.r (Hold.ob hH (A:=stO (some ⟨gb,off,none⟩) len ss) 0 rfl)) hlt) ⟨tab_ok⟩ (by rfl) (by rfl) (by simp only [Go.WideShapes.add_plain]; rfl) ?_|refine doX 2 1 (ss k).d (sumT ss (k+1)) he1 hg (by omega) (by omega) (by omega) hW.k (fun w hH=>hz_st hH (i:=0) (j:=2) rfl rfl (by decide) hlt) rfl rfl rfl rfl rfl (by decide) (fun u1=>?_)|refine doX 3 1 (ss k).d (sumT ss (k+1)) he1 hg (by omega) (by omega) (by omega) hW.k (fun w hH=>hz_st hH (i:=0) (j:=3) rfl rfl (by decide) hlt) rfl rfl rfl rfl rfl (by decide) (fun u2=>?_)|refine callH (f:=25) (.b true) (fun w hH=>sameT (Hold.ob hH (A:=osO u1.1.2.1 u1.1.2.2.1 u1.1.2.2.2) 4 rfl) (Hold.ob hH (A:=osO u2.1.2.1 u2.1.2.2.1 u2.1.2.2.2) 5 rfl) (u1.2.1.trans u2.2.1.symm) (outs_len u1.2.1) (outs_len u2.2.1) (by omega)) ?_|refine En.back ⟨((k+1,u1.1.1,u2.1.1),G'),by show k+1≤len; omega,hg1⟩ (wkd ?_) ?_|refine fin_s ?_))
    all_goals first | (show len - (k+1) < len - k; omega)|skip
    all_goals (repeat' (first | exact trivial | rfl | ((conv=>whnf); refine And.intro ?_ ?_)))
  ·repeat' (first | refine gs_ ?_|((conv=>whnf); first | intro b | refine bto ?_|refine bfo ?_|refine callH (f:=36) (.b true) (fun w1 hH=>ansTop (Hold.ob hH (A:=tbO) 1 rfl)) ?_|refine fin_s ?_))
   all_goals rfl
theorem againL {H:Type} {enc:TypeId×Value→H} {x:DataW H×List MemPlace} (c:CfgV) (cut:Int) (hc:(Lit.int .u8 cut).wf=true) {a:Option Addr} {len cap:Nat} {w:World} (ht:Lib.TabIs Tryz.prog w "internal/strconv.uint64pow10" .u64 Lib.pow10Tab) (hx:∃ m,DataW.trod enc Tryz.prog w 0 (fun _=>true) true m 24 (Value.cells (.slice a len cap)).toList=some x) (hU:∀ u∈x.1.weights Tryz.prog 24,u≤reachBytes):Calls Tryz.prog 15 #[(aCfg c),.slice a len cap,.int .u8 cut] w fun e w'=>e=.returned (.bool true)∧Since w w':=by
 obtain ⟨ss,h1,h2,h3⟩:=steps_in hx hU
 exact againF c cut (u8_of hc) h1 h2 h3 ht
end Gw
end Go.Proofs.YtepfmfalebmcnaaGreatDoor
