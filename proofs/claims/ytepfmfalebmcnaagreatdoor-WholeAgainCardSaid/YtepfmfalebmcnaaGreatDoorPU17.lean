/-
  Wanted: part 17.
  No condition.
-/
import Derived.Test.YtepfmfalebmcnaaGreatDoorPU16
import Derived.Test.YtepfmfalebmcnaaGreatDoorPU15
import Derived.WalkKit
import Derived.ProofKit
import Derived.OpenShut
set_option linter.all false
namespace Go.Proofs.YtepfmfalebmcnaaGreatDoor
namespace Gw
open Go.RowKit Ba Mem En Go.Proofs.YtepfmfalebmcnaaGreatDoor.Ty
open Fm (frames)
open Byt (BV isB)
open Co (KV newK Hold.ob)
set_option maxRecDepth 100000
attribute [local irreducible] Go.Calls
theorem hold_tb {a:Option Addr} {len nt:Nat} {ss:Nat→StepD} {w:World} (h:StR a len ss w) (ht:Lib.TabIs Tryz.prog w "internal/strconv.uint64pow10" .u64 Lib.pow10Tab):Hold ⟨Tryz.prog,tab,[],w,nt,[]⟩ [] [stO a len ss,tbO] w :=
 Hold.addObj (hold_st h) tbO ht (by intro k; cases k) (by intro r hr; cases hr) (by intro A hA k; rw [List.mem_singleton] at hA; subst hA; rcases k with k | k <;> cases k)
def gs0 (c:CfgV):Gs:=⟨(newK c,fun _=>none),0,[]⟩
def gm0 (x:Gp) (Sk:List Nat):Gm:=⟨Sk,fun _=>none,[x.s],0,0⟩
theorem newS (c:CfgV) (w:World):Calls Tryz.prog 21 #[(aCfg c)] w fun e w'=>∃ y:Nat×Gp×List Nat,e=.returned (.pointer (some ⟨y.1,0,none⟩))∧(gsO y.1 c y.2.1 0 (gm0 y.2.1 y.2.2) (gs0 c) true).st w'∧Since w w'∧∀ g∈(gsO y.1 c y.2.1 0 (gm0 y.2.1 y.2.2) (gs0 c) true).F,w.heap.size≤g :=
 (newX c w).mono (by
  rintro e w' ⟨y,rfl,h1,h2,h3⟩
  exact ⟨y,rfl,⟨h1,rfl,Nat.le_refl _,Nat.le_refl _⟩,h2,h3⟩)
theorem do_len (c:CfgV) (g:Gs) (k a b:Int) (d:List Int):(doV c g k a b d).2.1.length≤64:=by
 unfold doV
 split
 ·have h1:=tickL_len (keysL (tellF (Co.tickK g.x.1,g.x.2) (Co.tickE g.x.1)).2) (tellF (Co.tickK g.x.1,g.x.2) (Co.tickE g.x.1),[])
  have h2:=keys_len (tellF (Co.tickK g.x.1,g.x.2) (Co.tickE g.x.1)).2
  simp only [List.length_nil,Nat.zero_add] at h1
  exact Nat.le_trans h1 h2
 split
 ·exact Nat.zero_le _
 split
 ·exact Nat.zero_le _
 split
 ·show 1≤64; decide
 ·exact Nat.zero_le _
theorem outs_len {os:List OutD} {o:List (Int×List Int)} (h:outsV os=o):os.length=o.length:=by rw [← h]; exact (List.length_map ..).symm
section
variable {X:Cx} {m:List Row} {ob:List Asr} {w:World}
theorem hz_st (hH:Hold X m ob w) {i j:Nat} {a:Option Addr} {len k gq B:Nat} {ss:Nat→StepD} {c:CfgV} {x:Gp} {mm:Gm} {g:Gs} (hA:ob[i]?=some (stO a len ss)) (hB:ob[j]?=some (gsO gq c x B mm g true)) (hij:i≠j) (hk:k < len):BV w (ss k).A (ss k).n (ss k).d∧∀ y∈rdF (ss k).A (ss k).n,y∉gmF gq x mm :=
 ⟨StR.d (hH.obj _ (List.mem_of_getElem? hA)) k hk,fun y hy=>pair_at (R:=DisR) (fun _ _ h=>h.symm) hH.dis hA hB hij (.inr rfl) y (stF_at hk y hy)⟩
theorem hz_take {a:Option Addr} {n k:Nat} {d:List Int} {S:List Nat} (h:BV w a n d∧∀ y∈rdF a n,y∉S) (hk:k≤n):BV w a k (d.take k)∧∀ y∈rdF a k,y∉S:=⟨h.1.cut hk,fun y hy=>h.2 y (rd_take hk y hy)⟩
theorem hz_drop {a:Option Addr} {n k c:Nat} {d:List Int} {S:List Nat} (h:BV w a n d∧∀ y∈rdF a n,y∉S) (hk:k≤n) (hc:n≤c):BV w (cutA c k a 1) (n - k) (d.drop k)∧∀ y∈rdF (cutA c k a 1) (n - k),y∉S:=⟨(bv_tail h.1 hk hc).1,fun y hy=>h.2 y ((bv_tail h.1 hk hc).2 y hy)⟩
end
theorem os_nil (w:World):OsAt none 0 [] w:=⟨Ek.nil _ _ _,by intro o ho; cases ho⟩
theorem cut_at (cut:Int) (h:0≤cut∧cut≤255) (n:Nat):∃ k,k≤n∧(n=0→k=0)∧(0 < n→cut.tmod (n:Int)=(k:Int)):=by
 rcases Nat.eq_zero_or_pos n with h0 | h0
 ·exact ⟨0,Nat.zero_le _,fun _=>rfl,fun h=>by omega⟩
 ·refine ⟨cut.toNat % n,Nat.le_of_lt (Nat.mod_lt _ h0),fun h=>by omega,fun _=>?_⟩
  rw [Int.tmod_eq_emod_of_nonneg h.1]
  have:cut=(cut.toNat:Int):=by omega
  rw [this]
  simp
theorem n64_of {I:Int} (h:(Lit.int .i64 I).wf=true):n64 I:=by
 have h1:IntKind.i64.min = -9223372036854775808:=by decide
 have h2:IntKind.i64.max=9223372036854775807:=by decide
 simp [Lit.wf] at h
 unfold n64
 omega
theorem u8_of {I:Int} (h:(Lit.int .u8 I).wf=true):0≤I∧I≤255:=bounds_u8 h
theorem sz_at {H:Type} {P:Program} {ts:List TypeId} {ds:List (DataW H)} (h:(DataW.weightsEach P ts ds).all (·≤reachBytes)=true) {j:Nat} {t:TypeId} {d:DataW H} (ht:ts[j]?=some t) (hd:ds[j]?=some d):∀ u∈d.weights P t,u≤reachBytes:=fun u hu=>by
  have:=List.all_eq_true.1 h u (DataW.weights_mem_each ht hd u hu)
  exact of_decide_eq_true this
theorem steps_in {H:Type} {enc:TypeId×Value→H} {x:DataW H×List MemPlace} {a:Option Addr} {len cap:Nat} {w:World} (hx:∃ m,DataW.trod enc Tryz.prog w 0 (fun _=>true) true m 24 (Value.cells (.slice a len cap)).toList=some x) (hU:∀ u∈x.1.weights Tryz.prog 24,u≤reachBytes):∃ ss,StR a len ss w∧(∀ i,i < len→StepW (ss i))∧len≤9223372036854775807:=by
 obtain ⟨m,hm⟩:=hx
 exact steps_open hm (fun u hu=>hU u hu)
section
variable {gq B:Nat} {c:CfgV} {x:Gp} {m:Gm} {g:Gs} {w:World}
theorem epochS {i:Int} (h:GSt gq c x B m g w) (hi:(Lit.int .i64 i).wf=true):Calls Tryz.prog 23 #[.pointer (some ⟨gq,0,none⟩),.int .i64 i] w fun e w'=>e=.returned (.int .i64 (epochV g.x.2 i))∧Since w w':=by
 have:=epochT h.t.b h.t.k h.t.g1 hi
 rw [h.v] at this; exact this
end
end Gw
namespace Gw
open Go.RowKit Ba Mem En Go.Proofs.YtepfmfalebmcnaaGreatDoor.Ty Mg
open Fm (frm frames)
open Byt (BV)
open Co (newK Hold.ob KV)
set_option maxRecDepth 100000
attribute [local irreducible] Go.Calls
theorem opcs {X:Cx} {s:St} {o:Oper} {K:St→Prop} {t d:TypeId} {x:Operand} {A:Option Addr} {n c:Nat} {zs:List Int} (ho:o.op=.convert t d x) (hx:evO x s.fr=some (.v (.slice A n c))) (hz:∀ w,Hold X s.m s.ob w→BV w A n zs) (h1:X.P.underlying t=some (.slice 5)) (h2:X.P.underlying 5=some (.int .u8)) (h3:X.P.underlying d=some .string) (h:put X.n o.dst (.v (.string (strOfNums zs))) s K):OpVC X o s K :=
 opq (.v (.string (strOfNums zs))) (fun a w hf hH=>exec_str t 5 d x (hz w hH) ho (by rw [(evO_of hf hx).2]; rfl) h1 h2 h3) h rfl
theorem frm_isB (p:PktV) (hl:(bytesOf p).length≤255):∀ z∈frm (bytesOf p),Byt.isB z:=Fm.frm_isB (bytes_isB p)
theorem wan3_len:(frm (bytesOf wan3)).length=27:=by kernel_rfl
theorem rng_k {w:World} {g off k:Nat} {cs:List Value} {v:Value} (h:w.rangeAt g off cs) (hk:cs[k]?=some v):w.rangeAt g (off+k) [v]:=fun j u hj=>by
 cases j with
 | zero =>
  simp at hj; subst hj
  simpa using h k _ hk
 | succ j=>simp at hj
set_option maxHeartbeats 4000000 in
theorem answersT (w:World):Calls Tryz.prog 18 #[] w fun e w'=>e=.returned (.bool true)∧Since w w':=by
 refine ent tab_ok [] Tryz.func18 Tryz.ntmps18 rfl rfl ?_
 repeat' (first | refine gq_ ?_|((conv=>whnf); first | refine callH (f:=46) (.a [.i .i64 2,.i .i64 5,.i .i64 2,.i .i64 4,.i .i64 2,.i .i64 3,.i .i64 9,.i .i64 1,.i .i64 30,.i .i64 2,.i .i64 1,.i .i64 300,.i .i64 5,.i .i64 2,.i .i64 8,.i .i64 4,.i .i64 60,.i .i64 8]) (fun w1 hH=>configT w1) ?_|refine callN (f:=21) (ι:=Nat×Gp×List Nat) (fun y=>.v (.pointer (some ⟨y.1,0,none⟩))) (fun y=>gwO y.1 cfg0 y.2.1 0 0 (newK cfg0) 0 [] y.2.2 (fun _=>none) [y.2.1.s] true) (fun w1 hH=>newX cfg0 w1) (fun y=>?_)|refine callN (f:=47) (ι:=Option Addr×Nat) (fun z=>.v (.slice z.1 27 z.2)) (fun z=>rwO byteE w.heap.size z.1 27 z.2 hel3 true) (fun w1 hH=>(helloT 3 hel3_may w1).mono (by rintro e w' ⟨z,rfl,h1,h2⟩; exact ⟨z,rfl,Ek.base h1 hH.upd.size,h2,Ek.lows h1⟩)) (fun z=>?_)|refine callO (f:=24) (A:=gwO y.1 cfg0 y.2.1 0 0 (newK cfg0) 0 [] y.2.2 (fun _=>none) [y.2.1.s] true) 0 (fun _:{u:List Nat×Fam×List Nat // vals u.2.1=an1.1.2}=>.t [.v (.slice none 0 0),.i .i64 0]) (fun u=>gwO y.1 cfg0 y.2.1 27 27 an1.1.1 1 [] u.1.1 u.1.2.1 u.1.2.2 true) (fun w1 hH hA=>bytes0 hA (Byt.BV.of_own (byte_own.1 (Hold.ob hH (A:=rwO byteE w.heap.size z.1 27 z.2 hel3 true) 1 rfl)) (frm_isB _ (by decide))) (fun g hg hm=>(pair_at (R:=DisR) (fun _ _ h=>h.symm) hH.dis (i:=0) (j:=1) rfl rfl (by decide) (.inl rfl)) g hm hg)) (fun u=>?_)|refine callO2N (f:=24) (A:=gwO y.1 cfg0 y.2.1 27 27 an1.1.1 1 [] u.1.1 u.1.2.1 u.1.2.2 true) 0 (fun v:{v:List Nat×Fam×(Nat×Nat)×(Option Addr×Nat) // vals v.2.1=an2.1.2}=>.t [.v (.slice (some ⟨v.1.2.2.1.1,0,none⟩) 1 v.1.2.2.1.2),.i .i64 0]) (fun v=>gwO y.1 cfg0 y.2.1 27 27 an2.1.1 1 [] v.1.1 v.1.2.1 u.1.2.2 true) (fun v=>rwO outE w.heap.size (some ⟨v.1.2.2.1.1,0,none⟩) 1 v.1.2.2.1.2 [⟨3,v.1.2.2.2.1,v.1.2.2.2.2,frm (bytesOf wan3)⟩] true) (fun v=>daO w.heap.size [⟨3,v.1.2.2.2.1,v.1.2.2.2.2,frm (bytesOf wan3)⟩] true) (fun w1 hH hA=>(tick0 hA u.2).mono (by rintro e w' ⟨v,rfl,h1,h2,h3,h4,h5,h6,h7,h8⟩; exact ⟨v,rfl,h1,Ek.base h2 hH.upd.size,fun o ho=>Ek.base (h3 o ho) hH.upd.size,h4,h5,h6,h7,h8⟩)) (fun v=>?_)|refine callH (f:=24) (.t [.v (.slice none 0 0),.i .i64 1]) (fun w1 hH=>doNo (Hold.ob hH (A:=gwO y.1 cfg0 y.2.1 27 27 an2.1.1 1 [] v.1.1 v.1.2.1 u.1.2.2 true) 0 rfl) (wf_small (by decide)) (by decide)) ?_|intro b | refine fin_s ?_))
 repeat' (first | refine gq_ ?_|((conv=>whnf); first | refine drA (id:=6) ⟨tab_ok⟩ [19,26,27,31] ?_|refine drA ⟨tab_ok⟩ [] ?_|refine And.intro ?_ ?_|refine br_t (by rfl) ?_|refine opiv ⟨tab_ok⟩ (by rfl) (by rfl) (by rfl) (by rfl) (by rfl) (by rfl) ⟨by decide,by decide⟩ ?_|refine puiv ⟨tab_ok⟩ (by rfl) (by rfl) (by rfl) (by rfl) (by rfl) (by rfl) ⟨by decide,by decide⟩ ?_|refine opfv ⟨tab_ok⟩ (by rfl) (by rfl) (by rfl) (by rfl) ?_|refine pufv ⟨tab_ok⟩ (by rfl) (by rfl) (by rfl) (by rfl) ?_|refine opxc (g:=v.1.2.2.1.1) (off:=0+0*2+0) (.i .i64 3) (fun w1 hH=>rng_k (v:=.int .i64 3) (Ek.rng (x:=(⟨3,v.1.2.2.2.1,v.1.2.2.2.2,frm (bytesOf wan3)⟩:OutD)) (k:=0) (Hold.ob hH (A:=rwO outE w.heap.size (some ⟨v.1.2.2.1.1,0,none⟩) 1 v.1.2.2.1.2 [⟨3,v.1.2.2.2.1,v.1.2.2.2.2,frm (bytesOf wan3)⟩] true) 2 rfl) rfl) rfl) ⟨tab_ok⟩ (by rfl) (by rfl) (by show Addr.add (Addr.add ⟨v.1.2.2.1.1,0,none⟩ (0*2)) 0=_; rw [Go.WideShapes.add_plain,Go.WideShapes.add_plain]) ?_|refine opxc (g:=v.1.2.2.1.1) (off:=0+0*2+1) (.v (.slice v.1.2.2.2.1 27 v.1.2.2.2.2)) (fun w1 hH=>rng_k (v:=.slice v.1.2.2.2.1 27 v.1.2.2.2.2) (Ek.rng (x:=(⟨3,v.1.2.2.2.1,v.1.2.2.2.2,frm (bytesOf wan3)⟩:OutD)) (k:=0) (Hold.ob hH (A:=rwO outE w.heap.size (some ⟨v.1.2.2.1.1,0,none⟩) 1 v.1.2.2.1.2 [⟨3,v.1.2.2.2.1,v.1.2.2.2.2,frm (bytesOf wan3)⟩] true) 2 rfl) rfl) (by show [Value.int .i64 3,Value.slice v.1.2.2.2.1 (frm (bytesOf wan3)).length v.1.2.2.2.2][1]?=_; rw [wan3_len]; rfl)) ⟨tab_ok⟩ (by rfl) (by rfl) (by show Addr.add (Addr.add ⟨v.1.2.2.1.1,0,none⟩ (0*2)) 1=_; rw [Go.WideShapes.add_plain,Go.WideShapes.add_plain]) ?_|refine opcs (A:=v.1.2.2.2.1) (n:=27) (zs:=frm (bytesOf wan3)) (by rfl) (by rfl) (fun w1 hH=>Byt.BV.of_own (byte_own.1 ((Hold.ob hH (A:=daO w.heap.size [⟨3,v.1.2.2.2.1,v.1.2.2.2.2,frm (bytesOf wan3)⟩] true) 3 rfl) _ (List.mem_singleton.2 rfl))) (frm_isB _ (by decide))) (Tryz.underlying29) (Tryz.underlying5) (Tryz.underlying9) ?_|refine callN (f:=20) (ι:=Option Addr×Nat) (fun q=>.v (.slice q.1 21 q.2)) (fun q=>rwO byteE w.heap.size q.1 21 q.2 (bytesOf wan3) true) (fun w1 hH=>(bytesH wan3 wan3_may rfl w1).mono (by rintro e w' ⟨q,rfl,h1,h2⟩; exact ⟨q,rfl,Ek.base h1 hH.upd.size,h2,Ek.lows h1⟩)) (fun q=>?_)|refine br_t (beq_self_eq_true _) ?_|refine callN (f:=19) (ι:=Option Addr×Nat) (fun r=>.v (.slice r.1 27 r.2)) (fun r=>rwO byteE w.heap.size r.1 27 r.2 (frm (bytesOf wan3)) true) (fun w1 hH=>(frmE q.1 q.2 (bytesOf wan3) 21 27 w1 (Hold.ob hH (A:=rwO byteE w.heap.size q.1 21 q.2 (bytesOf wan3) true) 4 rfl) (bytes_isB _) (by omega) wan3_len).mono (by rintro e w' ⟨r,rfl,h1,h2⟩; exact ⟨r,rfl,Ek.base h1 hH.upd.size,h2,Ek.lows h1⟩)) (fun r=>?_)|refine opcs (A:=r.1) (n:=27) (zs:=frm (bytesOf wan3)) (by rfl) (by rfl) (fun w1 hH=>Byt.BV.of_own (byte_own.1 (Hold.ob hH (A:=rwO byteE w.heap.size r.1 27 r.2 (frm (bytesOf wan3)) true) 5 rfl)) (frm_isB _ (by decide))) (Tryz.underlying29) (Tryz.underlying5) (Tryz.underlying9) ?_|refine callH (f:=23) (.i .i64 1) (fun w1 hH=>have hW:=Hold.ob hH (A:=gwO y.1 cfg0 y.2.1 27 27 an2.1.1 1 [] v.1.1 v.1.2.1 u.1.2.2 true) 0 rfl; (epochT hW.b hW.k hW.g1 (wf_small (by decide))).mono (by rintro e w' ⟨rfl,h2⟩; rw [v.2,an2_ep]; exact ⟨rfl,h2⟩)) ?_|refine callN (f:=32) (ι:=Option Addr×Nat) (fun r2=>.v (.slice r2.1 2 r2.2)) (fun r2=>rwO viewE w.heap.size r2.1 2 r2.2 (an2.1.1.G.cars.map viewOf) true) (fun w1 hH=>have hW:=Hold.ob hH (A:=gwO y.1 cfg0 y.2.1 27 27 an2.1.1 1 [] v.1.1 v.1.2.1 u.1.2.2 true) 0 rfl; (viewsT hW.b hW.k hW.g1 (by rw [an2_len]; decide) (by rw [an2_len]; decide)).mono (by rintro e w' ⟨A,c,rfl,h1,h2⟩; rw [an2_len] at h1 ⊢; exact ⟨(A,c),rfl,Ek.base h1 hH.upd.size,h2,Ek.lows h1⟩)) (fun r2=>?_)|refine fin fun w' hH=>⟨rfl,hH.upd.since⟩|refine fin_s ?_))
end Gw
namespace Gw
open Go.RowKit Ba Mem En Go.Proofs.YtepfmfalebmcnaaGreatDoor.Ty
open Byt (BV isB)
open Co (Hold.ob)
set_option maxRecDepth 100000
attribute [local irreducible] Go.Calls
theorem opct {X:Cx} {s:St} {o:Oper} {K:St→Prop} {t d:TypeId} {x:Operand} {A:Option Addr} {n c:Nat} {zs:List Int} (ho:o.op=.convert t d x) (hx:evO x s.fr=some (.v (.slice A n c))) (hz:∀ w,Hold X s.m s.ob w→BV w A n zs) (h1:X.P.underlying t=some (.slice 5)) (h2:X.P.underlying 5=some (.int .u8)) (h3:X.P.underlying d=some .string) (h:put X.n o.dst (.v (.string (strOfNums zs))) s K):OpVC X o s K :=
 opq (.v (.string (strOfNums zs))) (fun a w hf hH=>exec_str t 5 d x (hz w hH) ho (by rw [(evO_of hf hx).2]; rfl) h1 h2 h3) h rfl
theorem hold_os {A B:Option Addr} {ca cb nt:Nat} {os os':List OutD} {w:World} (h1:OsAt A ca os w) (h2:OsAt B cb os' w):Hold ⟨Tryz.prog,tab,[],w,nt,[]⟩ [] [osO A ca os,osO B cb os'] w :=
 Hold.addObj (Hold.addObj (Hold.nil _ tab [] _ w) (osO A ca os) h1 (by intro k; cases k) (by intro r hr; cases hr) (by intro A hA; cases hA)) (osO B cb os') h2 (by intro k; cases k) (by intro r hr; cases hr) (by intro G hG k; rcases List.mem_append.1 hG with hG | hG; cases hG; rw [List.mem_singleton] at hG; subst hG; rcases k with k | k <;> cases k)
theorem outs_at {os os':List OutD} (h:outsV os=outsV os') {k:Nat} {o:OutD} (ho:os[k]?=some o):∃ A c,os'[k]?=some ⟨o.s,A,c,o.zs⟩:=by
 have e:=congrArg (fun l:List (Int×List Int)=>l[k]?) h
 simp only [outsV,List.getElem?_map,ho] at e
 cases hq:os'[k]? with
 | none=>rw [hq] at e; cases e
 | some q =>
  rw [hq] at e
  obtain ⟨s2,A2,c2,z2⟩:=q
  simp only [Option.map_some,Option.some.injEq,Prod.mk.injEq] at e
  obtain ⟨rfl,rfl⟩:=e
  exact ⟨A2,c2,rfl⟩
set_option maxHeartbeats 4000000 in
theorem sameT {A B:Option Addr} {ca cb n n2:Nat} {os os':List OutD} {w:World} (h1:OsAt A ca os w) (h2:OsAt B cb os' w) (hv:outsV os=outsV os') (hn:os.length=n) (hn2:os'.length=n2) (hl:n≤1000000):Calls Tryz.prog 25 #[.slice A n ca,.slice B n2 cb] w fun e w'=>e=.returned (.bool true)∧Since w w':=by
 have hlen:os.length=os'.length:=by have:=congrArg List.length hv; simpa [outsV] using this
 obtain rfl:n2=n:=by omega
 subst hn2
 obtain ⟨gA,hgA⟩:=Ek.addr h1.r
 obtain ⟨gB,hgB⟩:=Ek.addr h2.r
 refine entH tab_ok (hold_os h1 h2) [.v (.slice A os'.length ca),.v (.slice B os'.length cb)] Tryz.func25 Tryz.ntmps25 rfl rfl ?_
 repeat' (first | refine gs_ ?_|((conv=>whnf); first | intro b | refine br_f (bne_refl _) ?_|refine br_t (beq_self_eq_true _) ?_|refine fin_s ?_))
 conv=>whnf
 refine lp ⟨tab_ok⟩ (ι:={k:Nat // k≤os'.length}) (fun x=>match x with | ⟨k,_⟩=>⟨[(0,.v (.slice A os'.length ca)),(1,.v (.slice B os'.length cb)),(5,.i .i64 (k:Int))],[],[osO A ca os,osO B cb os']⟩) (fun k=>os'.length - k.1) ⟨0,Nat.zero_le _⟩ (wk ?_) ?_
 ·repeat' (first | exact trivial | rfl | ((conv=>whnf); refine And.intro ?_ ?_))
 rintro ⟨k,hk⟩
 by_cases hlt:k < os'.length
 ·obtain ⟨o,ho⟩:∃ o,os[k]?=some o:=⟨_,List.getElem?_eq_getElem (by omega)⟩
  obtain ⟨A2,c2,ho2⟩:=outs_at hv ho
  have hgA:=hgA (by omega)
  have hgB:=hgB (by omega)
  subst hgA hgB
  repeat' (first | refine gq_ ?_|((conv=>whnf); first | intro b | refine bto ?_|refine bfo ?_|refine wr_i ?_|refine drA (id:=6) ⟨tab_ok⟩ [4,9,16,17,22,23] ?_|refine And.intro ?_ ?_|refine br_f (bne_refl _) ?_|refine br_t (beq_self_eq_true _) ?_|refine opiv ⟨tab_ok⟩ (by rfl) (by rfl) (by rfl) (by rfl) (by rfl) (by rfl) ⟨by omega,by omega⟩ ?_|refine puiv ⟨tab_ok⟩ (by rfl) (by rfl) (by rfl) (by rfl) (by rfl) (by rfl) ⟨by omega,by omega⟩ ?_|refine opfv ⟨tab_ok⟩ (by rfl) (by rfl) (by rfl) (by rfl) ?_|refine pufv ⟨tab_ok⟩ (by rfl) (by rfl) (by rfl) (by rfl) ?_|refine opxc (g:=gA) (off:=0+k*2+0) (.i .i64 o.s) (fun w hH=>rng_at (Ek.rng (OsAt.r (Hold.ob hH (A:=osO (some ⟨gA,0,none⟩) ca os) 0 rfl)) ho) rfl) ⟨tab_ok⟩ (by rfl) (by rfl) (by simp only [Go.WideShapes.add_plain]; rfl) ?_|refine opxc (g:=gB) (off:=0+k*2+0) (.i .i64 o.s) (fun w hH=>rng_at (Ek.rng (OsAt.r (Hold.ob hH (A:=osO (some ⟨gB,0,none⟩) cb os') 1 rfl)) ho2) rfl) ⟨tab_ok⟩ (by rfl) (by rfl) (by simp only [Go.WideShapes.add_plain]; rfl) ?_|refine opxc (g:=gA) (off:=0+k*2+1) (.v (.slice o.A o.zs.length o.c)) (fun w hH=>rng_at (Ek.rng (OsAt.r (Hold.ob hH (A:=osO (some ⟨gA,0,none⟩) ca os) 0 rfl)) ho) rfl) ⟨tab_ok⟩ (by rfl) (by rfl) (by simp only [Go.WideShapes.add_plain]; rfl) ?_|refine opxc (g:=gB) (off:=0+k*2+1) (.v (.slice A2 o.zs.length c2)) (fun w hH=>rng_at (Ek.rng (OsAt.r (Hold.ob hH (A:=osO (some ⟨gB,0,none⟩) cb os') 1 rfl)) ho2) rfl) ⟨tab_ok⟩ (by rfl) (by rfl) (by simp only [Go.WideShapes.add_plain]; rfl) ?_|refine opct (A:=o.A) (n:=o.zs.length) (zs:=o.zs) (by rfl) (by rfl) (fun w1 hH=>OsAt.d (Hold.ob hH (A:=osO (some ⟨gA,0,none⟩) ca os) 0 rfl) o (List.mem_of_getElem? ho)) (Tryz.underlying29) (Tryz.underlying5) (Tryz.underlying9) ?_|refine opct (A:=A2) (n:=o.zs.length) (zs:=o.zs) (by rfl) (by rfl) (fun w1 hH=>OsAt.d (Hold.ob hH (A:=osO (some ⟨gB,0,none⟩) cb os') 1 rfl) _ (List.mem_of_getElem? ho2)) (Tryz.underlying29) (Tryz.underlying5) (Tryz.underlying9) ?_|refine En.back ⟨k+1,by omega⟩ (wk ?_) ?_|refine fin_s ?_))
  all_goals first | (show os'.length - (k+1) < os'.length - k; omega)|skip
  all_goals (repeat' (first | exact trivial | rfl | ((conv=>whnf); refine And.intro ?_ ?_)))
 ·repeat' (first | refine gs_ ?_|((conv=>whnf); first | intro b | refine bto ?_|refine bfo ?_|refine fin_s ?_))
  all_goals rfl
end Gw
namespace Gw
open Go.RowKit Ba Mem En Go.Proofs.YtepfmfalebmcnaaGreatDoor.Ty Mp
open Co (Hold.ob)
set_option maxRecDepth 100000
attribute [local irreducible] Go.Calls
theorem doNil (sk sa sb:Int) (dA:Option Addr) (dn dc:Nat) (hk:(Lit.int .i64 sk).wf=true) (w:World):Calls Tryz.prog 24 #[.pointer none,.agg #[.int .i64 sk,.int .i64 sa,.int .i64 sb,.slice dA dn dc]] w fun e w'=>e=.returned (.tuple #[.slice none 0 0,.int .i64 1])∧Since w w':=by
 refine ent tab_ok [.v (.pointer none),.a [.i .i64 sk,.i .i64 sa,.i .i64 sb,.v (.slice dA dn dc)]] Tryz.func24 Tryz.ntmps24 rfl rfl ?_
 repeat' (first | refine gs_ ?_|((conv=>whnf); first | intro b0 | refine And.intro ?_ ?_|refine br_t (by rfl) ?_|refine callN (f:=53) (ι:=Nat) (fun b=>.v (.map (some b))) (fun b=>mpO Tryz.prog 3 b 8 (mtab kindL) true) (fun w1 hH=>(kindsT w1).mono (by rintro e w' ⟨b,rfl,h1,h2,h3⟩; exact ⟨b,rfl,h1,h2,fun g hg=>by rw [List.mem_singleton.1 hg]; exact h3⟩)) (fun b=>?_)|refine oplo (b:=b) (n:=8) (m:=mtab kindL) (k:=3) (e:=104) 0 _ (.v _) ((mtab kindL sk).isSome) (by rfl) (by rfl) (by rfl) (by rfl) (fun w h=>h) (by kernel_rfl) (by kernel_rfl) (fun w=>rfl) hk (by rfl) (by rfl) ?_|refine fin_s ?_))
 all_goals rfl
theorem viewsNil (w:World):Calls Tryz.prog 32 #[.pointer none] w fun e w'=>e=.returned (.slice none 0 0)∧Since w w':=by
 refine ent tab_ok [.v (.pointer none)] Tryz.func32 Tryz.ntmps32 rfl rfl ?_
 repeat' (first | refine gs_ ?_|((conv=>whnf); first | intro b0 | refine br_t (by rfl) ?_|refine fin_s ?_))
 all_goals rfl
theorem coreNil (w:World):Calls Tryz.prog 27 #[.pointer none] w fun e w'=>e=.returned (.pointer none)∧Since w w':=by
 refine ent tab_ok [.v (.pointer none)] Tryz.func27 Tryz.ntmps27 rfl rfl ?_
 repeat' (first | refine gs_ ?_|((conv=>whnf); first | intro b0 | refine br_t (by rfl) ?_|refine fin_s ?_))
 all_goals rfl
theorem sessionsNil (w:World):Calls Tryz.prog 31 #[.pointer none] w fun e w'=>e=.returned (.slice none 0 0)∧Since w w':=by
 refine ent tab_ok [.v (.pointer none)] Tryz.func31 Tryz.ntmps31 rfl rfl ?_
 repeat' (first | refine gs_ ?_|((conv=>whnf); first | intro b0 | refine br_t (by rfl) ?_|refine fin_s ?_))
 all_goals rfl
theorem epochNil (i:Int) (w:World):Calls Tryz.prog 23 #[.pointer none,.int .i64 i] w fun e w'=>e=.returned (.int .i64 0)∧Since w w':=by
 refine ent tab_ok [.v (.pointer none),.i .i64 i] Tryz.func23 Tryz.ntmps23 rfl rfl ?_
 repeat' (first | refine gs_ ?_|((conv=>whnf); first | intro b0 | refine br_t (by rfl) ?_|refine fin_s ?_))
 all_goals rfl
end Gw
namespace Opn
open Go.RowKit
section
variable {P:Program} {W:World} {base:Nat}
theorem open_agg {t:TypeId} {v:Value} {ts:List TypeId} {fs} (hu:P.underlying t=some (.struct fs)) (hts:P.cellTypes P.depth t=some ts) (hn:P.cellsOf t=ts.length) (h:Value.okWide P W .any base t v) :
  ∃ cs:Array Value,v=.agg cs∧cs.size=ts.length∧∀ (i:Nat) (u:TypeId),ts[i]?=some u→∃ c,cs[i]?=some c∧Cell.okWide P W .any base u c:=by
 unfold Value.okWide at h
 rw [hu] at h
 obtain ⟨cs,rfl,hsz,ts',hts',_,hc⟩:=h
 rw [hts] at hts'
 obtain rfl:ts=ts':=by injection hts'
 refine ⟨cs,rfl,by omega,fun i u hi=>?_⟩
 obtain ⟨hlt,_⟩:=List.getElem?_eq_some_iff.1 hi
 have hcs:cs[i]?=some (cs[i]'(by omega)):=Array.getElem?_eq_getElem (by omega)
 obtain ⟨u',hu',hok⟩:=hc i _ hcs
 rw [Nat.mod_eq_of_lt hlt,hi] at hu'
 obtain rfl:u=u':=by injection hu'
 exact ⟨_,hcs,hok⟩
theorem cell_int {u:TypeId} {k:IntKind} {c:Value} (hu:P.underlying u=some (.int k)) (h:Cell.okWide P W .any base u c):∃ x,c=.int k x∧(Lit.int k x).wf=true:=by
 unfold Cell.okWide at h
 rw [hu] at h
 simp only at h
 unfold Cell.ok at h
 rw [hu] at h
 cases c with
 | int k' x =>
  simp only at h
  obtain ⟨rfl,hx⟩:=h
  exact ⟨x,rfl,by simpa [Lit.wf,IntKind.has] using hx⟩
 | _=>simp at h
theorem cell_bool {u:TypeId} {c:Value} (hu:P.underlying u=some .bool) (h:Cell.okWide P W .any base u c):∃ x,c=.bool x:=by
 unfold Cell.okWide at h
 rw [hu] at h
 simp only at h
 unfold Cell.ok at h
 rw [hu] at h
 cases c with
 | bool x=>exact ⟨x,rfl⟩
 | _=>simp at h
theorem arr_of {cs:Array Value} {l:List Value} (hn:cs.size=l.length) (h:∀ (i:Nat) (c:Value),l[i]?=some c→cs[i]?=some c):cs=l.toArray:=by
 apply Array.ext_getElem?
 intro i
 rcases Nat.lt_or_ge i l.length with hi | hi
 ·have e:=List.getElem?_eq_getElem hi
  rw [h i _ e]
  simp [hi]
 ·rw [Array.getElem?_eq_none (by omega)]
  simp [hi]
def Each (cs:Array Value) (i:Nat) (l:List Value):Prop:=∀ (j:Nat) (c:Value),l[j]?=some c→cs[i+j]?=some c
theorem each_nil {cs:Array Value} {i:Nat}:Each cs i []:=fun _ _ h=>by simp at h
theorem each_cons {cs:Array Value} {i:Nat} {c:Value} {l:List Value} (h:cs[i]?=some c) (k:Each cs (i+1) l):Each cs i (c::l):=by
 intro j d hd
 cases j with
 | zero =>
  have:c=d:=by simpa using hd
  subst this; exact h
 | succ j =>
  have e:i+(j+1)=i+1+j:=by omega
  rw [e]
  exact k j d (by simpa using hd)
theorem arr_each {cs:Array Value} {l:List Value} (hn:cs.size=l.length) (h:Each cs 0 l):cs=l.toArray :=
 arr_of hn fun i c hi=>by have:=h i c hi; rwa [Nat.zero_add] at this
end
end Opn
namespace Opn
open Go
section
variable {P:Program} {W:World} {base:Nat}
theorem cell_slice {u e:TypeId} {c:Value} (hu:P.underlying u=some (.slice e)) (h:Cell.okWide P W .any base u c):∃ a n m,c=.slice a n m:=by
 unfold Cell.okWide at h
 rw [hu] at h
 cases c <;> simp_all [Cell.ok]
end
end Opn
end Go.Proofs.YtepfmfalebmcnaaGreatDoor
