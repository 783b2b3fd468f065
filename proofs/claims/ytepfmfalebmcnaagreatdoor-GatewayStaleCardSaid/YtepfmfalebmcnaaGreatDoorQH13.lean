/-
  Wanted: part 13.
  No condition.
-/
import Derived.Test.YtepfmfalebmcnaaGreatDoorQH12
import Derived.Shelf.SlIterI.Nil
import Derived.Shelf.SortM.Plain
import Derived.Shelf.SortM.SortNone
import Derived.Ground.GgzProg
import Derived.Ground.SlgmProg
import Derived.Test.YtepfmfalebmcnaaGreatDoorProg
import Derived.Lib.SlKeysI
set_option linter.all false
namespace Go.Proofs.YtepfmfalebmcnaaGreatDoor
namespace Gw
open Go.RowKit Ba Mem En Go.Proofs.YtepfmfalebmcnaaGreatDoor.Ty Mp Tm
open Ri (MsgV)
open Ln (LkV LO)
open Co (KV Pt KW Nr evE EvV goneK Hold.ob)
set_option maxRecDepth 100000
section
variable {lo mb M:Nat} {D:Fam} {w:World} {i:Int} {d:SeD}
theorem FO.ha (h:FO lo mb M D w) (hd:D i=some d):w.rangeAt d.b (0+1+1) [.int .i64 d.v.h.a]:=range_of (h.at_ i d hd).2.2.1 (n:=1) rfl rfl
theorem FO.hb (h:FO lo mb M D w) (hd:D i=some d):w.rangeAt d.b (0+1+2) [.int .i64 d.v.h.b]:=range_of (h.at_ i d hd).2.2.1 (n:=1) rfl rfl
end
attribute [local irreducible] Go.Calls
section
variable {gq M:Nat} {c:CfgV} {x:Gp} {ep i:Int} {K:KV} {Sk:List Nat} {D:Fam} {w:World}
set_option maxHeartbeats 8000000 in
theorem welEnd {T:Int} {d:SeD} (h:MsgV) (hd:D i=some d) (hkp:keepB d.v h=false) (hb:Blk w gq 96 (gwA c x ep)) (hk:KG 0 x.q x.p x.mb M K Sk D w) (hg:gq∉kgF x.mb Sk D) (hi:0≤i∧i < 64) (ht:TI T (K,vals D)) (hT:0≤T) (hM:M < 1000000) :
  Calls Tryz.prog 140 #[.pointer (some ⟨gq,0,none⟩),.int .i64 i,.agg #[.int .i64 h.ki,.int .i64 h.a,.int .i64 h.b,.int .i64 h.c]] w (WelQ gq (M+1) c x (kgF x.mb Sk D) w (bornK c (endV (K,vals D) i) (nxE ep) i h,nxE ep)):=by
 have hp:ptrs D i=some (.pointer (some ⟨d.b,0,none⟩)):=by unfold ptrs; rw [hd]; rfl
 have hti:TI T (goneK K i,setV (setV (vals D) i none) i (some (newV c i (nxE ep) (goneK K i).G.now h))):=(ht.end_ i).set i _ (by simp [newV]) (by simp [newV]; exact hT)
 have hti:TI T (goneK K i,setV (vals (setD D i none)) i (some (newV c i (nxE ep) (goneK K i).G.now h))):=by rw [vals_set]; exact hti
 have hbo:∀ b q,tellF (goneK K i,vals (setD (setD D i none) i (some ⟨b,q,[q],newV c i (nxE ep) (goneK K i).G.now h⟩))) [(⟨i,⟨2,nxE ep,0,0⟩⟩:EvV)]=bornK c (endV (K,vals D) i) (nxE ep) i h:=fun b q=>by rw [vals_set,vals_set]; rfl
 obtain ⟨E,hE⟩:∃ E,nxE ep=E:=⟨_,rfl⟩
 have hEb:0≤E∧E≤65535:=by rw [← hE]; unfold nxE; split <;> exact nx_bd _
 rw [hE] at hti hbo ⊢
 by_cases h0:Se.nx ep=0
 rotate_left
 have he2:Se.nx ep=E:=(if_neg h0).symm.trans hE
 have h0:¬ E=0:=by rw [← he2]; exact h0
 rotate_left
 have he1:Se.nx (Se.nx ep)=E:=(if_pos h0).symm.trans hE
 all_goals refine entH tab_ok (hold_gw hb hk hg) [.p 0 0,.i .i64 i,.a [.i .i64 h.ki,.i .i64 h.a,.i .i64 h.b,.i .i64 h.c]] Tryz.func140 Tryz.ntmps140 rfl rfl ?_
 all_goals (repeat' (first | refine gq_ ?_|((conv=>whnf); first | intro b | refine drA (id:=3) ⟨tab_ok⟩ [3,10,20] ?_|refine drA ⟨tab_ok⟩ [] ?_|refine bto ?_|refine bfo ?_|refine br_b (fun h1=>?_) (fun h1=>?_)|refine And.intro ?_ ?_|refine oplo (b:=x.mb) (n:=M) (m:=ptrs D) (k:=3) (e:=100) 0 (.pointer none) (.v (.pointer (some ⟨d.b,0,none⟩))) true (by rfl) (by rfl) (by rfl) (by rfl) (fun w h=>kg_mp h) (by kernel_rfl) (by kernel_rfl) (fun w=>rfl) (wf_small hi) (by rw [hp]; rfl) (by rw [hp]; rfl) ?_|refine opnv (by rfl) (by rfl) ?_|refine punv (by rfl) (by rfl) ?_|refine fv_ ?_|refine uf_ ?_|refine opxc (g:=d.b) (off:=0+5) (.b d.v.hd) (fun w hH=>(Hold.ob hH (A:=kgO 0 x.q x.p x.mb M K Sk D true) 0 rfl).f.hrd hd) ⟨tab_ok⟩ (by rfl) (by rfl) (by show Addr.add ⟨d.b,0,none⟩ 5=_; rw [Go.WideShapes.add_plain]) ?_|refine opxc (g:=d.b) (off:=0+1+1) (.i .i64 d.v.h.a) (fun w hH=>(Hold.ob hH (A:=kgO 0 x.q x.p x.mb M K Sk D true) 0 rfl).f.ha hd) ⟨tab_ok⟩ (by rfl) (by rfl) (by show Addr.add (Addr.add ⟨d.b,0,none⟩ 1) 1=_; rw [Go.WideShapes.add_plain,Go.WideShapes.add_plain]) ?_|refine opxc (g:=d.b) (off:=0+1+2) (.i .i64 d.v.h.b) (fun w hH=>(Hold.ob hH (A:=kgO 0 x.q x.p x.mb M K Sk D true) 0 rfl).f.hb hd) ⟨tab_ok⟩ (by rfl) (by rfl) (by show Addr.add (Addr.add ⟨d.b,0,none⟩ 1) 2=_; rw [Go.WideShapes.add_plain,Go.WideShapes.add_plain]) ?_|refine callO (f:=95) (A:=kgO 0 x.q x.p x.mb M K Sk D true) 0 (fun _:List Nat=>.t []) (fun S1=>kgO 0 x.q x.p x.mb M (goneK K i) S1 (setD D i none) true) (fun w hH hA=>endT (hH.row 0 _ rfl rfl) hA (hH.far _ (List.mem_of_getElem? (i:=0) rfl) 0 _ rfl rfl) hi ht.q ht.l) (fun S1=>?_)|refine callS (f:=197) (.i .i64 E) (fun w=>by rw [← he2]; exact Se.nextT ep w) ?_|refine callS (f:=197) (.i .i64 E) (fun w=>by rw [← he1]; exact Se.nextT (Se.nx ep) w) ?_|refine callS (f:=197) (.i .i64 (Se.nx ep)) (Se.nextT ep) ?_|refine callH (f:=94) (.i .i64 (goneK K i).G.now) (fun w hH=>nowG (hH.row 0 _ rfl rfl) (Hold.ob hH (A:=kgO 0 x.q x.p x.mb M (goneK K i) S1 (setD D i none) true) 0 rfl) (hH.far _ (List.mem_of_getElem? (i:=0) rfl) 0 _ rfl rfl)) ?_|refine callN (f:=198) (ι:=Nat) (fun q=>.v (.pointer (some ⟨q,0,none⟩))) (fun q=>lkA 0 q ⟨c,i,E,0,0,0,0,false,cl (goneK K i).G.now⟩ [] [q] true) (fun w1 hH=>(Ln.newL c i (E) (goneK K i).G.now hEb w1).mono (by rintro e w' ⟨q,rfl,h1,h2⟩; exact ⟨q,rfl,h1.base (Nat.zero_le _),h2,h1.low⟩)) (fun q=>?_)|(refine opupN (A:=kgO 0 x.q x.p x.mb M (goneK K i) S1 (setD D i none) true) (C:=lkA 0 q ⟨c,i,E,0,0,0,0,false,cl (goneK K i).G.now⟩ [] [q] true) (r:=⟨b,103,true,0,[],[.v (.pointer (some ⟨q,0,none⟩)),.i .i64 h.ki,.i .i64 h.a,.i .i64 h.b,.i .i64 h.c,.b false],[],true⟩) (u:=.pointer (some ⟨b,0,none⟩)) (b:=x.mb) (n:=M) (mp:=ptrs (setD D i none)) (kt:=3) (e:=100) 0 1 2 (.p 2 0) (kgO 0 x.q x.p x.mb (M+1) (goneK K i) S1 (setD (setD D i none) i (some ⟨b,q,[q],newV c i (E) (goneK K i).G.now h⟩)) true) (by rfl) (by rfl) (by rfl) (by rfl) (by rfl) (by rfl) (by rfl) (by decide) rfl rfl rfl (fun w h=>kg_mp h) (kg_mb ..) (by rfl) (fun w w' hA hC hB d1 d2 d3 hm hu=>KG.add (d:=⟨b,q,[q],newV c i (E) (goneK K i).G.now h⟩) hA hi ⟨Nat.zero_le _,hB,hC,d3⟩ (bl_far d1 d2) hm hu) (fun g hg=>kg_add3 hg) (by kernel_rfl) (by kernel_rfl) (wf_small hi) hM ?_; obtain ⟨bs,rfl⟩:∃ bs,bs=b:=⟨b,rfl⟩)|refine opb1 (e:=82) ⟨tab_ok⟩ [.i .i64 i,.i .i64 2,.i .i64 (E),.i .i64 0,.i .i64 0] (by rfl) (by rfl) ?_|refine callO (f:=92) (A:=kgO 0 x.q x.p x.mb (M+1) (goneK K i) S1 (setD (setD D i none) i (some ⟨bs,q,[q],newV c i (E) (goneK K i).G.now h⟩)) true) 0 (fun z:{z:List Nat×Fam // vals z.2=(tellF (goneK K i,vals (setD (setD D i none) i (some ⟨bs,q,[q],newV c i (E) (goneK K i).G.now h⟩))) [(⟨i,⟨2,E,0,0⟩⟩:EvV)]).2}=>.t []) (fun z=>kgO 0 x.q x.p x.mb (M+1) (tellF (goneK K i,vals (setD (setD D i none) i (some ⟨bs,q,[q],newV c i (E) (goneK K i).G.now h⟩))) [(⟨i,⟨2,E,0,0⟩⟩:EvV)]).1 z.1.1 z.1.2 true) (fun w hH hA=>(tellT (n:=1) (A:=some ⟨b,0,none⟩) (es:=[(⟨i,⟨2,E,0,0⟩⟩:EvV)]) (hH.row 0 _ rfl rfl) hA (hH.far _ (List.mem_of_getElem? (i:=0) rfl) 0 _ rfl rfl) (Co.Ek.of_blk (lo:=0) (hH.row 3 _ rfl rfl) (Nat.zero_le _) (by decide)) rfl (by intro g hg; rw [List.mem_singleton.1 hg]; exact hH.far _ (List.mem_of_getElem? (i:=0) rfl) 3 _ rfl rfl) (by intro hm; exact hH.ne 0 3 _ _ rfl rfl rfl rfl (by decide) (List.mem_singleton.1 hm)) (by intro e he; rw [List.mem_singleton.1 he]; exact hi) (by rw [vals_set]; exact hti) (by decide)).mono (by rintro e w' ⟨z,rfl,h1,h2,h3,h4⟩; exact ⟨⟨z,h2⟩,rfl,h1,h3,h4⟩)) (fun z=>?_)|refine fin fun w' hH=>⟨z.1,rfl,by have:=hH.row 0 _ rfl rfl; rw [rowA_nil rfl rfl] at this; exact this,by rw [← hbo bs q]; exact Hold.ob hH (A:=kgO 0 x.q x.p x.mb (M+1) (tellF (goneK K i,vals (setD (setD D i none) i (some ⟨bs,q,[q],newV c i (E) (goneK K i).G.now h⟩))) [(⟨i,⟨2,E,0,0⟩⟩:EvV)]).1 z.1.1 z.1.2 true) 0 rfl,by rw [← hbo bs q]; exact z.2,hH.upd,fun g hg=>hH.own _ (List.mem_of_getElem? (i:=0) rfl) rfl g hg,hH.far _ (List.mem_of_getElem? (i:=0) rfl) 0 _ rfl rfl⟩|exact absurd hkp (by simp [keepB, *])|refine fin_s ?_)))
theorem welKeep {d:SeD} (h:MsgV) (hd:D i=some d) (hkp:keepB d.v h=true) (hb:Blk w gq 96 (gwA c x ep)) (hk:KG 0 x.q x.p x.mb M K Sk D w) (hg:gq∉kgF x.mb Sk D) (hi:0≤i∧i < 64) :
  Calls Tryz.prog 140 #[.pointer (some ⟨gq,0,none⟩),.int .i64 i,.agg #[.int .i64 h.ki,.int .i64 h.a,.int .i64 h.b,.int .i64 h.c]] w (WelQ gq (M+1) c x (kgF x.mb Sk D) w ((K,vals D),ep)):=by
 have hp:ptrs D i=some (.pointer (some ⟨d.b,0,none⟩)):=by unfold ptrs; rw [hd]; rfl
 simp only [keepB,Bool.and_eq_true,Bool.not_eq_true',beq_iff_eq] at hkp
 obtain ⟨hhd,h1,h2⟩:=hkp
 refine entH tab_ok (hold_gw hb hk hg) [.p 0 0,.i .i64 i,.a [.i .i64 h.ki,.i .i64 h.a,.i .i64 h.b,.i .i64 h.c]] Tryz.func140 Tryz.ntmps140 rfl rfl ?_
 repeat' (first | refine gq_ ?_|((conv=>whnf); first | intro b | refine drA (id:=3) ⟨tab_ok⟩ [3,10,20] ?_|refine drA ⟨tab_ok⟩ [] ?_|refine bto ?_|refine bfo ?_|refine And.intro ?_ ?_|refine oplo (b:=x.mb) (n:=M) (m:=ptrs D) (k:=3) (e:=100) 0 (.pointer none) (.v (.pointer (some ⟨d.b,0,none⟩))) true (by rfl) (by rfl) (by rfl) (by rfl) (fun w h=>kg_mp h) (by kernel_rfl) (by kernel_rfl) (fun w=>rfl) (wf_small hi) (by rw [hp]; rfl) (by rw [hp]; rfl) ?_|refine opnv (by rfl) (by rfl) ?_|refine punv (by rfl) (by rfl) ?_|refine fv_ ?_|refine uf_ ?_|refine opxc (g:=d.b) (off:=0+5) (.b false) (fun w hH=>by have:=(Hold.ob hH (A:=kgO 0 x.q x.p x.mb M K Sk D true) 0 rfl).f.hrd hd; rw [hhd] at this; exact this) ⟨tab_ok⟩ (by rfl) (by rfl) (by show Addr.add ⟨d.b,0,none⟩ 5=_; rw [Go.WideShapes.add_plain]) ?_|refine opxc (g:=d.b) (off:=0+1+1) (.i .i64 d.v.h.a) (fun w hH=>(Hold.ob hH (A:=kgO 0 x.q x.p x.mb M K Sk D true) 0 rfl).f.ha hd) ⟨tab_ok⟩ (by rfl) (by rfl) (by show Addr.add (Addr.add ⟨d.b,0,none⟩ 1) 1=_; rw [Go.WideShapes.add_plain,Go.WideShapes.add_plain]) ?_|refine opxc (g:=d.b) (off:=0+1+2) (.i .i64 d.v.h.b) (fun w hH=>(Hold.ob hH (A:=kgO 0 x.q x.p x.mb M K Sk D true) 0 rfl).f.hb hd) ⟨tab_ok⟩ (by rfl) (by rfl) (by show Addr.add (Addr.add ⟨d.b,0,none⟩ 1) 2=_; rw [Go.WideShapes.add_plain,Go.WideShapes.add_plain]) ?_|refine fin fun w' hH=>⟨(Sk,D),rfl,by have:=hH.row 0 _ rfl rfl; rw [rowA_nil rfl rfl] at this; exact this,(Hold.ob hH (A:=kgO 0 x.q x.p x.mb M K Sk D true) 0 rfl).more (Nat.le_succ _),rfl,hH.upd,fun g hg=>.inl (List.mem_cons_of_mem _ hg),hg⟩|refine fin_s ?_))
theorem welT {T:Int} (h:MsgV) (hb:Blk w gq 96 (gwA c x ep)) (hk:KG 0 x.q x.p x.mb M K Sk D w) (hg:gq∉kgF x.mb Sk D) (hi:0≤i∧i < 64) (ht:TI T (K,vals D)) (hT:0≤T) (hM:M < 1000000) :
  Calls Tryz.prog 140 #[.pointer (some ⟨gq,0,none⟩),.int .i64 i,.agg #[.int .i64 h.ki,.int .i64 h.a,.int .i64 h.b,.int .i64 h.c]] w (WelQ gq (M+1) c x (kgF x.mb Sk D) w (welK c (K,vals D) ep i h)):=by
 unfold welK
 cases hd:D i with
 | none =>
  have hv:(K,vals D).2 i=none:=by show vals D i=none; unfold vals; rw [hd]; rfl
  rw [hv]
  exact welNew h hd hb hk hg hi ht hT hM
 | some d =>
  have hv:(K,vals D).2 i=some d.v:=by show vals D i=some d.v; unfold vals; rw [hd]; rfl
  rw [hv]
  cases hkp:keepB d.v h with
  | true =>
   simp only [hkp,if_true]
   exact welKeep h hd hkp hb hk hg hi
  | false =>
   simp only [hkp]
   exact welEnd h hd hkp hb hk hg hi ht hT hM
end
end Gw
namespace Gw
open Go.RowKit Ba Mem En Go.Proofs.YtepfmfalebmcnaaGreatDoor.Ty Mp Tm
open Ri (MsgV)
open Mg (PktV pktC)
open Ln (LkV LO PkV recvK recvL recvM takeB)
open Co (KV Pt KW Nr evE EvV evs inC Hold.ob)
set_option maxRecDepth 100000
theorem wf_byte {I:Int} (h:0≤I∧I≤255):(Lit.int .i64 I).wf=true:=by
 have h1:IntKind.i64.min = -9223372036854775808:=by decide
 have h2:IntKind.i64.max=9223372036854775807:=by decide
 simp [Lit.wf]; omega
def toK (p:PktV):PkV:=⟨p.se,p.ep,p.sq,p.ak,p.has,⟨p.ki,p.a,p.b,p.c⟩⟩
def msgP (p:PktV):MsgV:=⟨p.ki,p.a,p.b,p.c⟩
def recvS (v:SeV) (p:PktV) (now:Int) (hd:Bool):SeV:=⟨recvK v.k v.ls.length (toK p) now,recvL v.k v.ls (toK p),v.h,hd⟩
def comeK (c:CfgV) (x:Kv) (ep:Int) (p:PktV):Kv×Int :=
 if helB c p=true then welK c x ep p.se (msgP p) else match x.2 p.se with
 | none=>(x,ep)
 | some v=>if takeB v.k (toK p)=true then (tellF (saidK x.1 p.se v.h.b (msgP p),setV x.2 p.se (some (recvS v p x.1.G.now true))) (saidE x.1 p.se v.h.b (msgP p)),ep) else ((x.1,setV x.2 p.se (some (recvS v p x.1.G.now v.hd))),ep)
theorem recv_len (v:SeV) (p:PktV) (now:Int) (b:Bool):(recvS v p now b).ls.length≤v.ls.length:=by
 unfold recvS recvL Ln.hearL
 (repeat' split) <;> simp
theorem recv_st (v:SeV) (p:PktV) (now:Int) (b:Bool):(recvS v p now b).k.st=v.k.st∨(recvS v p now b).k.st=0:=by
 unfold recvS recvK Ln.hearK
 (repeat' split) <;> simp
theorem said_s {K:KV} {n f:Int} {m:MsgV}:∀ e∈saidE K n f m,e.s=n:=by
 intro e he
 unfold saidE at he
 split at he
 ·simp [evs] at he; rw [he]
 ·split at he
  ·simp only [evs,List.mem_map] at he
   obtain ⟨_,_,rfl⟩:=he; rfl
  ·cases he
theorem said_len {K:KV} {n f:Int} {m:MsgV}:(saidE K n f m).length≤1:=by
 unfold saidE
 split
 ·simp [evs]
 ·split
  ·rw [evs_len]; exact Lc.hearM_len K n m
  ·simp
section
variable {lo q mb M:Nat} {p:Pt} {K:KV} {Sk:List Nat} {D:Fam} {w w':World} {i:Int} {d:SeD}
theorem KG.heard {d':SeD} (h:KG lo q p mb M K Sk D w) (hd:D i=some d) (hb:d'.b=d.b) (hS:d'.S=d.S) (hk:d'.q=d.q∧d'.v.k=d.v.k∧d'.v.ls=d.v.ls) (hB:Blk w' d.b 103 (seC d')) (u:Upd [d.b] w w'):KG lo q p mb M K Sk (setD D i (some d')) w':=by
 obtain ⟨hi,hs⟩:=h.f.at_ i d hd
 have hbl:blS d'=blS d:=by unfold blS; rw [hb,hS]
 have u2:Upd (blS d) w w':=u.mono (fun g hg _=>by rw [List.mem_singleton] at hg; subst hg; exact List.mem_cons_self ..)
 have hs':SeO lo d' w':=by
  refine ⟨by rw [hb]; exact hs.1,by rw [hb]; exact hB, ?_,by rw [hb,hS]; exact hs.2.2.2⟩
  rw [hk.1,hk.2.1,hk.2.2,hS]
  exact hs.2.2.1.upd u (fun g hg hgb=>by rw [List.mem_singleton] at hgb; subst hgb; exact hs.2.2.2 hg)
 have hn:∀ g∈blS d',g∈blS d∨w.heap.size≤g:=fun g hg=>.inl (hbl ▸ hg)
 refine ⟨h.k.upd u (fun g hg hgb=>?_),h.f.set hd hb u2 hs' hn,fun g hg hgm=>?_⟩
 ·rw [List.mem_singleton] at hgb; subst hgb
  exact h.far _ hg (List.mem_cons_of_mem _ (fam_at hd hi (List.mem_cons_self ..)))
 ·rcases fam_set hd hi hn g hgm with hgm | hgm
  ·exact h.far g hg hgm
  ·have:=h.k.lt g hg; omega
theorem kg_set2 {d':SeD} (hd:D i=some d) (hi:0≤i∧i < 64) (hbl:blS d'=blS d):∀ g∈kgF mb Sk (setD D i (some d')),g∈kgF mb Sk D:=fun g hg=>by
 rcases List.mem_append.1 hg with hg | hg
 ·exact List.mem_append.2 (.inl hg)
 ·rcases List.mem_cons.1 hg with rfl | hg
  ·exact List.mem_append.2 (.inr (List.mem_cons_self ..))
  ·obtain ⟨k,hk,e,he,hg⟩:=fam_mem.1 hg
   by_cases hj:(k:Int)=i
   ·rw [hj,setD_at] at he; cases he
    exact List.mem_append.2 (.inr (List.mem_cons_of_mem _ (fam_at hd hi (hbl ▸ hg))))
   ·rw [setD_ne hj] at he
    exact List.mem_append.2 (.inr (List.mem_cons_of_mem _ (fam_mem.2 ⟨k,hk,e,he,hg⟩)))
end
theorem five_lt (d:SeD):0+5 < (seC d).size:=by show 5 < 6; decide
attribute [local irreducible] Go.Calls
section
variable {gq M:Nat} {c:CfgV} {x:Gp} {ep:Int} {K:KV} {Sk:List Nat} {D:Fam} {w:World}
theorem welRO {T:Int} {i:Int} (h:MsgV) {w:World} (hb:Blk w gq 96 (gwA c x ep)) (hk:KG 0 x.q x.p x.mb M K Sk D w) (hg:gq∉kgF x.mb Sk D) (hi:0≤i∧i < 64) (ht:TI T (K,vals D)) (hT:0≤T) (hM:M < 1000000) :
  Calls Tryz.prog 140 #[.pointer (some ⟨gq,0,none⟩),.int .i64 i,.agg #[.int .i64 h.ki,.int .i64 h.a,.int .i64 h.b,.int .i64 h.c]] w fun e w'=>∃ y:{y:List Nat×Fam // vals y.2=(welK c (K,vals D) ep i h).1.2},e=.returned (.tuple #[])∧Blk w' gq 96 (gwA c x (welK c (K,vals D) ep i h).2)∧KG 0 x.q x.p x.mb (M+1) (welK c (K,vals D) ep i h).1.1 y.1.1 y.1.2 w'∧Upd (gq::kgF x.mb Sk D) w w'∧∀ g∈kgF x.mb y.1.1 y.1.2,g∈kgF x.mb Sk D∨w.heap.size≤g :=
 (welT h hb hk hg hi ht hT hM).mono (by
  rintro e w' ⟨y,rfl,h1,h2,h3,h4,h5,h6⟩
  refine ⟨⟨y,h3⟩,rfl,h1,h2,h4,fun g hg1=>?_⟩
  rcases h5 g hg1 with hg2 | hg2
  ·rcases List.mem_cons.1 hg2 with e | hg2
   ·rw [e] at hg1; exact absurd hg1 h6
   ·exact .inl hg2
  ·exact .inr hg2)
set_option maxHeartbeats 4000000 in
theorem comeT {T:Int} (p:PktV) (hse:0≤p.se∧p.se≤255) (hb:Blk w gq 96 (gwA c x ep)) (hk:KG 0 x.q x.p x.mb M K Sk D w) (hg:gq∉kgF x.mb Sk D) (ht:TI T (K,vals D)) (hT:0≤T) (hM:M < 1000000) (h0:K.G.cars.length≤10000) (hin:∀ n,Le.hasL K.L n=true→inC K (Le.ofL K.L n)) (hsd:∀ n f m,(saidK K n f m).Q.length≤1000∧(saidK K n f m).L.length≤10000) :
  Calls Tryz.prog 101 #[.pointer (some ⟨gq,0,none⟩),.agg (pktC p)] w (WelQ gq (M+1) c x (kgF x.mb Sk D) w (comeK c (K,vals D) ep p)):=by
 unfold comeK
 cases hh:helB c p with
 | true =>
  have hi:0≤p.se∧p.se < 64:=by
   simp only [helB,Bool.and_eq_true,decide_eq_true_eq] at hh
   have:=(ses_bd c).2; omega
  simp only [if_true]
  refine entH tab_ok (hold_gw hb hk hg) [.p 0 0,.a [.i .i64 p.se,.i .i64 p.ep,.i .i64 p.sq,.i .i64 p.ak,.b p.has,.i .i64 p.ki,.i .i64 p.a,.i .i64 p.b,.i .i64 p.c]] Tryz.func101 Tryz.ntmps101 rfl rfl ?_
  repeat' (first | refine gs_ ?_|((conv=>whnf); first | intro b | refine callH (f:=139) (.b true) (fun w hH=>by have:=helT (hH.row 0 _ rfl rfl) p; rw [hh] at this; exact this) ?_|refine callRO (f:=140) 0 0 (A:=kgO 0 x.q x.p x.mb M K Sk D true) (fun y:{y:List Nat×Fam // vals y.2=(welK c (K,vals D) ep p.se (msgP p)).1.2}=>.t []) (fun y=>gwS c x (welK c (K,vals D) ep p.se (msgP p)).2) (fun y=>kgO 0 x.q x.p x.mb (M+1) (welK c (K,vals D) ep p.se (msgP p)).1.1 y.1.1 y.1.2 true) (fun w hH hB hA hq=>welRO (msgP p) hB hA hq hi ht hT hM) (fun y=>?_)|refine fin fun w' hH=>⟨y.1,rfl,by have:=hH.row 0 _ rfl rfl; rw [rowA_nil rfl rfl] at this; exact this,Hold.ob hH (A:=kgO 0 x.q x.p x.mb (M+1) (welK c (K,vals D) ep p.se (msgP p)).1.1 y.1.1 y.1.2 true) 0 rfl,y.2,hH.upd,fun g hg=>hH.own _ (List.mem_of_getElem? (i:=0) rfl) rfl g hg,hH.far _ (List.mem_of_getElem? (i:=0) rfl) 0 _ rfl rfl⟩|refine fin_s ?_))
 | false =>
  simp only [Bool.false_eq_true,if_false]
  cases hd:D p.se with
  | none =>
   have hp:ptrs D p.se=none:=by unfold ptrs; rw [hd]; rfl
   have hv:vals D p.se=none:=by unfold vals; rw [hd]; rfl
   simp only [hv]
   refine entH tab_ok (hold_gw hb hk hg) [.p 0 0,.a [.i .i64 p.se,.i .i64 p.ep,.i .i64 p.sq,.i .i64 p.ak,.b p.has,.i .i64 p.ki,.i .i64 p.a,.i .i64 p.b,.i .i64 p.c]] Tryz.func101 Tryz.ntmps101 rfl rfl ?_
   repeat' (first | refine gq_ ?_|((conv=>whnf); first | intro b | refine drA (id:=5) ⟨tab_ok⟩ [3] ?_|refine drA (id:=8) ⟨tab_ok⟩ [8] ?_|refine drA ⟨tab_ok⟩ [] ?_|refine And.intro ?_ ?_|refine callH (f:=139) (.b false) (fun w hH=>by have:=helT (hH.row 0 _ rfl rfl) p; rw [hh] at this; exact this) ?_|refine oplo (b:=x.mb) (n:=M) (m:=ptrs D) (k:=3) (e:=100) 0 (.pointer none) (.v (.pointer none)) false (by rfl) (by rfl) (by rfl) (by rfl) (fun w h=>kg_mp h) (by kernel_rfl) (by kernel_rfl) (fun w=>rfl) (wf_byte hse) (by rw [hp]; rfl) (by rw [hp]; rfl) ?_|refine fin fun w' hH=>⟨(Sk,D),rfl,by have:=hH.row 0 _ rfl rfl; rw [rowA_nil rfl rfl] at this; exact this,(Hold.ob hH (A:=kgO 0 x.q x.p x.mb M K Sk D true) 0 rfl).more (Nat.le_succ _),rfl,hH.upd,fun g hg=>hH.own _ (List.mem_of_getElem? (i:=0) rfl) rfl g hg,hH.far _ (List.mem_of_getElem? (i:=0) rfl) 0 _ rfl rfl⟩|refine fin_s ?_))
  | some d =>
   have hp:ptrs D p.se=some (.pointer (some ⟨d.b,0,none⟩)):=by unfold ptrs; rw [hd]; rfl
   have hv:vals D p.se=some d.v:=by unfold vals; rw [hd]; rfl
   have hi:=(hk.f.at_ _ d hd).1
   have hls:=ht.s _ _ hv
   have hrec:=fun w S (hL:LO 0 d.q d.v.k d.v.ls S w)=>Ln.recvT hL (toK p) K.G.now (by omega)
   simp only [hv]
   cases htk:takeB d.v.k (toK p) with
   | false =>
    have hm:recvM d.v.k (toK p)=Ln.zeroM:=by unfold recvM; rw [htk]; rfl
    rw [htk,hm] at hrec
    have hvs:∀ S',vals (setD D p.se (some ⟨d.b,d.q,S',recvS d.v p K.G.now d.v.hd⟩))=setV (vals D) p.se (some (recvS d.v p K.G.now d.v.hd)):=fun S'=>by rw [vals_set]; rfl
    simp only [Bool.false_eq_true,if_false]
    refine entH tab_ok (hold_gw hb hk hg) [.p 0 0,.a [.i .i64 p.se,.i .i64 p.ep,.i .i64 p.sq,.i .i64 p.ak,.b p.has,.i .i64 p.ki,.i .i64 p.a,.i .i64 p.b,.i .i64 p.c]] Tryz.func101 Tryz.ntmps101 rfl rfl ?_
    repeat' (first | refine gq_ ?_|((conv=>whnf); first | intro b | refine drA (id:=5) ⟨tab_ok⟩ [3] ?_|refine drA (id:=8) ⟨tab_ok⟩ [8] ?_|refine drA ⟨tab_ok⟩ [] ?_|refine And.intro ?_ ?_|refine callH (f:=139) (.b false) (fun w hH=>by have:=helT (hH.row 0 _ rfl rfl) p; rw [hh] at this; exact this) ?_|refine oplo (b:=x.mb) (n:=M) (m:=ptrs D) (k:=3) (e:=100) 0 (.pointer none) (.v (.pointer (some ⟨d.b,0,none⟩))) true (by rfl) (by rfl) (by rfl) (by rfl) (fun w h=>kg_mp h) (by kernel_rfl) (by kernel_rfl) (fun w=>rfl) (wf_byte hse) (by rw [hp]; rfl) (by rw [hp]; rfl) ?_|refine opnv (by rfl) (by rfl) ?_|refine punv (by rfl) (by rfl) ?_|refine fv_ ?_|refine uf_ ?_|refine opxc (g:=d.b) (off:=0+0) (.v (.pointer (some ⟨d.q,0,none⟩))) (fun w hH=>(Hold.ob hH (A:=kgO 0 x.q x.p x.mb M K Sk D true) 0 rfl).f.cell hd) ⟨tab_ok⟩ (by rfl) (by rfl) (by show Addr.add ⟨d.b,0,none⟩ 0=_; rw [Go.WideShapes.add_plain]) ?_|refine callH (f:=94) (.i .i64 K.G.now) (fun w hH=>nowG (hH.row 0 _ rfl rfl) (Hold.ob hH (A:=kgO 0 x.q x.p x.mb M K Sk D true) 0 rfl) (hH.far _ (List.mem_of_getElem? (i:=0) rfl) 0 _ rfl rfl)) ?_|refine callO (f:=141) (A:=kgO 0 x.q x.p x.mb M K Sk D true) 0 (fun _:List Nat=>.t [.a [.i .i64 Ln.zeroM.ki,.i .i64 Ln.zeroM.a,.i .i64 Ln.zeroM.b,.i .i64 Ln.zeroM.c],.b false]) (fun S'=>kgO 0 x.q x.p x.mb M K Sk (setD D p.se (some ⟨d.b,d.q,S',recvS d.v p K.G.now d.v.hd⟩)) true) (fun w hH hA=>KG.link hA hd (fun hL=>hrec w _ hL)) (fun S'=>?_)|refine fin fun w' hH=>⟨(Sk,setD D p.se (some ⟨d.b,d.q,S',recvS d.v p K.G.now d.v.hd⟩)),rfl,by have:=hH.row 0 _ rfl rfl; rw [rowA_nil rfl rfl] at this; exact this,(Hold.ob hH (A:=kgO 0 x.q x.p x.mb M K Sk (setD D p.se (some ⟨d.b,d.q,S',recvS d.v p K.G.now d.v.hd⟩)) true) 0 rfl).more (Nat.le_succ _),hvs S',hH.upd,fun g hg=>hH.own _ (List.mem_of_getElem? (i:=0) rfl) rfl g hg,hH.far _ (List.mem_of_getElem? (i:=0) rfl) 0 _ rfl rfl⟩|refine fin_s ?_))
   | true =>
    have hm:recvM d.v.k (toK p)=msgP p:=by unfold recvM; rw [htk]; rfl
    rw [htk,hm] at hrec
    have hvs:∀ S',vals (setD (setD D p.se (some ⟨d.b,d.q,S',recvS d.v p K.G.now d.v.hd⟩)) p.se (some ⟨d.b,d.q,S',recvS d.v p K.G.now true⟩))=setV (vals D) p.se (some (recvS d.v p K.G.now true)):=fun S'=>by rw [vals_set,vals_set,setV_setV]; rfl
    have hst:=recv_st d.v p K.G.now true
    have hln:=recv_len d.v p K.G.now true
    have hvt:=ht.t _ _ hv
    have hti:TI T (saidK K p.se d.v.h.b (msgP p),setV (vals D) p.se (some (recvS d.v p K.G.now true))):=by
     have h1:=ht.set p.se (recvS d.v p K.G.now true) (by omega) (by omega)
     exact ⟨(hsd _ _ _).1,(hsd _ _ _).2,h1.s,h1.t⟩
    simp only [if_true]
    refine entH tab_ok (hold_gw hb hk hg) [.p 0 0,.a [.i .i64 p.se,.i .i64 p.ep,.i .i64 p.sq,.i .i64 p.ak,.b p.has,.i .i64 p.ki,.i .i64 p.a,.i .i64 p.b,.i .i64 p.c]] Tryz.func101 Tryz.ntmps101 rfl rfl ?_
    repeat' (first | refine gq_ ?_|((conv=>whnf); first | intro b | refine drA (id:=5) ⟨tab_ok⟩ [3] ?_|refine drA (id:=8) ⟨tab_ok⟩ [8] ?_|refine drA ⟨tab_ok⟩ [] ?_|refine And.intro ?_ ?_|refine callH (f:=139) (.b false) (fun w hH=>by have:=helT (hH.row 0 _ rfl rfl) p; rw [hh] at this; exact this) ?_|refine oplo (b:=x.mb) (n:=M) (m:=ptrs D) (k:=3) (e:=100) 0 (.pointer none) (.v (.pointer (some ⟨d.b,0,none⟩))) true (by rfl) (by rfl) (by rfl) (by rfl) (fun w h=>kg_mp h) (by kernel_rfl) (by kernel_rfl) (fun w=>rfl) (wf_byte hse) (by rw [hp]; rfl) (by rw [hp]; rfl) ?_|refine opnv (by rfl) (by rfl) ?_|refine punv (by rfl) (by rfl) ?_|refine fv_ ?_|refine uf_ ?_|refine opxc (g:=d.b) (off:=0+0) (.v (.pointer (some ⟨d.q,0,none⟩))) (fun w hH=>(Hold.ob hH (A:=kgO 0 x.q x.p x.mb M K Sk D true) 0 rfl).f.cell hd) ⟨tab_ok⟩ (by rfl) (by rfl) (by show Addr.add ⟨d.b,0,none⟩ 0=_; rw [Go.WideShapes.add_plain]) ?_|refine callH (f:=94) (.i .i64 K.G.now) (fun w hH=>nowG (hH.row 0 _ rfl rfl) (Hold.ob hH (A:=kgO 0 x.q x.p x.mb M K Sk D true) 0 rfl) (hH.far _ (List.mem_of_getElem? (i:=0) rfl) 0 _ rfl rfl)) ?_|refine callO (f:=141) (A:=kgO 0 x.q x.p x.mb M K Sk D true) 0 (fun _:List Nat=>.t [.a [.i .i64 (msgP p).ki,.i .i64 (msgP p).a,.i .i64 (msgP p).b,.i .i64 (msgP p).c],.b true]) (fun S'=>kgO 0 x.q x.p x.mb M K Sk (setD D p.se (some ⟨d.b,d.q,S',recvS d.v p K.G.now d.v.hd⟩)) true) (fun w hH hA=>KG.link hA hd (fun hL=>hrec w _ hL)) (fun S'=>?_)|refine opsv ⟨tab_ok⟩ 0 (A:=kgO 0 x.q x.p x.mb M K Sk (setD D p.se (some ⟨d.b,d.q,S',recvS d.v p K.G.now d.v.hd⟩)) true) (kgO 0 x.q x.p x.mb M K Sk (setD (setD D p.se (some ⟨d.b,d.q,S',recvS d.v p K.G.now d.v.hd⟩)) p.se (some ⟨d.b,d.q,S',recvS d.v p K.G.now true⟩)) true) (T:=103) (g:=d.b) (off:=0+5) (v:=.b true) (cs:=seC ⟨d.b,d.q,S',recvS d.v p K.G.now d.v.hd⟩) (cs':=seC ⟨d.b,d.q,S',recvS d.v p K.G.now true⟩) (by rfl) (by rfl) (by show Addr.add ⟨d.b,0,none⟩ 5=_; rw [Go.WideShapes.add_plain]) (by rfl) (by rfl) rfl (fun w h=>((KG.f h).at_ p.se ⟨d.b,d.q,S',recvS d.v p K.G.now d.v.hd⟩ (setD_at _ _ _)).2.2.1) (five_lt _) rfl (fun w w' h hB hu=>KG.heard (d:=⟨d.b,d.q,S',recvS d.v p K.G.now d.v.hd⟩) (d':=⟨d.b,d.q,S',recvS d.v p K.G.now true⟩) h (setD_at _ _ _) rfl rfl ⟨rfl,rfl,rfl⟩ hB hu) (List.mem_append.2 (.inr (List.mem_cons_of_mem _ (fam_at (d:=⟨d.b,d.q,S',recvS d.v p K.G.now d.v.hd⟩) (setD_at _ _ _) hi (List.mem_cons_self ..))))) (kg_set2 (d:=⟨d.b,d.q,S',recvS d.v p K.G.now d.v.hd⟩) (d':=⟨d.b,d.q,S',recvS d.v p K.G.now true⟩) (setD_at _ _ _) hi rfl) ?_|refine opxc (g:=d.b) (off:=0+1+2) (.i .i64 d.v.h.b) (fun w hH=>FO.hb (i:=p.se) (d:=⟨d.b,d.q,S',recvS d.v p K.G.now true⟩) (Hold.ob hH (A:=kgO 0 x.q x.p x.mb M K Sk (setD (setD D p.se (some ⟨d.b,d.q,S',recvS d.v p K.G.now d.v.hd⟩)) p.se (some ⟨d.b,d.q,S',recvS d.v p K.G.now true⟩)) true) 0 rfl).f (setD_at _ _ _)) ⟨tab_ok⟩ (by rfl) (by rfl) (by show Addr.add (Addr.add ⟨d.b,0,none⟩ 1) 2=_; rw [Go.WideShapes.add_plain,Go.WideShapes.add_plain]) ?_|refine callON (f:=142) (A:=kgO 0 x.q x.p x.mb M K Sk (setD (setD D p.se (some ⟨d.b,d.q,S',recvS d.v p K.G.now d.v.hd⟩)) p.se (some ⟨d.b,d.q,S',recvS d.v p K.G.now true⟩)) true) 0 (fun y:List Nat×Nr=>.v (.slice y.2.2.1 (saidE K p.se d.v.h.b (msgP p)).length y.2.2.2)) (fun y=>kgO 0 x.q x.p x.mb M (saidK K p.se d.v.h.b (msgP p)) y.1 (setD (setD D p.se (some ⟨d.b,d.q,S',recvS d.v p K.G.now d.v.hd⟩)) p.se (some ⟨d.b,d.q,S',recvS d.v p K.G.now true⟩)) true) (fun y=>rwO evE y.2.1 y.2.2.1 (saidE K p.se d.v.h.b (msgP p)).length y.2.2.2 (saidE K p.se d.v.h.b (msgP p)) true) (fun w1 hH hA=>saidT (hH.row 0 _ rfl rfl) hA (hH.far _ (List.mem_of_getElem? (i:=0) rfl) 0 _ rfl rfl) ht.q ht.l h0 p.se d.v.h.b (msgP p) (hin p.se)) (fun y=>?_)|refine callO (f:=92) (A:=kgO 0 x.q x.p x.mb M (saidK K p.se d.v.h.b (msgP p)) y.1 (setD (setD D p.se (some ⟨d.b,d.q,S',recvS d.v p K.G.now d.v.hd⟩)) p.se (some ⟨d.b,d.q,S',recvS d.v p K.G.now true⟩)) true) 0 (fun z:{z:List Nat×Fam // vals z.2=(tellF (saidK K p.se d.v.h.b (msgP p),vals (setD (setD D p.se (some ⟨d.b,d.q,S',recvS d.v p K.G.now d.v.hd⟩)) p.se (some ⟨d.b,d.q,S',recvS d.v p K.G.now true⟩))) (saidE K p.se d.v.h.b (msgP p))).2}=>.t []) (fun z=>kgO 0 x.q x.p x.mb M (tellF (saidK K p.se d.v.h.b (msgP p),vals (setD (setD D p.se (some ⟨d.b,d.q,S',recvS d.v p K.G.now d.v.hd⟩)) p.se (some ⟨d.b,d.q,S',recvS d.v p K.G.now true⟩))) (saidE K p.se d.v.h.b (msgP p))).1 z.1.1 z.1.2 true) (fun w hH hA=>(tellT (hH.row 0 _ rfl rfl) hA (hH.far _ (List.mem_of_getElem? (i:=0) rfl) 0 _ rfl rfl) (Hold.ob hH (A:=rwO evE y.2.1 y.2.2.1 (saidE K p.se d.v.h.b (msgP p)).length y.2.2.2 (saidE K p.se d.v.h.b (msgP p)) true) 1 rfl) rfl (fun g hg hg2=>(pair_at (R:=DisR) (fun _ _ h=>h.symm) hH.dis (i:=0) (j:=1) rfl rfl (by decide) (.inl rfl)) g hg2 hg) (hH.far _ (List.mem_of_getElem? (i:=1) rfl) 0 _ rfl rfl) (fun e he=>by rw [said_s e he]; exact hi) (by rw [hvs S']; exact hti) (Nat.le_trans said_len (by decide))).mono (by rintro e w' ⟨z,rfl,h1,h2,h3,h4⟩; exact ⟨⟨z,h2⟩,rfl,h1,h3,h4⟩)) (fun z=>?_)|refine fin fun w' hH=>⟨z.1,rfl,by have:=hH.row 0 _ rfl rfl; rw [rowA_nil rfl rfl] at this; exact this,by rw [← hvs S']; exact (Hold.ob hH (A:=kgO 0 x.q x.p x.mb M (tellF (saidK K p.se d.v.h.b (msgP p),vals (setD (setD D p.se (some ⟨d.b,d.q,S',recvS d.v p K.G.now d.v.hd⟩)) p.se (some ⟨d.b,d.q,S',recvS d.v p K.G.now true⟩))) (saidE K p.se d.v.h.b (msgP p))).1 z.1.1 z.1.2 true) 0 rfl).more (Nat.le_succ _),by rw [← hvs S']; exact z.2,hH.upd,fun g hg=>hH.own _ (List.mem_of_getElem? (i:=0) rfl) rfl g hg,hH.far _ (List.mem_of_getElem? (i:=0) rfl) 0 _ rfl rfl⟩|refine fin_s ?_))
end
end Gw
end Go.Proofs.YtepfmfalebmcnaaGreatDoor
namespace Go.Proofs
open Go.Shelf
def Tryz.keysA_ren:Go.Shelf.Ren:=⟨fun | 7=>57 | 10=>83 | n=>n,fun | 23=>94 | 26=>3 | 3=>100 | 28=>114 | 0=>0 | 27=>113 | 33=>144 | 4=>4 | n=>n,fun | n=>n⟩
theorem Tryz.keysA:Go.Proofs.SlLaysZI.n7 Tryz.prog Tryz.keysA_ren:={
 mixed:=by kernel_rfl
 f7:=⟨Tryz.f57.name,by decide,Tryz.func57.trans (congrArg some (by kernel_rfl))⟩
 f10:=⟨Tryz.f83.name,by decide,Tryz.func83.trans (congrArg some (by kernel_rfl))⟩
 t0:=Tryz.underlying0
 a0:=Tryz.isAgg0
 z0:=Tryz.sizeOf0
 v0:=Tryz.zeroValue0
 t4:=Tryz.underlying4
 a4:=Tryz.isAgg4
 z4:=Tryz.sizeOf4
 v4:=Tryz.zeroValue4
 t23:=Tryz.underlying94
 a23:=Tryz.isAgg94
 z23:=Tryz.sizeOf94
 v23:=Tryz.zeroValue94
 t26:=Tryz.underlying3
 a26:=Tryz.isAgg3
 z26:=Tryz.sizeOf3
 v26:=Tryz.zeroValue3
 t27:=Tryz.underlying113
 a27:=Tryz.isAgg113
 z27:=Tryz.sizeOf113
 v27:=Tryz.zeroValue113
 t28:=Tryz.underlying114
 a28:=Tryz.isAgg114
 z28:=Tryz.sizeOf114
 v28:=Tryz.zeroValue114
 t33:=Tryz.underlying144
 a33:=Tryz.isAgg144
 z33:=Tryz.sizeOf144
 v33:=Tryz.zeroValue144 }
def Tryz.sortedA_ren:Go.Shelf.Ren:=⟨fun | 6=>56 | 8=>81 | 9=>82 | 11=>110 | 13=>112 | 12=>111 | 23=>164 | 24=>165 | 14=>155 | 15=>156 | 16=>157 | 17=>158 | 18=>159 | 19=>160 | 20=>161 | 21=>162 | 22=>163 | 25=>207 | 26=>208 | 27=>209 | 28=>210 | 29=>211 | 30=>212 | 31=>248 | n=>n,fun | 26=>3 | 28=>114 | 24=>54 | 0=>0 | 3=>3 | 37=>89 | 48=>87 | 50=>120 | 4=>4 | 40=>208 | 39=>207 | 45=>149 | 5=>5 | 9=>9 | 51=>243 | 55=>247 | 57=>273 | 58=>274 | 33=>144 | n=>n,fun | n=>n⟩
theorem Tryz.sortedA:Go.Proofs.SlLaysZI.n6 Tryz.prog Tryz.sortedA_ren:={
 mixed:=by kernel_rfl
 f6:=⟨Tryz.f56.name,by decide,Tryz.func56.trans (congrArg some (by kernel_rfl))⟩
 f8:=⟨Tryz.f81.name,by decide,Tryz.func81.trans (congrArg some (by kernel_rfl))⟩
 f11:=⟨Tryz.f110.name,by decide,Tryz.func110.trans (congrArg some (by kernel_rfl))⟩
 t0:=Tryz.underlying0
 a0:=Tryz.isAgg0
 z0:=Tryz.sizeOf0
 v0:=Tryz.zeroValue0
 t24:=Tryz.underlying54
 a24:=Tryz.isAgg54
 z24:=Tryz.sizeOf54
 v24:=Tryz.zeroValue54
 t26:=Tryz.underlying3
 a26:=Tryz.isAgg3
 z26:=Tryz.sizeOf3
 v26:=Tryz.zeroValue3
 t28:=Tryz.underlying114
 a28:=Tryz.isAgg114
 z28:=Tryz.sizeOf114
 v28:=Tryz.zeroValue114
 i26:=by kernel_rfl }
def Tryz.sortA_ren:Go.Shelf.Ren:=⟨fun | 5=>82 | 8=>112 | 7=>111 | 19=>164 | 20=>165 | 10=>155 | 11=>156 | 12=>157 | 13=>158 | 14=>159 | 15=>160 | 16=>161 | 17=>162 | 18=>163 | 30=>207 | 31=>208 | 32=>209 | 33=>210 | 34=>211 | 35=>212 | 40=>248 | n=>n,fun | 23=>54 | 25=>3 | 3=>3 | 32=>89 | 22=>54 | 0=>0 | 44=>87 | 46=>120 | 4=>4 | 36=>208 | 35=>207 | 41=>149 | 5=>5 | 9=>9 | 53=>243 | 57=>247 | 63=>273 | 64=>274 | n=>n,fun | n=>n⟩
theorem Tryz.sortA:Go.Proofs.SlLaysM.n5 Tryz.prog Tryz.sortA_ren:={
 mixed:=by kernel_rfl
 f5:=⟨Tryz.f82.name,by decide,Tryz.func82.trans (congrArg some (by kernel_rfl))⟩
 f7:=⟨Tryz.f111.name,by decide,Tryz.func111.trans (congrArg some (by kernel_rfl))⟩
 f8:=Tryz.func112.trans (congrArg some (by kernel_rfl))
 f10:=⟨Tryz.f155.name,by decide,Tryz.func155.trans (congrArg some (by kernel_rfl))⟩
 f11:=⟨Tryz.f156.name,by decide,Tryz.func156.trans (congrArg some (by kernel_rfl))⟩
 f12:=⟨Tryz.f157.name,by decide,Tryz.func157.trans (congrArg some (by kernel_rfl))⟩
 f13:=⟨Tryz.f158.name,by decide,Tryz.func158.trans (congrArg some (by kernel_rfl))⟩
 f14:=⟨Tryz.f159.name,by decide,Tryz.func159.trans (congrArg some (by kernel_rfl))⟩
 f15:=⟨Tryz.f160.name,by decide,Tryz.func160.trans (congrArg some (by kernel_rfl))⟩
 f16:=⟨Tryz.f161.name,by decide,Tryz.func161.trans (congrArg some (by kernel_rfl))⟩
 f17:=⟨Tryz.f162.name,by decide,Tryz.func162.trans (congrArg some (by kernel_rfl))⟩
 f18:=⟨Tryz.f163.name,by decide,Tryz.func163.trans (congrArg some (by kernel_rfl))⟩
 f19:=Tryz.func164.trans (congrArg some (by kernel_rfl))
 f20:=Tryz.func165.trans (congrArg some (by kernel_rfl))
 f30:=⟨Tryz.f207.name,by decide,Tryz.func207.trans (congrArg some (by kernel_rfl))⟩
 f31:=Tryz.func208.trans (congrArg some (by kernel_rfl))
 f32:=Tryz.func209.trans (congrArg some (by kernel_rfl))
 f33:=⟨Tryz.f210.name,by decide,Tryz.func210.trans (congrArg some (by kernel_rfl))⟩
 f34:=⟨Tryz.f211.name,by decide,Tryz.func211.trans (congrArg some (by kernel_rfl))⟩
 f35:=⟨Tryz.f212.name,by decide,Tryz.func212.trans (congrArg some (by kernel_rfl))⟩
 f40:=⟨Tryz.f248.name,by decide,Tryz.func248.trans (congrArg some (by kernel_rfl))⟩
 t0:=Tryz.underlying0
 a0:=Tryz.isAgg0
 z0:=Tryz.sizeOf0
 v0:=Tryz.zeroValue0
 t3:=Tryz.underlying3
 a3:=Tryz.isAgg3
 z3:=Tryz.sizeOf3
 v3:=Tryz.zeroValue3
 t4:=Tryz.underlying4
 a4:=Tryz.isAgg4
 z4:=Tryz.sizeOf4
 v4:=Tryz.zeroValue4
 t5:=Tryz.underlying5
 a5:=Tryz.isAgg5
 z5:=Tryz.sizeOf5
 v5:=Tryz.zeroValue5
 t9:=Tryz.underlying9
 a9:=Tryz.isAgg9
 z9:=Tryz.sizeOf9
 v9:=Tryz.zeroValue9
 t22:=Tryz.underlying54
 a22:=Tryz.isAgg54
 z22:=Tryz.sizeOf54
 v22:=Tryz.zeroValue54
 t23:=Tryz.underlying54
 a23:=Tryz.isAgg54
 z23:=Tryz.sizeOf54
 v23:=Tryz.zeroValue54
 t25:=Tryz.underlying3
 a25:=Tryz.isAgg3
 z25:=Tryz.sizeOf3
 v25:=Tryz.zeroValue3
 t32:=Tryz.underlying89
 a32:=Tryz.isAgg89
 z32:=Tryz.sizeOf89
 v32:=Tryz.zeroValue89
 t35:=Tryz.underlying207
 a35:=Tryz.isAgg207
 z35:=Tryz.sizeOf207
 v35:=Tryz.zeroValue207
 t36:=Tryz.underlying208
 a36:=Tryz.isAgg208
 z36:=Tryz.sizeOf208
 v36:=Tryz.zeroValue208
 t41:=Tryz.underlying149
 a41:=Tryz.isAgg149
 z41:=Tryz.sizeOf149
 v41:=Tryz.zeroValue149
 t44:=Tryz.underlying87
 a44:=Tryz.isAgg87
 z44:=Tryz.sizeOf87
 v44:=Tryz.zeroValue87
 t46:=Tryz.underlying120
 a46:=Tryz.isAgg120
 z46:=Tryz.sizeOf120
 v46:=Tryz.zeroValue120
 t53:=Tryz.underlying243
 a53:=Tryz.isAgg243
 z53:=Tryz.sizeOf243
 v53:=Tryz.zeroValue243
 t57:=Tryz.underlying247
 a57:=Tryz.isAgg247
 z57:=Tryz.sizeOf247
 v57:=Tryz.zeroValue247
 t63:=Tryz.underlying273
 a63:=Tryz.isAgg273
 z63:=Tryz.sizeOf273
 v63:=Tryz.zeroValue273
 t64:=Tryz.underlying274
 a64:=Tryz.isAgg274
 z64:=Tryz.sizeOf274
 v64:=Tryz.zeroValue274 }
end Go.Proofs
namespace Go.Proofs.YtepfmfalebmcnaaGreatDoor
namespace Gw
open Go.RowKit Ba Mem En Go.Proofs.YtepfmfalebmcnaaGreatDoor.Ty Mp
open Go.Maps Go.Shelf
open Qu (intE)
set_option maxRecDepth 100000
def keysL (V:Int→Option SeV):List Int:=((List.range 64).filter fun (k:Nat)=>(V (k:Int)).isSome).map fun (k:Nat)=>(k:Int)
theorem keys_mem {V:Int→Option SeV} {x:Int}:x∈keysL V↔(0≤x∧x < 64)∧(V x).isSome=true:=by
 unfold keysL
 simp only [List.mem_map,List.mem_filter,List.mem_range]
 constructor
 ·rintro ⟨k,⟨hk,hv⟩,rfl⟩
  exact ⟨by omega,hv⟩
 ·rintro ⟨hx,hv⟩
  exact ⟨x.toNat,⟨by omega,by rw [Int.toNat_of_nonneg hx.1]; exact hv⟩,Int.toNat_of_nonneg hx.1⟩
theorem keys_sorted (V:Int→Option SeV):(keysL V).Pairwise (fun a b=>a < b):=by
 unfold keysL
 rw [List.pairwise_map]
 exact (List.Pairwise.filter _ List.pairwise_lt_range).imp (fun h=>by omega)
theorem keys_len (V:Int→Option SeV):(keysL V).length≤64:=by
 unfold keysL
 rw [List.length_map]
 exact Nat.le_trans (List.length_filter_le _ _) (by simp)
theorem keys_sort {lo mb M:Nat} {D:Fam} {w:World} (h:FO lo mb M D w) {D0:DataW Value} (hown:w.ownsMap Tryz.prog 3 rv mb M D0) (hat:∀ x,(Lit.int .i64 x).wf=true→∀ z,D0.atKey (.int .i64 x) z=match ptrs D x with | some v=>.held v | none=>z) {ss:List Int} (hp:ss.Perm (Go.intKeys D0)):ss.mergeSort (fun x y=>decide (x≤y))=keysL (vals D):=by
 obtain ⟨es,hD,hpw,_⟩:=hown.entries (Go.Maps.int_keyed (q:=.i64) (by kernel_rfl))
 obtain ⟨es',hD',hko⟩:=hown.keysOf
 obtain rfl:es=es':=by rw [hD] at hD'; simpa using hD'
 have hko2:∀ p∈es,∃ x,p.1=.int .i64 x∧(Lit.int .i64 x).wf=true:=fun p hp=>by
  obtain ⟨v,hv⟩:=hko p hp
  obtain ⟨x,_,hx,hw⟩:=Go.Maps.keyOf_i64 (by kernel_rfl) hv
  exact ⟨x,hx,hw⟩
 have hperm:(keysL (vals D)).Perm (Go.intKeys D0):=by
  rw [hD]
  refine Go.perm_intKeys hpw (fun p hp=>by obtain ⟨x,hx,_⟩:=hko2 p hp; exact ⟨x,hx⟩) ((keys_sorted _).imp (fun h=>by omega)) (fun x=>?_)
  rw [← hD]
  constructor
  ·intro hx
   obtain ⟨hr,hv⟩:=keys_mem.1 hx
   rw [map_has (P:=Tryz.prog) (w:=w) (n:=M) (wf_small hr) hat]
   unfold ptrs; unfold vals at hv
   cases hd:D x with
   | none=>rw [hd] at hv; cases hv
   | some d=>rfl
  ·intro hx
   have hw:(Lit.int .i64 x).wf=true:=by
    have hx2:=hx
    rw [hD,Go.Maps.has_eq,List.any_eq_true] at hx2
    obtain ⟨p,hp,hs⟩:=hx2
    obtain ⟨y,hy,hw⟩:=hko2 p hp
    rw [hy] at hs
    have:x=y:=by
     have hs2:(Lit.int .i64 x)=.int .i64 y∨(Lit.int .i64 y)=.int .i64 x:=by
      simp [Lit.sameKey] at hs
      first | (left; rw [hs])|(right; rw [hs])
     rcases hs2 with e | e
     ·exact (Lit.int.inj e).2
     ·exact (Lit.int.inj e).2.symm
    rw [this]; exact hw
   rw [map_has (P:=Tryz.prog) (w:=w) (n:=M) hw hat] at hx
   unfold ptrs at hx
   cases hd:D x with
   | none=>rw [hd] at hx; cases hx
   | some d=>exact keys_mem.2 ⟨(h.at_ x d hd).1,by unfold vals; rw [hd]; rfl⟩
 rw [Go.mergeSort_of_perm_i (hp.trans hperm.symm)]
 exact List.mergeSort_of_pairwise ((keys_sorted _).imp (fun h=>decide_eq_true (Int.le_of_lt h)))
def ceO (g:Nat) (t:TypeId) (cells:Array Value) (rw:Bool):Asr:=⟨[g],rw,fun w=>Blk w g t cells,fun u hd h=>u.blk h (hd g (List.mem_singleton.2 rfl)),fun h x hx=>by rw [List.mem_singleton] at hx; subst hx; exact h.lt⟩
theorem sortsA (m:Nat):Go.Proofs.AnyZI.SortsIn Tryz.prog Tryz.sortedA_ren Fence.wide m :=
  ⟨fun blk off cap ss W hH hblk hsz=>callsIn_wide.2 (Go.Proofs.AnyM.slices_Sort_int Tryz.sortA blk off cap ss W hH hblk hsz),
   fun p cap W=>callsIn_wide.2 (Go.Proofs.AnyM.slices_Sort_int_none Tryz.sortA p cap W)⟩
theorem keysC (mb:Nat) (w:World):Calls Tryz.prog 57 #[.map (some mb)] w fun e w'=>∃ g:Nat,e=.returned (.func (.func 83) #[] #[.pointer (some ⟨g,0,none⟩)])∧Blk w' g (Tryz.keysA_ren.t 23) #[.map (some mb)]∧Since w w'∧w.heap.size≤g :=
 ((callsIn_wide (n:=5)).1 (Go.Proofs.AnyZI.keys_in Tryz.keysA Fence.wide 5 trivial rfl (some mb) w)).mono (by
  rintro e w' ⟨rfl,rfl⟩
  exact ⟨_,rfl,Blk.new _ _ _,(Since.refl w).alloc _,Nat.le_refl _⟩)
theorem sortC {lo mb M g:Nat} {D:Fam} (w:World) (h:FO lo mb M D w) (hg:Blk w g (Tryz.keysA_ren.t 23) #[.map (some mb)]) (hM:M≤1000000):Calls Tryz.prog 56 #[.func (.func 83) #[] #[.pointer (some ⟨g,0,none⟩)]] w fun e w'=>∃ A c,e=.returned (.slice A (keysL (vals D)).length c)∧intE.At w.heap.size A (keysL (vals D)).length c (keysL (vals D)) w'∧Since w w':=by
 obtain ⟨D0,hown,hIs,hat⟩:=h.mp
 have hmax:Maps.size D0≤M:=hown.size_le
 have hseq:SeqGives Fence.wide 2 Tryz.prog 83 #[.pointer (some ⟨g,0,none⟩)] Go.encZ (fun ss=>ss.Perm (Go.intKeys D0)) (Maps.size D0) w :=
  Go.Proofs.AnyZI.keys_gives (ρ:=Tryz.keysA_ren) { Tryz.keysA with } Fence.wide _ trivial rfl (by omega) g mb M D0 w hg.lt (by rw [Blk.cell hg]; rfl) hown
 have cS:=Go.Proofs.AnyZI.sorted_in Tryz.sortedA Fence.wide 5 trivial trivial trivial trivial rfl (by omega) (sortsA _) (enters_of Tryz.func82 (by kernel_rfl) rfl) 83 #[.pointer (some ⟨g,0,none⟩)] trivial (enters_of Tryz.func83 (by kernel_rfl) rfl) _ _ (by unfold maxLen; omega) (by omega) _ hseq
 change CallsIn _ _ Tryz.prog 56 _ _ _ at cS
 refine ((callsIn_wide (n:=5)).1 cS).mono ?_
 rintro e w' ⟨v,ss,rfl,hp,hrow,hnil,hb⟩
 have hs:=keys_sort h hown hat hp
 have hl:ss.length=(keysL (vals D)).length:=by rw [← hs,List.length_mergeSort]
 have hr:rowsOf intE.c (keysL (vals D))=(keysL (vals D)).map Go.encZ:=by
  generalize keysL (vals D)=ns
  induction ns with
  | nil=>rfl
  | cons z r ih=>show (intE.c z)++rowsOf intE.c r=_; rw [ih]; rfl
 have hrow:w'.ownsRow w.heap.size 3 1 v (keysL (vals D)).length (rowsOf intE.c (keysL (vals D))):=by rw [hr,← hs,List.length_mergeSort]; exact hrow
 have hv:∃ A c,v=.slice A (keysL (vals D)).length c:=by
  rcases hrow.2 with ⟨hv,hn⟩ | ⟨g,c,cur,hv,_⟩
  ·exact ⟨none,0,by rw [hv,hn]⟩
  ·exact ⟨_,_,hv⟩
 obtain ⟨A,c,rfl⟩:=hv
 exact ⟨A,c,rfl,hrow,hb⟩
attribute [local irreducible] Go.Calls
open Co (KV Nr NrA toN Hold.ob)
theorem sessionsT {lo gq M:Nat} {c:CfgV} {x:Gp} {ep:Int} {K:KV} {Sk:List Nat} {D:Fam} {w:World} (hb:Blk w gq 96 (gwA c x ep)) (h:KG lo x.q x.p x.mb M K Sk D w) (hg:gq∉kgF x.mb Sk D) (hM:M≤1000000) :
  Calls Tryz.prog 31 #[.pointer (some ⟨gq,0,none⟩)] w fun e w'=>∃ A' c',e=.returned (.slice A' (keysL (vals D)).length c')∧intE.At w.heap.size A' (keysL (vals D)).length c' (keysL (vals D)) w'∧Since w w':=by
 refine entH tab_ok (hold_gr hb h hg) [.p 0 0] Tryz.func31 Tryz.ntmps31 rfl rfl ?_
 repeat' (first | refine gs_ ?_|((conv=>whnf); first | intro b | refine callN (f:=57) (ι:=Nat) (fun g=>.f 83 [.v (.pointer (some ⟨g,0,none⟩))]) (fun g=>ceO g (Tryz.keysA_ren.t 23) #[.map (some x.mb)] true) (fun w1 hH=>(keysC x.mb w1).mono (by rintro e w' ⟨g,rfl,h1,h2,h3⟩; exact ⟨g,rfl,h1,h2,by intro k hk; rw [List.mem_singleton.1 hk]; exact h3⟩)) (fun g=>?_)|refine callN (f:=56) (ι:=NrA w.heap.size) (fun y=>.v (.slice y.1.2.1 (keysL (vals D)).length y.1.2.2)) (fun y=>rwO intE y.1.1 y.1.2.1 (keysL (vals D)).length y.1.2.2 (keysL (vals D)) true) (fun w1 hH=>toN (sortC w1 (Hold.ob hH (A:=kgO lo x.q x.p x.mb M K Sk D false) 0 rfl).f (Hold.ob hH (A:=ceO g (Tryz.keysA_ren.t 23) #[.map (some x.mb)] true) 1 rfl) hM) hH.upd.size) (fun y=>?_)|refine fin fun w' hH=>⟨_,_,rfl,own_base (Hold.ob hH (A:=rwO intE y.1.1 y.1.2.1 (keysL (vals D)).length y.1.2.2 (keysL (vals D)) true) 2 rfl) y.2,hH.upd.since⟩|refine fin_s ?_))
end Gw
namespace Gw
open Go.RowKit Ba Mem En Go.Proofs.YtepfmfalebmcnaaGreatDoor.Ty Mp
open Ri (MsgV)
open Qu (intE)
open Mg (PktV mayB bytesOf pktC)
open Ln (LkV LO PkV pkC pollK pollB pollP deadB)
open Co (KV Pt KW KT Nr NrA evE EvV goneK tickK tickE tickW Hold.ob toN)
open Gr (waitsO tickP)
set_option maxRecDepth 100000
abbrev pkS (p:PkV):List SV:=[.i .i64 p.se,.i .i64 p.ep,.i .i64 p.sq,.i .i64 p.ak,.b p.ha,.i .i64 p.m.ki,.i .i64 p.m.a,.i .i64 p.m.b,.i .i64 p.m.c]
def toP (p:PkV):PktV:=⟨p.se,p.ep,p.sq,p.ak,p.ha,p.m.ki,p.m.a,p.m.b,p.m.c⟩
def pollS (v:SeV) (now:Int):SeV:=⟨pollK v.k v.ls.length now,v.ls,v.h,v.hd⟩
theorem frameP {lo:Nat} {os:List OutD} {w:World} (h:DatAt lo os w) (hlo:lo≤w.heap.size) (i:Int) (p:PkV):Calls Tryz.prog 97 #[.agg #[.int .i64 p.se,.int .i64 p.ep,.int .i64 p.sq,.int .i64 p.ak,.bool p.ha,.int .i64 p.m.ki,.int .i64 p.m.a,.int .i64 p.m.b,.int .i64 p.m.c]] w fun e w'=>∃ x:Option Addr×Nat,e=.returned (.slice x.1 (frV (toP p)).length x.2)∧DatAt lo (os++[⟨i,x.1,x.2,frV (toP p)⟩]) w'∧Upd (datF os) w w'∧∀ g∈datF (os++[⟨i,x.1,x.2,frV (toP p)⟩]),g∈datF os∨w.heap.size≤g:=frameO h hlo i (toP p)
abbrev Ko:=Kv×List (Int×List Int)
def tickS (x:Ko) (i:Int):Ko:=match x.1.2 i with
 | none=>x
 | some v=>if deadB v.k v.ls.length x.1.1.G.now=true then (endV x.1 i,x.2) else ((x.1.1,setV x.1.2 i (some (pollS v x.1.1.G.now))),if pollB v.k v.ls.length x.1.1.G.now=true then x.2++[(i,frV (toP (pollP v.k v.ls x.1.1.G.now)))] else x.2)
def tickL (x:Ko) (ks:List Int):Ko:=ks.foldl tickS x
def tickG (x:Kv):Ko:=tickL (tellF (tickK x.1,x.2) (tickE x.1),[]) (keysL (tellF (tickK x.1,x.2) (tickE x.1)).2)
theorem tickS_far (x:Ko) {i j:Int} (h:j≠i):(tickS x i).1.2 j=x.1.2 j:=by
 unfold tickS
 cases x.1.2 i with
 | none=>rfl
 | some v =>
  simp only []
  split
  ·simp [endV,setV,h]
  ·simp [setV,h]
theorem tickL_far:∀ (ks:List Int) (x:Ko) {j:Int},j∉ks→(tickL x ks).1.2 j=x.1.2 j
 | [],x,j,_=>rfl
 | k::r,x,j,h=>by
  simp only [List.mem_cons,not_or] at h
  show (tickL (tickS x k) r).1.2 j=_
  rw [tickL_far r _ h.2,tickS_far x h.1]
theorem tickL_next {x:Ko} {ks:List Int} {k:Nat} {i:Int} (h:ks[k]?=some i):tickL x (ks.take (k+1))=tickS (tickL x (ks.take k)) i:=by
 obtain ⟨hk,rfl⟩:=List.getElem?_eq_some_iff.1 h
 unfold tickL
 rw [List.take_succ_eq_append_getElem hk,List.foldl_append]; rfl
theorem poll_st (k:LkV) (n:Nat) (now:Int):(pollK k n now).st=k.st∨(pollK k n now).st=k.st+1:=by
 unfold pollK
 split
 ·exact .inr rfl
 ·split
  ·exact .inl rfl
  ·exact .inl rfl
theorem TI.tickS {T:Int} {x:Ko} (h:TI T x.1) (i:Int):TI (T+1) (tickS x i).1:=by
 unfold Gw.tickS
 cases hv:x.1.2 i with
 | none=>exact h.more (by omega)
 | some v =>
  simp only []
  split
  ·exact (h.more (by omega)).end_ i
  ·have h1:=h.s i v hv
   have h2:=h.t i v hv
   have h3:=poll_st v.k v.ls.length x.1.1.G.now
   exact (h.more (by omega)).set i _ h1 (by show 0≤(pollK _ _ _).st∧(pollK _ _ _).st≤_; omega)
theorem TI.tickL {T:Int}:∀ (ks:List Int) {x:Ko},TI T x.1→TI (T+ks.length) (tickL x ks).1
 | [],x,h=>h.more (by simp)
 | k::r,x,h=>by
  have:=TI.tickL (T:=T+1) r (h.tickS k)
  exact this.more (by simp; omega)
theorem tickS_len (x:Ko) (i:Int):(tickS x i).2.length≤x.2.length+1:=by
 unfold tickS
 cases x.1.2 i with
 | none=>simp
 | some v =>
  simp only []
  split
  ·simp
  ·split
   ·simp
   ·simp
theorem tickL_len:∀ (ks:List Int) (x:Ko),(tickL x ks).2.length≤x.2.length+ks.length
 | [],x=>by simp [tickL]
 | k::r,x=>by
  have h1:=tickL_len r (tickS x k)
  have h2:=tickS_len x k
  show (tickL (tickS x k) r).2.length≤_
  simp only [List.length_cons]; omega
def outsV (os:List OutD):List (Int×List Int):=os.map fun o=>(o.s,o.zs)
theorem nodup_take {ks:List Int} {k:Nat} {i:Int} (hs:ks.Pairwise (fun a b=>a < b)) (h:ks[k]?=some i):i∉ks.take k:=fun hm=>by
 obtain ⟨hk,rfl⟩:=List.getElem?_eq_some_iff.1 h
 obtain ⟨j,hj,he⟩:=List.mem_iff_getElem.1 hm
 rw [List.getElem_take] at he
 rw [List.length_take] at hj
 have:=List.pairwise_iff_getElem.1 hs j k (by omega) hk (by omega)
 omega
attribute [local irreducible] Go.Calls
abbrev NrQ (n0 n:Nat):={y:Nr // n0≤y.1∧(0 < n→∃ g,y.2.1=some ⟨g,0,none⟩)}
theorem toNQ {P:Program} {F:FuncId} {args:Array Value} {w1:World} {n0 n:Nat} {α:Type} {E:Ek α} {ls:List α} (h:Calls P F args w1 fun e w'=>∃ A' c',e=.returned (.slice A' n c')∧E.At w1.heap.size A' n c' ls w'∧Since w1 w') (h0:n0≤w1.heap.size) :
  Calls P F args w1 fun e w'=>∃ x:NrQ n0 n,e=.returned (.slice x.1.2.1 n x.1.2.2)∧(rwO E x.1.1 x.1.2.1 n x.1.2.2 ls true).st w'∧Since w1 w'∧∀ g∈blkOf x.1.2.1,w1.heap.size≤g:=h.mono (by
 rintro e w' ⟨A,c,rfl,h1,h2⟩
 exact ⟨⟨(w1.heap.size,A,c),h0,fun hn=>own_addr h1 hn⟩,rfl,h1,h2,Ek.lows h1⟩)
section
variable {lo gq M:Nat} {c:CfgV} {x:Gp} {ep i:Int} {K:KV} {Sk:List Nat} {D:Fam} {w:World}
theorem KG.tick {q mb:Nat} {p:Pt} (h:KG lo q p mb M K Sk D w) (H:KT K) :
  Calls Tryz.prog 91 #[.pointer (some ⟨q,0,none⟩)] w fun e w'=>∃ x:List Nat×Nr×Nr,e=.returned (.tuple #[.slice x.2.1.2.1 (tickE K).length x.2.1.2.2,.slice x.2.2.2.1 (tickP K.G).2.2.length x.2.2.2.2])∧KG lo q p mb M (tickK K) x.1 D w'∧(rwO evE x.2.1.1 x.2.1.2.1 (tickE K).length x.2.1.2.2 (tickE K) true).st w'∧(waitsO x.2.2.1 x.2.2.2.1 (tickP K.G).2.2.length x.2.2.2.2 (tickP K.G).2.2 true).st w'∧Upd (kgF mb Sk D) w w'∧(∀ g∈kgF mb x.1 D,g∈kgF mb Sk D∨w.heap.size≤g)∧(∀ g∈blkOf x.2.1.2.1,w.heap.size≤g∧g∉kgF mb x.1 D)∧(∀ g∈blkOf x.2.2.2.1,w.heap.size≤g∧g∉kgF mb x.1 D)∧∀ g∈blkOf x.2.1.2.1,g∉blkOf x.2.2.2.1:=by
 refine (tickW h.k H).mono ?_
 rintro e w' ⟨x,rfl,h1,o1,o2,h2,h3,h4,h5,h6⟩
 have far:∀ g,w.heap.size≤g→g∉x.1→g∉kgF mb x.1 D:=fun g hg hn hm=>by
  rcases List.mem_append.1 hm with hm | hm
  ·exact hn hm
  ·have:=h.f.lt g hm; omega
 refine ⟨x,rfl,⟨h1,h.f.upd h2 (fun g hg hgS=>h.far g hgS hg),fun g hg hgm=>?_⟩,o1,o2,h2.mono (fun g hg _=>List.mem_append.2 (.inl hg)),fun g hg=>?_,fun g hg=>⟨(h4 g hg).1,far g (h4 g hg).1 (h4 g hg).2⟩,fun g hg=>⟨(h5 g hg).1,far g (h5 g hg).1 (h5 g hg).2⟩,h6⟩
 ·rcases h3 g hg with hg | hg
  ·exact h.far g hg hgm
  ·have:=h.f.lt g hgm; omega
 ·rcases List.mem_append.1 hg with hg | hg
  ·exact (h3 g hg).imp (fun hg=>List.mem_append.2 (.inl hg)) id
  ·exact .inl (List.mem_append.2 (.inr hg))
set_option maxHeartbeats 4000000 in
theorem tickT {T:Int} {sk sa sb:Int} {dA:Option Addr} {dn dc:Nat} (hb:Blk w gq 96 (gwA c x ep)) (h:KG lo x.q x.p x.mb M K Sk D w) (hg:gq∉kgF x.mb Sk D) (hM:M≤1000000) (H:KT K) (hev:∀ e∈tickE K,0≤e.s∧e.s < 64) (hel:(tickE K).length≤100000) (ht:TI T (tickK K,vals D)) (hT:0≤T∧T≤1000000) :
  Calls Tryz.prog 71 #[.pointer (some ⟨gq,0,none⟩),.agg #[.int .i64 sk,.int .i64 sa,.int .i64 sb,.slice dA dn dc]] w fun e w'=>∃ y:List Nat×Fam×Option Addr×Nat×List OutD,e=.returned (.tuple #[.slice y.2.2.1 y.2.2.2.2.length y.2.2.2.1,.int .i64 0])∧KG lo x.q x.p x.mb M (tickG (K,vals D)).1.1 y.1 y.2.1 w'∧vals y.2.1=(tickG (K,vals D)).1.2∧outsV y.2.2.2.2=(tickG (K,vals D)).2∧outE.At w.heap.size y.2.2.1 y.2.2.2.2.length y.2.2.2.1 y.2.2.2.2 w'∧DatAt w.heap.size y.2.2.2.2 w'∧Upd (kgF x.mb Sk D) w w'∧(∀ g∈kgF x.mb y.1 y.2.1,g∈kgF x.mb Sk D∨w.heap.size≤g)∧(∀ g∈blkOf y.2.2.1++datF y.2.2.2.2,g∉kgF x.mb y.1 y.2.1):=by
 refine entH tab_ok (Hold.addObj (Hold.addObj (hold_g hb h hg) (rwO outE w.heap.size none 0 0 [] true) (Ek.nil _ _ _) (by intro _ g hg; cases hg) (by intro r _ _ hg; cases hg) (by intro A hA _ g hg hg2; cases hg2)) (daO w.heap.size [] true) (by intro o ho; cases ho) (by intro _ g hg; cases hg) (by intro r _ _ hg; cases hg) (by intro A hA _ g hg hg2; cases hg2)) [.p 0 0,.a [.i .i64 sk,.i .i64 sa,.i .i64 sb,.v (.slice dA dn dc)]] Tryz.func71 Tryz.ntmps71 rfl rfl ?_
 repeat' (first | refine gs_ ?_|((conv=>whnf); first | intro b | refine b3_ (fun h=>?_) (fun h=>?_)|refine callO2N (f:=91) (A:=kgO lo x.q x.p x.mb M K Sk D true) 0 (fun y:List Nat×Nr×Nr=>.t [.v (.slice y.2.1.2.1 (tickE K).length y.2.1.2.2),.v (.slice y.2.2.2.1 (tickP K.G).2.2.length y.2.2.2.2)]) (fun y=>kgO lo x.q x.p x.mb M (tickK K) y.1 D true) (fun y=>rwO evE y.2.1.1 y.2.1.2.1 (tickE K).length y.2.1.2.2 (tickE K) true) (fun y=>waitsO y.2.2.1 y.2.2.2.1 (tickP K.G).2.2.length y.2.2.2.2 (tickP K.G).2.2 true) (fun w hH hA=>KG.tick hA H) (fun y=>?_)|refine callO (f:=92) (A:=kgO lo x.q x.p x.mb M (tickK K) y.1 D true) 0 (fun z:{z:List Nat×Fam // vals z.2=(tellF (tickK K,vals D) (tickE K)).2}=>.t []) (fun z=>kgO lo x.q x.p x.mb M (tellF (tickK K,vals D) (tickE K)).1 z.1.1 z.1.2 true) (fun w hH hA=>(tellT (hH.row 0 _ rfl rfl) hA (hH.far _ (List.mem_of_getElem? (i:=0) rfl) 0 _ rfl rfl) (Hold.ob hH (A:=rwO evE y.2.1.1 y.2.1.2.1 (tickE K).length y.2.1.2.2 (tickE K) true) 3 rfl) rfl (fun g hg hg2=>(pair_at (R:=DisR) (fun _ _ h=>h.symm) hH.dis (i:=0) (j:=3) rfl rfl (by decide) (.inl rfl)) g hg2 hg) (hH.far _ (List.mem_of_getElem? (i:=3) rfl) 0 _ rfl rfl) hev ht hel).mono (by rintro e w' ⟨z,rfl,h1,h2,h3,h4⟩; exact ⟨⟨z,h2⟩,rfl,h1,h3,h4⟩)) (fun z=>?_)|refine callN (f:=31) (ι:=NrQ w.heap.size (keysL (vals z.1.2)).length) (fun u=>.v (.slice u.1.2.1 (keysL (vals z.1.2)).length u.1.2.2)) (fun u=>rwO intE u.1.1 u.1.2.1 (keysL (vals z.1.2)).length u.1.2.2 (keysL (vals z.1.2)) true) (fun w1 hH=>toNQ (sessionsT (hH.row 0 _ rfl rfl) (Hold.ob hH (A:=kgO lo x.q x.p x.mb M (tellF (tickK K,vals D) (tickE K)).1 z.1.1 z.1.2 true) 0 rfl) (hH.far _ (List.mem_of_getElem? (i:=0) rfl) 0 _ rfl rfl) hM) hH.upd.size) (fun u=>?_)|refine fin_s ?_))
 conv=>whnf
 obtain ⟨⟨lu,Au,cu⟩,hu0,hua⟩:=u
 have hks:=keys_sorted (vals z.1.2)
 have hkl0:=keys_len (vals z.1.2)
 refine lp ⟨tab_ok⟩ (ι:={v:Nat×KV×List Nat×Fam×(Option Addr×Nat)×List OutD // v.1≤(keysL (vals z.1.2)).length∧tickL (((tellF (tickK K,vals D) (tickE K)).1,vals z.1.2),[]) ((keysL (vals z.1.2)).take v.1)=((v.2.1,vals v.2.2.2.1),outsV v.2.2.2.2.2)}) (fun v=>match v with | ⟨(k,K2,S2,D2,(A2,c2),os),_⟩=>⟨[(0,.p 0 0),(8,.v (.slice A2 os.length c2)),(26,.v (.slice Au (keysL (vals z.1.2)).length cu)),(27,.i .i64 (keysL (vals z.1.2)).length),(28,.i .i64 (k:Int))],[⟨gq,96,true,0,[],gwS c x ep,[],false⟩],[kgO lo x.q x.p x.mb M K2 S2 D2 true,rwO outE w.heap.size A2 os.length c2 os true,daO w.heap.size os true,rwO evE y.2.1.1 y.2.1.2.1 (tickE K).length y.2.1.2.2 (tickE K) true,waitsO y.2.2.1 y.2.2.2.1 (tickP K.G).2.2.length y.2.2.2.2 (tickP K.G).2.2 true,rwO intE lu Au (keysL (vals z.1.2)).length cu (keysL (vals z.1.2)) true]⟩) (fun v=>(keysL (vals z.1.2)).length - v.1.1) ⟨(0,(tellF (tickK K,vals D) (tickE K)).1,z.1.1,z.1.2,(none,0),[]),Nat.zero_le _,rfl⟩ (wk ?_) ?_
 ·repeat' (first | exact trivial | rfl | ((conv=>whnf); refine And.intro ?_ ?_))
 rintro ⟨⟨k,K2,S2,D2,⟨A2,c2⟩,os⟩,hk,hj⟩
 have hk:k≤(keysL (vals z.1.2)).length:=hk
 have hj:tickL (((tellF (tickK K,vals D) (tickE K)).1,vals z.1.2),[]) ((keysL (vals z.1.2)).take k)=((K2,vals D2),outsV os):=hj
 have hti0:TI T ((tellF (tickK K,vals D) (tickE K)).1,vals z.1.2):=by rw [z.2]; exact ht.tell _
 have hti:TI (T+64) (K2,vals D2):=by
  have:=TI.tickL ((keysL (vals z.1.2)).take k) (x:=(((tellF (tickK K,vals D) (tickE K)).1,vals z.1.2),[])) hti0
  rw [hj] at this
  have hkl:=keys_len (vals z.1.2)
  exact this.more (by rw [List.length_take]; omega)
 have hol:os.length≤64:=by
  have:=tickL_len ((keysL (vals z.1.2)).take k) (((tellF (tickK K,vals D) (tickE K)).1,vals z.1.2),[])
  rw [hj] at this
  rw [List.length_take] at this
  simp [outsV] at this; omega
 by_cases hlt:k < (keysL (vals z.1.2)).length
 ·obtain ⟨i,hi⟩:∃ i,(keysL (vals z.1.2))[k]?=some i:=⟨_,List.getElem?_eq_getElem (by omega)⟩
  obtain ⟨g0,rfl⟩:∃ g,Au=some ⟨g,0,none⟩:=hua (by omega)
  obtain ⟨hr,hv0⟩:=keys_mem.1 (List.mem_of_getElem? hi)
  have hnx:=tickL_next (x:=(((tellF (tickK K,vals D) (tickE K)).1,vals z.1.2),[])) hi
  rw [hj] at hnx
  obtain ⟨d,hd⟩:∃ d,D2 i=some d:=by
   have:=tickL_far ((keysL (vals z.1.2)).take k) (((tellF (tickK K,vals D) (tickE K)).1,vals z.1.2),[]) (nodup_take hks hi)
   rw [hj] at this
   have this:vals D2 i=vals z.1.2 i:=this
   rw [← this] at hv0
   unfold vals at hv0
   cases hd:D2 i with
   | none=>rw [hd] at hv0; cases hv0
   | some d=>exact ⟨d,rfl⟩
  have hp:ptrs D2 i=some (.pointer (some ⟨d.b,0,none⟩)):=by unfold ptrs; rw [hd]; rfl
  have hvd:vals D2 i=some d.v:=by unfold vals; rw [hd]; rfl
  have hls:=hti.s i d.v hvd
  have hst:=hti.t i d.v hvd
  cases hdb:deadB d.v.k d.v.ls.length K2.G.now with
  | true =>
   have hv:tickS ((K2,vals D2),outsV os) i=((goneK K2 i,vals (setD D2 i none)),outsV os):=by
    unfold tickS; simp only [hvd,hdb,if_true]; rw [vals_set]; rfl
   repeat' (first | refine gq_ ?_|((conv=>whnf); first | intro b | refine drA ⟨tab_ok⟩ [3] ?_|refine bto ?_|refine bfo ?_|refine wr_i ?_|refine And.intro ?_ ?_|refine iv_ ?_|refine opxc (g:=g0) (off:=0+k*1) (.i .i64 i) (fun w hH=>Ek.rng (Hold.ob hH (A:=rwO intE lu (some ⟨g0,0,none⟩) (keysL (vals z.1.2)).length cu (keysL (vals z.1.2)) true) 5 rfl) hi) ⟨tab_ok⟩ (by rfl) (by rfl) (by show Addr.add ⟨g0,0,none⟩ (k*1)=_; rw [Go.WideShapes.add_plain]) ?_|refine oplk (b:=x.mb) (n:=M) (m:=ptrs D2) (k:=3) (e:=100) 0 (.pointer none) (.v (.pointer (some ⟨d.b,0,none⟩))) (by rfl) (by rfl) (by rfl) (by rfl) (fun w h=>kg_mp h) (by kernel_rfl) (by kernel_rfl) (fun w=>rfl) (wf_small hr) (by rw [hp]; rfl) ?_|refine opnv (by rfl) (by rfl) ?_|refine punv (by rfl) (by rfl) ?_|refine fv_ ?_|refine uf_ ?_|refine opxc (g:=d.b) (off:=0+0) (.v (.pointer (some ⟨d.q,0,none⟩))) (fun w hH=>(Hold.ob hH (A:=kgO lo x.q x.p x.mb M K2 S2 D2 true) 0 rfl).f.cell hd) ⟨tab_ok⟩ (by rfl) (by rfl) (by show Addr.add ⟨d.b,0,none⟩ 0=_; rw [Go.WideShapes.add_plain]) ?_|refine callH (f:=94) (.i .i64 K2.G.now) (fun w hH=>nowG (hH.row 0 _ rfl rfl) (Hold.ob hH (A:=kgO lo x.q x.p x.mb M K2 S2 D2 true) 0 rfl) (hH.far _ (List.mem_of_getElem? (i:=0) rfl) 0 _ rfl rfl)) ?_|refine callH (f:=93) (.b _) (fun w hH=>by obtain ⟨A1,c1,B1⟩:=(Hold.ob hH (A:=kgO lo x.q x.p x.mb M K2 S2 D2 true) 0 rfl).f.look hd; have:=Ln.deadT K2.G.now B1; rw [hdb] at this; exact this) ?_|refine callO (f:=95) (A:=kgO lo x.q x.p x.mb M K2 S2 D2 true) 0 (fun _:List Nat=>.t []) (fun S'=>kgO lo x.q x.p x.mb M (goneK K2 i) S' (setD D2 i none) true) (fun w hH hA=>endT (hH.row 0 _ rfl rfl) hA (hH.far _ (List.mem_of_getElem? (i:=0) rfl) 0 _ rfl rfl) hr hti.q hti.l) (fun S'=>?_)|refine En.back ⟨(k+1,goneK K2 i,S',setD D2 i none,(A2,c2),os),by show k+1≤_; omega,hnx.trans hv⟩ (wk ?_) ?_|refine fin_s ?_))
   all_goals first | (show (keysL (vals z.1.2)).length - (k+1) < (keysL (vals z.1.2)).length - k; omega)|skip
   all_goals (repeat' (first | exact trivial | rfl | ((conv=>whnf); refine And.intro ?_ ?_)))
  | false =>
   have hpoll:=fun w S (hL:LO lo d.q d.v.k d.v.ls S w)=>Ln.pollT hL K2.G.now (by omega) (by omega)
   cases hpb:pollB d.v.k d.v.ls.length K2.G.now with
   | false =>
    rw [hpb] at hpoll
    have hv:∀ S',tickS ((K2,vals D2),outsV os) i=((K2,vals (setD D2 i (some ⟨d.b,d.q,S',⟨pollK d.v.k d.v.ls.length K2.G.now,d.v.ls,d.v.h,d.v.hd⟩⟩))),outsV os):=fun S'=>by
     unfold tickS; simp only [hvd,hdb,hpb]; rw [vals_set]; rfl
    repeat' (first | refine gq_ ?_|((conv=>whnf); first | intro b | refine drA ⟨tab_ok⟩ [3] ?_|refine bto ?_|refine bfo ?_|refine wr_i ?_|refine And.intro ?_ ?_|refine iv_ ?_|refine opxc (g:=g0) (off:=0+k*1) (.i .i64 i) (fun w hH=>Ek.rng (Hold.ob hH (A:=rwO intE lu (some ⟨g0,0,none⟩) (keysL (vals z.1.2)).length cu (keysL (vals z.1.2)) true) 5 rfl) hi) ⟨tab_ok⟩ (by rfl) (by rfl) (by show Addr.add ⟨g0,0,none⟩ (k*1)=_; rw [Go.WideShapes.add_plain]) ?_|refine oplk (b:=x.mb) (n:=M) (m:=ptrs D2) (k:=3) (e:=100) 0 (.pointer none) (.v (.pointer (some ⟨d.b,0,none⟩))) (by rfl) (by rfl) (by rfl) (by rfl) (fun w h=>kg_mp h) (by kernel_rfl) (by kernel_rfl) (fun w=>rfl) (wf_small hr) (by rw [hp]; rfl) ?_|refine opnv (by rfl) (by rfl) ?_|refine punv (by rfl) (by rfl) ?_|refine fv_ ?_|refine uf_ ?_|refine opxc (g:=d.b) (off:=0+0) (.v (.pointer (some ⟨d.q,0,none⟩))) (fun w hH=>(Hold.ob hH (A:=kgO lo x.q x.p x.mb M K2 S2 D2 true) 0 rfl).f.cell hd) ⟨tab_ok⟩ (by rfl) (by rfl) (by show Addr.add ⟨d.b,0,none⟩ 0=_; rw [Go.WideShapes.add_plain]) ?_|refine callH (f:=94) (.i .i64 K2.G.now) (fun w hH=>nowG (hH.row 0 _ rfl rfl) (Hold.ob hH (A:=kgO lo x.q x.p x.mb M K2 S2 D2 true) 0 rfl) (hH.far _ (List.mem_of_getElem? (i:=0) rfl) 0 _ rfl rfl)) ?_|refine callH (f:=93) (.b _) (fun w hH=>by obtain ⟨A1,c1,B1⟩:=(Hold.ob hH (A:=kgO lo x.q x.p x.mb M K2 S2 D2 true) 0 rfl).f.look hd; have:=Ln.deadT K2.G.now B1; rw [hdb] at this; exact this) ?_|refine callO (f:=96) (A:=kgO lo x.q x.p x.mb M K2 S2 D2 true) 0 (fun _:List Nat=>.t [.a (pkS (pollP d.v.k d.v.ls K2.G.now)),.b _]) (fun S'=>kgO lo x.q x.p x.mb M K2 S2 (setD D2 i (some ⟨d.b,d.q,S',⟨pollK d.v.k d.v.ls.length K2.G.now,d.v.ls,d.v.h,d.v.hd⟩⟩)) true) (fun w hH hA=>KG.link hA hd (fun hL=>hpoll w _ hL)) (fun S'=>?_)|refine En.back ⟨(k+1,K2,S2,setD D2 i (some ⟨d.b,d.q,S',⟨pollK d.v.k d.v.ls.length K2.G.now,d.v.ls,d.v.h,d.v.hd⟩⟩),(A2,c2),os),by show k+1≤_; omega,hnx.trans (hv S')⟩ (wk ?_) ?_|refine fin_s ?_))
    all_goals first | (show (keysL (vals z.1.2)).length - (k+1) < (keysL (vals z.1.2)).length - k; omega)|skip
    all_goals (repeat' (first | exact trivial | rfl | ((conv=>whnf); refine And.intro ?_ ?_)))
   | true =>
    rw [hpb] at hpoll
    have hv:∀ S' (q:Option Addr×Nat),tickS ((K2,vals D2),outsV os) i=((K2,vals (setD D2 i (some ⟨d.b,d.q,S',⟨pollK d.v.k d.v.ls.length K2.G.now,d.v.ls,d.v.h,d.v.hd⟩⟩))),outsV (os++[(⟨i,q.1,q.2,frV (toP (pollP d.v.k d.v.ls K2.G.now))⟩:OutD)])):=fun S' q=>by
     unfold tickS; simp only [hvd,hdb,hpb]; rw [vals_set]; simp [outsV]; rfl
    repeat' (first | refine gq_ ?_|((conv=>whnf); first | intro b | refine drA ⟨tab_ok⟩ [3] ?_|refine bto ?_|refine bfo ?_|refine wr_i ?_|refine And.intro ?_ ?_|refine iv_ ?_|refine opxc (g:=g0) (off:=0+k*1) (.i .i64 i) (fun w hH=>Ek.rng (Hold.ob hH (A:=rwO intE lu (some ⟨g0,0,none⟩) (keysL (vals z.1.2)).length cu (keysL (vals z.1.2)) true) 5 rfl) hi) ⟨tab_ok⟩ (by rfl) (by rfl) (by show Addr.add ⟨g0,0,none⟩ (k*1)=_; rw [Go.WideShapes.add_plain]) ?_|refine oplk (b:=x.mb) (n:=M) (m:=ptrs D2) (k:=3) (e:=100) 0 (.pointer none) (.v (.pointer (some ⟨d.b,0,none⟩))) (by rfl) (by rfl) (by rfl) (by rfl) (fun w h=>kg_mp h) (by kernel_rfl) (by kernel_rfl) (fun w=>rfl) (wf_small hr) (by rw [hp]; rfl) ?_|refine opnv (by rfl) (by rfl) ?_|refine punv (by rfl) (by rfl) ?_|refine fv_ ?_|refine uf_ ?_|refine opxc (g:=d.b) (off:=0+0) (.v (.pointer (some ⟨d.q,0,none⟩))) (fun w hH=>(Hold.ob hH (A:=kgO lo x.q x.p x.mb M K2 S2 D2 true) 0 rfl).f.cell hd) ⟨tab_ok⟩ (by rfl) (by rfl) (by show Addr.add ⟨d.b,0,none⟩ 0=_; rw [Go.WideShapes.add_plain]) ?_|refine callH (f:=94) (.i .i64 K2.G.now) (fun w hH=>nowG (hH.row 0 _ rfl rfl) (Hold.ob hH (A:=kgO lo x.q x.p x.mb M K2 S2 D2 true) 0 rfl) (hH.far _ (List.mem_of_getElem? (i:=0) rfl) 0 _ rfl rfl)) ?_|refine callH (f:=93) (.b _) (fun w hH=>by obtain ⟨A1,c1,B1⟩:=(Hold.ob hH (A:=kgO lo x.q x.p x.mb M K2 S2 D2 true) 0 rfl).f.look hd; have:=Ln.deadT K2.G.now B1; rw [hdb] at this; exact this) ?_|refine callO (f:=96) (A:=kgO lo x.q x.p x.mb M K2 S2 D2 true) 0 (fun _:List Nat=>.t [.a (pkS (pollP d.v.k d.v.ls K2.G.now)),.b _]) (fun S'=>kgO lo x.q x.p x.mb M K2 S2 (setD D2 i (some ⟨d.b,d.q,S',⟨pollK d.v.k d.v.ls.length K2.G.now,d.v.ls,d.v.h,d.v.hd⟩⟩)) true) (fun w hH hA=>KG.link hA hd (fun hL=>hpoll w _ hL)) (fun S'=>?_)|refine callO (f:=97) (A:=daO w.heap.size os true) 2 (fun q:Option Addr×Nat=>.v (.slice q.1 (frV (toP (pollP d.v.k d.v.ls K2.G.now))).length q.2)) (fun q=>daO w.heap.size (os++[(⟨i,q.1,q.2,frV (toP (pollP d.v.k d.v.ls K2.G.now))⟩:OutD)]) true) (fun w1 hH hA=>frameP hA hH.upd.size i (pollP d.v.k d.v.ls K2.G.now)) (fun q=>?_)|refine opb1 (e:=64) ⟨tab_ok⟩ [.i .i64 i,.v (.slice q.1 (frV (toP (pollP d.v.k d.v.ls K2.G.now))).length q.2)] (by rfl) (by rfl) ?_|refine opap 1 2 (e:=64) (lo:=w.heap.size) (size:=2) (bytes:=32) (z:=.agg #[.int .i64 0,.slice none 0 0]) (A:=rwO outE w.heap.size A2 os.length c2 os true) (vals:=rowsOf outE.c os) (cells:=outE.c (⟨i,q.1,q.2,frV (toP (pollP d.v.k d.v.ls K2.G.now))⟩:OutD)) (zs:=rowsOf outE.c (os++[(⟨i,q.1,q.2,frV (toP (pollP d.v.k d.v.ls K2.G.now))⟩:OutD)])) (n2:=(os++[(⟨i,q.1,q.2,frV (toP (pollP d.v.k d.v.ls K2.G.now))⟩:OutD)]).length) (fun A' c'=>rwO outE w.heap.size A' (os++[(⟨i,q.1,q.2,frV (toP (pollP d.v.k d.v.ls K2.G.now))⟩:OutD)]).length c' (os++[(⟨i,q.1,q.2,frV (toP (pollP d.v.k d.v.ls K2.G.now))⟩:OutD)]) true) (by rfl) (by rfl) (by rfl) (by rfl) rfl rfl (fun w h=>h) (fun A' c' w h=>h) (fun _ _=>rfl) (by rfl) (by rfl) (by rfl) (by rfl) Tryz.underlying40 (by kernel_rfl) rfl (by decide) (by decide) (outE.one _) (by omega) (fun w hH=>hH.upd.size) (by simp) (by rw [rowsOf_append,rowsOf_one]) (fun A' c'=>?_)|refine En.back ⟨(k+1,K2,S2,setD D2 i (some ⟨d.b,d.q,S',⟨pollK d.v.k d.v.ls.length K2.G.now,d.v.ls,d.v.h,d.v.hd⟩⟩),(A',c'),os++[(⟨i,q.1,q.2,frV (toP (pollP d.v.k d.v.ls K2.G.now))⟩:OutD)]),by show k+1≤_; omega,hnx.trans (hv S' q)⟩ (wk ?_) ?_|refine fin_s ?_))
    all_goals first | (show (keysL (vals z.1.2)).length - (k+1) < (keysL (vals z.1.2)).length - k; omega)|skip
    all_goals (repeat' (first | exact trivial | rfl | ((conv=>whnf); refine And.intro ?_ ?_)))
 ·obtain rfl:k=(keysL (vals z.1.2)).length:=by omega
  repeat' (first | refine gs_ ?_|((conv=>whnf); first | intro b | refine bto ?_|refine bfo ?_|refine wr_i ?_|refine fin fun w' hH=>?_|refine fin_s ?_))
  have hfull:(keysL (vals z.1.2)).take (keysL (vals z.1.2)).length=keysL (vals z.1.2):=List.take_length
  rw [hfull] at hj
  have hz:tickG (K,vals D)=((K2,vals D2),outsV os):=by
   have e:tellF (tickK K,vals D) (tickE K)=((tellF (tickK K,vals D) (tickE K)).1,vals z.1.2):=by rw [z.2]
   unfold tickG
   show tickL (tellF (tickK K,vals D) (tickE K),[]) (keysL (tellF (tickK K,vals D) (tickE K)).2)=_
   rw [← z.2,← hj]
   exact congrArg (fun q=>tickL (q,[]) (keysL (vals z.1.2))) e
  rw [hz]
  have d01:DisR (kgO lo x.q x.p x.mb M K2 S2 D2 true) (rwO outE w.heap.size A2 os.length c2 os true):=pair_at (R:=DisR) (fun _ _ h=>h.symm) hH.dis (i:=0) (j:=1) rfl rfl (by decide)
  have d02:DisR (kgO lo x.q x.p x.mb M K2 S2 D2 true) (daO w.heap.size os true):=pair_at (R:=DisR) (fun _ _ h=>h.symm) hH.dis (i:=0) (j:=2) rfl rfl (by decide)
  exact ⟨(S2,D2,A2,c2,os),rfl,Hold.ob hH (A:=kgO lo x.q x.p x.mb M K2 S2 D2 true) 0 rfl,rfl,rfl,Hold.ob hH (A:=rwO outE w.heap.size A2 os.length c2 os true) 1 rfl,Hold.ob hH (A:=daO w.heap.size os true) 2 rfl,hH.upd,fun g hg=>hH.own _ (List.mem_of_getElem? (i:=0) rfl) rfl g hg,fun g hg hgk=>by
   rcases List.mem_append.1 hg with hg | hg
   ·exact d01 (.inl rfl) g hgk hg
   ·exact d02 (.inl rfl) g hgk hg⟩
end
end Gw
namespace Lc
open Go.RowKit Ba Mem En Go.Proofs.YtepfmfalebmcnaaGreatDoor.Ty Mo Go.Proofs.YtepfmfalebmcnaaGreatDoor.St Co
open Ri (MsgV tickV hearV)
open Qu (dropL atS btw firstA atF)
open Le (hasL ofL setL setE endL zeroL atP isS isT isP)
open Gr (loadR)
def key (l:LeaseV):Int×Int×Int:=(l.se,l.ca,l.fl)
def KR (a b:Int×Int×Int):Prop:=a.1≠b.1∧a.2.1≠b.2.1
structure UQ (K:KV):Prop where
  l:(K.L.map key).Pairwise KR
  q:(K.Q.map AskV.se).Pairwise (·≠·)
theorem find_none {α:Type} {p:α→Bool} {ls:List α} (h:(ls.findIdx? p).isSome=false):∀ x∈ls,p x=false:=by
 intro x hx
 have:ls.findIdx? p=none:=by simpa using h
 exact List.findIdx?_eq_none_iff.1 this x hx
theorem erase_filter {α:Type} (f:α→Int) (s:Int):∀ ls:List α,(ls.map f).Pairwise (·≠·)→(match ls.findIdx? (fun a=>f a == s) with | some k=>ls.eraseIdx k | none=>ls)=ls.filter (fun a=>f a != s)
  | [],_=>rfl
  | a::r,h=>by
    rw [List.map_cons,List.pairwise_cons] at h
    have ih:=erase_filter f s r h.2
    rw [List.findIdx?_cons]
    cases e:(f a == s) with
    | true =>
      have e1:f a=s:=by simpa using e
      have hr:r.filter (fun a=>f a != s)=r:=List.filter_eq_self.2 fun b hb=>by
        have:=h.1 (f b) (List.mem_map.2 ⟨b,hb,rfl⟩)
        simp only [bne_iff_ne,ne_eq]
        omega
      rw [List.filter_cons_of_neg (by simp [e1]),hr]; rfl
    | false =>
      rw [List.filter_cons_of_pos (by have : ¬ f a = s := by simpa using e
                                      simpa using this)]
      cases e2:r.findIdx? (fun a=>f a == s) with
      | none=>rw [e2] at ih; simp only [] at ih; rw [← ih]; rfl
      | some k=>rw [e2] at ih; simp only [] at ih; rw [← ih]; rfl
theorem key_se {ls:List LeaseV} (h:(ls.map key).Pairwise KR):(ls.map LeaseV.se).Pairwise (·≠·):=by
  rw [List.pairwise_map] at h ⊢
  exact h.imp fun h=>h.1
theorem end_filter {ls:List LeaseV} (h:(ls.map key).Pairwise KR) (s:Int):endL ls s=ls.filter (fun l=>l.se != s):=erase_filter LeaseV.se s ls (key_se h)
theorem drop_filter {ls:List AskV} (h:(ls.map AskV.se).Pairwise (·≠·)) (s:Int):dropL ls s=ls.filter (fun l=>l.se != s):=erase_filter AskV.se s ls h
theorem end_no {ls:List LeaseV} {s:Int} (h:¬ hasL ls s=true):endL ls s=ls:=by
 unfold endL; unfold hasL at h
 cases e:atP ls (isS s) with
 | none=>rfl
 | some k=>rw [e] at h; exact absurd rfl h
theorem set_key (c:CfgV) (ls:List LeaseV) (x:LeaseV):(setL c ls x).map key=ls.map key:=by
 unfold setL; split
 ·split
  ·rename_i k hk
   obtain ⟨hl,h1,_⟩:=Le.atP_some hk
   have h2:=h1 hl
   unfold isT at h2
   simp only [Bool.and_eq_true,beq_iff_eq] at h2
   apply List.ext_getElem
   ·simp
   ·intro i _ h4
    have h4:i < ls.length:=by simpa using h4
    rw [List.getElem_map,List.getElem_map,List.getElem_set]
    split
    ·rename_i e; subst e
     unfold key; rw [h2.1.1,h2.1.2,h2.2]
    ·rfl
  ·rfl
 ·rfl
section
variable {K:KV}
theorem UQ.new (c:CfgV):UQ (newK c):=⟨by simp [newK],by simp [newK]⟩
theorem UQ.ans (h:UQ K) (a:AskV):UQ (ansK K a):=by
  refine ⟨h.l, ?_⟩
  unfold ansK ansQ
  show ((if _ then _ else _:List AskV).map AskV.se).Pairwise (·≠·)
  split
  · split
    · exact h.q
    · unfold Qu.putL; split
      · rename_i he
        unfold Qu.putE at he
        split at he
        · cases he
        · rename_i hn
          rw [List.map_append,List.pairwise_append]
          refine ⟨h.q,by simp,fun x hx y hy=>?_⟩
          obtain ⟨b,hb,rfl⟩:=List.mem_map.1 hx
          have:=find_none (p:=Qu.isS a.se) (ls:=K.Q) (by simpa [atS] using hn) b hb
          have hy:y=a.se:=by simpa using hy
          subst hy
          simpa [Qu.isS] using this
      · exact h.q
  · exact h.q
theorem UQ.end_ (h:UQ K) (s:Int):UQ (endK K s):=by
 unfold Co.endK; split
 ·exact ⟨h.l.sublist ((end_sub _ _).map _),h.q⟩
 ·exact h
theorem UQ.set (h:UQ K) (l:LeaseV) (o:Bool):UQ (setK K l o):=by
 unfold setK; split
 ·exact h.end_ _
 ·exact ⟨by show ((setL _ _ _).map key).Pairwise KR; rw [set_key]; exact h.l,h.q⟩
theorem UQ.hear (h:UQ K) (s:Int) (x:MsgV):UQ (hearK K s x):=by
 unfold hearK; split
 ·exact h.set _ _
 ·exact h
theorem UQ.gone (h:UQ K) (s:Int):UQ (goneK K s) :=
 ⟨(h.end_ s).l,h.q.sublist ((drop_sub _ _).map _)⟩
theorem UQ.grp (h:UQ K) (G:Gr.GrV):UQ { K with G:=G }:=⟨h.l,h.q⟩
theorem UQ.fold (h:UQ K) (k:Nat):UQ (foldK K k).1:=by
 have key:∀ (ls:List LeaseV) (x:KV×List EvV),UQ x.1→UQ (ls.foldl stepK x).1:=by
  intro ls
  induction ls with
  | nil=>intro x h; exact h
  | cons l r ih=>intro x h; rw [List.foldl_cons]; exact ih _ (h.set _ _)
 exact key _ _ (h.grp _)
theorem UQ.grant (h:UQ K):UQ (grantK K):=by
 unfold grantK; split
 ·exact h
 ·rename_i a ha
  refine ⟨?_,h.q.sublist ((drop_sub _ _).map _)⟩
  show ((Le.putL _ _ _).map key).Pairwise KR
  unfold Le.putL; split
  ·rename_i he
   unfold Le.putE at he
   split at he
   ·split at he
    ·cases he
    ·rename_i hn
     rw [List.map_append,List.pairwise_append]
     refine ⟨h.l,by simp,fun x hx y hy=>?_⟩
     obtain ⟨b,hb,rfl⟩:=List.mem_map.1 hx
     have hy:y=Lc.key (grL K a):=by simpa using hy
     subst hy
     have:=find_none (p:=isP (grL K a)) (ls:=K.L) (by simpa [atP] using hn) b hb
     unfold isP at this
     simp only [Bool.or_eq_false_iff,beq_eq_false_iff_ne] at this
     exact this
   ·cases he
  ·exact h.l
theorem UQ.tick (h:UQ K):UQ (tickK K):=(h.fold _).grant
theorem UQ.obS {x:KV×List EvV} (h:UQ x.1) (l:LeaseV):UQ (obStep x l).1:=by
 unfold obStep; split
 ·exact (h.grp _).hear _ _
 ·split
  ·exact (h.grp _).hear _ _
  ·exact h
theorem UQ.ob (h:UQ K) (k:Nat):UQ (obF K k).1:=by
 have key:∀ (ls:List LeaseV) (x:KV×List EvV),UQ x.1→UQ (ls.foldl obStep x).1:=by
  intro ls
  induction ls with
  | nil=>intro x h; exact h
  | cons l r ih=>intro x h; rw [List.foldl_cons]; exact ih _ (UQ.obS h l)
 exact key _ _ h
theorem UQ.do_ (h:UQ K) (o:KopV):UQ (doK K o):=by
 unfold doK
 split
 ·exact h.ans _
 split
 ·exact h.hear _ _
 split
 ·exact h.gone _
 split
 ·exact UQ.ob h _
 ·exact h.grp _
end
end Lc
namespace Lc
open Go.RowKit Ba Mem En Go.Proofs.YtepfmfalebmcnaaGreatDoor.Ty Mo Go.Proofs.YtepfmfalebmcnaaGreatDoor.St Co
open Ri (MsgV tickV hearV trV sp rn mayRe)
open Qu (dropL atS btw firstA atF)
open Le (hasL ofL setL setE endL zeroL atP isS isT isP goodB)
open Tm (cl)
open Gr (loadR)
def bp (c:CfgV) (ph:Int):Int:=if ph=1 then trV c else if ph=2 then trV c+sp c.ho else if ph=3 then 2*trV c+sp c.ho else 2*trV c+2*sp c.ho
structure Bn (c:CfgV) (l:LeaseV):Prop where
 re:0≤l.re∧l.re≤rn c.re
 un:l.un≤l.gr+bp c l.ph+sp c.ho*l.re
 gd:goodB c l=true
 gr:0≤l.gr∧l.gr≤1000000
structure LI (c:CfgV) (now:Int) (l:LeaseV):Prop extends Bn c l where
 lt:now < l.un
theorem good_ph {c:CfgV} {l:LeaseV} (h:goodB c l=true):1≤l.ph∧l.ph≤4:=by
 unfold goodB at h
 simp only [Bool.and_eq_true,decide_eq_true_eq] at h
 exact ⟨h.1.2,h.2⟩
theorem good_of {c:CfgV} {l x:LeaseV} (h:goodB c l=true) (h1:x.se=l.se∧x.fl=l.fl∧x.fm=l.fm∧x.to=l.to∧x.ma=l.ma∧x.ca=l.ca) (h2:1≤x.ph∧x.ph≤4):goodB c x=true:=by
 unfold goodB Le.askOf at h ⊢
 obtain ⟨e1,e2,e3,e4,e5,e6⟩:=h1
 rw [e1,e2,e3,e4,e5,e6]
 simp only [Bool.and_eq_true,decide_eq_true_eq] at h ⊢
 exact ⟨⟨h.1.1,h2.1⟩,h2.2⟩
theorem cl_lt {a b:Int} (h:¬ cl a≤cl b) (hb:0≤b∧b≤1000000):b < a:=by
 unfold cl at h; (repeat' split at h) <;> omega
theorem cl_add {a b:Int} (ha:0≤a∧a≤1000000) (hb:0≤b∧b≤10000):cl (cl a+cl b)=a+b:=by
 rw [Tm.cl_id a (by omega) (by omega),Tm.cl_id b (by omega) (by omega),Tm.cl_id _ (by omega) (by omega)]
section
variable {c:CfgV} {l:LeaseV} {now:Int}
theorem rn_hi (n:Int):rn n≤1000:=by unfold rn; repeat' split <;> omega
theorem Bn.tick (h:Bn c l) (hn:0≤now∧now≤1000000) (x:CarV) (ho:(tickV c l x now).2.2=false):LI c now (tickV c l x now).1:=by
 have hs:=Ri.sp_lo c.ho
 have hs2:=Ri.sp_hi c.ho
 have hp:=good_ph h.gd
 have hr:=h.re
 have hu:=h.un
 have ha:=cl_add hn (b:=sp c.ho) (by omega)
 unfold tickV at ho ⊢
 split at ho
 ·cases ho
 rename_i hl
 rw [if_neg hl]
 have hlt:now < l.un:=cl_lt (fun h=>hl (.inr h)) hn
 split
 ·rename_i h1
  refine ⟨⟨hr, ?_,good_of h.gd ⟨rfl,rfl,rfl,rfl,rfl,rfl⟩ (by show 1≤(2:Int)∧(2:Int)≤4; decide),h.gr⟩,by show now < cl _; rw [ha]; omega⟩
  show cl _≤l.gr+bp c 2+sp c.ho*l.re
  rw [ha]; rw [h1.1] at hu
  have e1:bp c 1=trV c:=rfl
  have e2:bp c 2=trV c+sp c.ho:=rfl
  omega
 ·split
  ·rename_i h1
   refine ⟨⟨hr, ?_,good_of h.gd ⟨rfl,rfl,rfl,rfl,rfl,rfl⟩ (by show 1≤(4:Int)∧(4:Int)≤4; decide),h.gr⟩,by show now < cl _; rw [ha]; omega⟩
   show cl _≤l.gr+bp c 4+sp c.ho*l.re
   rw [ha]; rw [h1.1] at hu
   have e1:bp c 3=2*trV c+sp c.ho:=rfl
   have e2:bp c 4=2*trV c+2*sp c.ho:=rfl
   omega
  ·exact ⟨⟨hr,hu,good_of h.gd ⟨rfl,rfl,rfl,rfl,rfl,rfl⟩ hp,h.gr⟩,hlt⟩
theorem LI.hear (h:LI c now l) (hn:0≤now∧now≤1000000) (x:CarV) (m:MsgV):LI c now (hearV c l x now m).1:=by
 have hs:=Ri.sp_lo c.ho
 have hs2:=Ri.sp_hi c.ho
 have ht:=Ri.tr_lo c
 have ht2:=Ri.tr_hi c
 have hp:=good_ph h.gd
 have hr:=h.re
 have hu:=h.un
 have hlt:=h.lt
 have ha:=cl_add hn (b:=sp c.ho) (by omega)
 have hb:=cl_add hn (b:=trV c) (by omega)
 have same:LI c now ⟨l.se,l.fl,l.fm,l.to,l.ma,l.ca,l.ph,l.un,l.re,l.gr⟩:=h
 unfold hearV
 split
 ·rename_i h1
  split
  ·refine ⟨⟨hr, ?_,good_of h.gd ⟨rfl,rfl,rfl,rfl,rfl,rfl⟩ (by show 1≤(3:Int)∧(3:Int)≤4; decide),h.gr⟩,by show now < cl _; rw [hb]; omega⟩
   show cl _≤l.gr+bp c 3+sp c.ho*l.re
   rw [hb]; rw [h1.2] at hu
   have e1:bp c 2=trV c+sp c.ho:=rfl
   have e2:bp c 3=2*trV c+sp c.ho:=rfl
   omega
  ·exact same
 ·split
  ·exact same
  ·split
   ·rename_i h1
    have hm:=h1.2
    unfold mayRe at hm
    simp only [Bool.and_eq_true,decide_eq_true_eq] at hm
    have hx:=rn_hi c.re
    have hw:IntKind.i64.wrap (l.re+1)=l.re+1:=Gr.wrG _ (by omega) (by omega)
    refine ⟨⟨?_, ?_,good_of h.gd ⟨rfl,rfl,rfl,rfl,rfl,rfl⟩ hp,h.gr⟩,by show now < cl _; rw [ha]; omega⟩
    ·show 0≤IntKind.i64.wrap (l.re+1)∧IntKind.i64.wrap (l.re+1)≤_
     rw [hw]; omega
    ·show cl _≤l.gr+bp c l.ph+sp c.ho*IntKind.i64.wrap (l.re+1)
     rw [hw,ha,Int.mul_add,Int.mul_one]; omega
   ·exact same
theorem set_all {ls:List LeaseV} {x:LeaseV} (hU:(ls.map key).Pairwise KR) (hg:goodB c x=true):∀ y∈setL c ls x,y=x∨(y∈ls∧key y≠key x):=by
 intro y hy
 unfold setL at hy
 rw [if_pos hg] at hy
 split at hy
 ·rename_i k hat
  obtain ⟨hl,h1,_⟩:=Le.atP_some hat
  have h2:=h1 hl
  unfold isT at h2
  simp only [Bool.and_eq_true,beq_iff_eq] at h2
  obtain ⟨i,hi,rfl⟩:=List.getElem_of_mem hy
  rw [List.getElem_set]
  split
  ·exact .inl rfl
  ·rename_i hne
   have hi:i < ls.length:=by simpa using hi
   refine .inr ⟨List.getElem_mem hi,fun e=>?_⟩
   have e:(ls[i]).se=x.se:=congrArg Prod.fst e
   rw [List.pairwise_map,List.pairwise_iff_getElem] at hU
   rw [← h2.1.1] at e
   rcases Nat.lt_or_gt_of_ne hne with h | h
   ·exact (hU k i hl hi h).1 e.symm
   ·exact (hU i k hi hl h).1 e
 ·rename_i hat
  refine .inr ⟨hy,fun e=>?_⟩
  have:=List.findIdx?_eq_none_iff.1 hat y hy
  have e1:y.se=x.se:=congrArg Prod.fst e
  have e2:y.ca=x.ca:=congrArg (fun z=>z.2.1) e
  have e3:y.fl=x.fl:=congrArg (fun z=>z.2.2) e
  simp [isT,e1,e2,e3] at this
theorem tickV_key (x:CarV):key (tickV c l x now).1=key l:=by
 unfold tickV; (repeat' split) <;> rfl
theorem hearV_key (x:CarV) (m:MsgV):key (hearV c l x now m).1=key l:=by
 unfold hearV; (repeat' split) <;> rfl
end
section
variable {K:KV}
theorem end_now (K:KV) (s:Int):(Co.endK K s).G.now=K.G.now:=by unfold Co.endK; split; exact (Gr.give_w _).2; rfl
theorem set_now (K:KV) (l:LeaseV) (o:Bool):(setK K l o).G.now=K.G.now:=by
 unfold setK; split
 ·exact end_now _ _
 ·exact (Gr.aim_w _ _ _).2
theorem end_ne (h:UQ K) (s:Int):∀ y∈(Co.endK K s).L,y∈K.L∧y.se≠s:=by
 intro y hy
 unfold Co.endK at hy
 split at hy
 ·change y∈endL K.L s at hy
  rw [end_filter h.l] at hy
  have:=List.mem_filter.1 hy
  exact ⟨this.1,by simpa using this.2⟩
 ·rename_i hn
  refine ⟨hy,fun e=>?_⟩
  have:=find_none (p:=isS s) (ls:=K.L) (by simpa [hasL,atP] using hn) y hy
  simp [isS,e] at this
def EI (c:CfgV) (K:KV):Prop:=∀ l∈K.L,LI c K.G.now l
section
variable {c:CfgV} {n T m:Nat}
theorem EI.sub {K':KV} (h:EI c K) (hn:K'.G.now=K.G.now) (hs:∀ y∈K'.L,y∈K.L):EI c K':=fun l hl=>by rw [hn]; exact h l (hs l hl)
theorem EI.set (hc:K.G.c=c) (hU:UQ K) (h:EI c K) {l:LeaseV} (hl:LI c K.G.now l) (o:Bool):EI c (setK K l o):=by
 intro y hy
 rw [set_now]
 unfold setK at hy
 split at hy
 ·exact h y (end_ne hU _ y hy).1
 ·change y∈setL K.G.c K.L l at hy
  rw [hc] at hy
  rcases set_all hU.l hl.gd y hy with rfl | hy
  ·exact hl
  ·exact h y hy.1
theorem EI.hear (hc:K.G.c=c) (hU:UQ K) (hn:0≤K.G.now∧K.G.now≤1000000) (h:EI c K) (s:Int) (x:MsgV):EI c (hearK K s x):=by
 unfold hearK; split
 ·rename_i hL
  refine EI.set hc hU h ?_ _
  unfold hearR
  rw [hc]
  exact (h _ (has_mem hL).1).hear hn _ _
 ·exact h
theorem EI.fold {now:Int} (hn:0≤now∧now≤1000000):∀ (rest:List LeaseV) (x:KV×List EvV),x.1.G.now=now→x.1.G.c=c→UQ x.1→(∀ y∈rest,Bn c y)→(∀ y∈x.1.L,y∈rest∨LI c now y)→∀ y∈(rest.foldl stepK x).1.L,LI c now y
 | [],x,_,_,_,_,h=>fun y hy=>(h y hy).resolve_left (by simp)
 | l::r,x,h1,h2,h3,h4,h5=>by
  rw [List.foldl_cons]
  have hs:(stepK x l).1=setK x.1 (stepR x.1 l).1 (stepR x.1 l).2.2:=rfl
  refine EI.fold hn r (stepK x l) (by rw [hs,set_now]; exact h1) (by rw [hs,setK_c]; exact h2) (by rw [hs]; exact h3.set _ _) (fun y hy=>h4 y (List.mem_cons_of_mem _ hy)) ?_
  intro y hy
  rw [hs] at hy
  have hk:key (stepR x.1 l).1=key l:=by unfold stepR; exact tickV_key _
  cases ho:(stepR x.1 l).2.2 with
  | true =>
   rw [ho] at hy
   unfold setK at hy
   rw [if_pos rfl] at hy
   obtain ⟨hy1,hy2⟩:=end_ne h3 _ y hy
   rcases h5 y hy1 with h | h
   ·rcases List.mem_cons.1 h with rfl | h
    ·exact absurd (congrArg Prod.fst hk).symm hy2
    ·exact .inl h
   ·exact .inr h
  | false =>
   have hl:LI c now (stepR x.1 l).1:=by
    unfold stepR at ho ⊢
    rw [h1,h2] at ho ⊢
    exact (h4 l (List.mem_cons_self ..)).tick hn _ ho
   rw [ho] at hy
   unfold setK at hy
   rw [if_neg (by decide)] at hy
   change y∈setL x.1.G.c x.1.L _ at hy
   rw [h2] at hy
   rcases set_all h3.l hl.gd y hy with rfl | ⟨hy1,hy2⟩
   ·exact .inr hl
   ·rcases h5 y hy1 with h | h
    ·rcases List.mem_cons.1 h with rfl | h
     ·exact absurd hk.symm hy2
     ·exact .inl h
    ·exact .inr h
theorem EI.grant (hc:K.G.c=c) (hn:0≤K.G.now∧K.G.now≤1000000) (h:EI c K):EI c (grantK K):=by
 unfold grantK; split
 ·exact h
 ·rename_i a ha
  intro y hy
  have hnow:(grK K a).G.now=K.G.now:=(Gr.take_w _ _).2
  rw [hnow]
  change y∈Le.putL _ _ _ at hy
  unfold Le.putL at hy
  split at hy
  ·rename_i he
   rcases List.mem_append.1 hy with hy | hy
   ·exact h y hy
   ·rw [List.mem_singleton] at hy
    subst hy
    have ht:=Ri.tr_lo c
    have ht2:=Ri.tr_hi c
    have e:=cl_add hn (b:=trV c) (by omega)
    have hg:goodB c (grL K a)=true:=by
     unfold Le.putE at he
     split at he
     ·rename_i hg; rw [hc] at hg; exact hg
     ·cases he
    have hun:(grL K a).un=K.G.now+trV c:=by show cl (cl K.G.now+cl (trV K.G.c))=_; rw [hc,e]
    refine ⟨⟨?_, ?_,hg,hn⟩,by rw [hun]; omega⟩
    ·show (0:Int)≤0∧0≤rn c.re
     unfold rn; (repeat' split) <;> omega
    ·rw [hun]
     show K.G.now+trV c≤K.G.now+trV c+sp c.ho*0
     omega
  ·exact h y hy
end
end
structure PI (c:CfgV) (n T:Nat) (K:KV):Prop where
 k:KI c n T T K
 u:UQ K
 e:EI c K
 t:K.G.now≤T
section
variable {c:CfgV} {n T:Nat} {K:KV}
theorem PI.new (c:CfgV):PI c 0 0 (newK c):=⟨KI.new c,UQ.new c,(fun l hl=>by cases hl),(by show (0:Int)≤0; omega)⟩
theorem PI.more {n' T':Nat} (h:PI c n T K) (h1:n≤n') (h2:T≤T'):PI c n' T' K:=⟨h.k.more h1 h2 h2,h.u,h.e,by have:=h.t; omega⟩
theorem hear_now (K:KV) (s:Int) (x:MsgV):(hearK K s x).G.now=K.G.now:=by unfold hearK; split; exact set_now _ _ _; rfl
theorem obS_pi {x:KV×List EvV} (hT:T≤1000000) (h:PI c n T x.1) (l:LeaseV):PI c n T (obStep x l).1:=by
 have ld:∀ v,PI c n T (ldK x.1 l v):=fun v=>⟨KI.ld h.k l v,h.u.grp _,EI.sub h.e (Gr.load_w _ _).2 (fun _ hy=>hy),by show (loadR x.1.G l.ca v).1.now≤T; rw [(Gr.load_w _ _).2]; exact h.t⟩
 have hr:∀ v m,PI c n T (hearK (ldK x.1 l v) l.se m):=fun v m=>⟨(ld v).k.hear _ _,(ld v).u.hear _ _,EI.hear (ld v).k.g.1 (ld v).u ⟨(ld v).k.now.1,by have:=(ld v).t; omega⟩ (ld v).e _ _,by rw [hear_now]; exact (ld v).t⟩
 unfold obStep; split
 ·exact hr _ _
 ·split
  ·exact hr _ _
  ·exact h
theorem PI.ob (hT:T≤1000000) (h:PI c n T K) (k:Nat):PI c n T (obF K k).1:=by
 have key:∀ (ls:List LeaseV) (x:KV×List EvV),PI c n T x.1→PI c n T (ls.foldl obStep x).1:=by
  intro ls
  induction ls with
  | nil=>intro x h; exact h
  | cons l r ih=>intro x h; rw [List.foldl_cons]; exact ih _ (obS_pi hT h l)
 exact key _ _ h
theorem PI.do_ (h:PI c n T K) (hT:T≤1000000) (o:KopV):PI c (n+1) T (doK K o):=by
 have hk:=KI.do_ h.k o
 have hu:=h.u.do_ o
 have hn:0≤K.G.now∧K.G.now≤1000000:=⟨h.k.now.1,by have:=h.t; omega⟩
 refine ⟨hk,hu, ?_, ?_⟩
 ·unfold doK
  split
  ·exact h.e
  split
  ·exact EI.hear h.k.g.1 h.u hn h.e _ _
  split
  ·exact EI.sub h.e (end_now K o.q.se) (fun y hy=>(end_ne h.u _ y hy).1)
  split
  ·exact (PI.ob hT h _).e
  ·exact EI.sub h.e (gdo_w _ _).1 (fun _ hy=>hy)
 ·unfold doK
  split
  ·exact h.t
  split
  ·rw [hear_now]; exact h.t
  split
  ·show (Co.endK K o.q.se).G.now≤T; rw [end_now]; exact h.t
  split
  ·exact (PI.ob hT h _).t
  ·show (gdo K.G o).now≤T; rw [(gdo_w _ _).1]; exact h.t
theorem fold_now (K:KV) (k:Nat):(foldK K k).1.G.now=(tkK1 K).G.now:=by
 have key:∀ (ls:List LeaseV) (x:KV×List EvV),(ls.foldl stepK x).1.G.now=x.1.G.now:=by
  intro ls
  induction ls with
  | nil=>intro x; rfl
  | cons l r ih=>intro x; rw [List.foldl_cons,ih]; exact set_now _ _ _
 exact key _ _
theorem grant_now (K:KV):(grantK K).G.now=K.G.now:=by unfold grantK; split; rfl; exact (Gr.take_w _ _).2
theorem tk1_now (K:KV) (h:0≤K.G.now∧K.G.now≤1000000):(tkK1 K).G.now=K.G.now+1:=by
 show cl (cl K.G.now+cl 1)=_
 exact cl_add h (by decide)
theorem PI.tick (h:PI c n T K) (hT:T < 1000000):PI c n (T+1) (tickK K):=by
 have hn:0≤K.G.now∧K.G.now≤1000000:=⟨h.k.now.1,by have:=h.t; omega⟩
 have h1:=tk1_now K hn
 have hf:=fold_now K K.L.length
 have hn2:0≤(tkK1 K).G.now∧(tkK1 K).G.now≤1000000:=by rw [h1]; have:=h.t; omega
 refine ⟨h.k.tick,h.u.tick, ?_, ?_⟩
 ·refine EI.grant ((h.k.fold _).g.1) (by rw [hf]; exact hn2) ?_
  intro y hy
  rw [hf]
  have hL:K.L.take K.L.length=K.L:=List.take_length
  unfold foldK at hy
  rw [hL] at hy
  exact EI.fold hn2 K.L (tkK1 K,[]) rfl h.k.g.1 (h.u.grp _) (fun y hy=>(h.e y hy).toBn) (fun y hy=>.inl hy) y hy
 ·show (grantK _).G.now≤_
  rw [grant_now,hf,h1]
  have:=h.t
  omega
end
end Lc
namespace Lc
open Go.RowKit Ba Mem En Go.Proofs.YtepfmfalebmcnaaGreatDoor.Ty Mo Go.Proofs.YtepfmfalebmcnaaGreatDoor.St Co
open Ri (MsgV tickV hearV trV sp rn mayRe opB aimF)
open Qu (dropL atS btw firstA atF)
open Le (hasL ofL setL setE endL zeroL atP isS isT isP goodB)
open Fl (cn)
open Gr (GrV loadR one giveR aimR takeR giveC tickG hasF)
open Ct (tkV)
structure SM (x y:CarV):Prop where
 mo:y.mo=x.mo
 ta:y.ta=x.ta
 ho:y.ho=x.ho
 ds:y.ds=x.ds
 un:y.un=x.un
theorem SM.op {x y:CarV} (h:SM x y) (f:Int):opB y f=opB x f:=by unfold opB; rw [h.ds,h.un]
def SG (G G':GrV):Prop:=G'.cars.length=G.cars.length∧∀ (i:Nat) (x:CarV),G.cars[i]?=some x→∃ y,G'.cars[i]?=some y∧SM x y
theorem SG.refl (G:GrV):SG G G:=⟨rfl,fun i x h=>⟨x,h,rfl,rfl,rfl,rfl,rfl⟩⟩
theorem SG.one {G:GrV} (i:Int) (f:CarV→CarV×Int) (hf:∀ x,SM x (f x).1):SG G (Gr.one G i f).1 :=
 ⟨Gr.one_same.2.2.2,fun k x h=>⟨_,Gr.one_at h,by split; exact hf x; exact ⟨rfl,rfl,rfl,rfl,rfl⟩⟩⟩
theorem gdo_sg (G:GrV) (o:KopV):SG G (gdo G o):=by
 unfold gdo; split
 ·unfold Gr.doR
  split
  ·unfold Gr.hallR; split
   ·split <;> exact ⟨rfl,fun i x h=>⟨x,h,rfl,rfl,rfl,rfl,rfl⟩⟩
   ·exact SG.refl _
  split
  ·unfold Gr.pressR; split
   ·exact SG.one _ _ (fun x=>by show SM x (Gr.pressX _ x); unfold Gr.pressX; split <;> exact ⟨rfl,rfl,rfl,rfl,rfl⟩)
   ·exact SG.refl _
  split
  ·exact SG.one _ _ (fun x=>⟨rfl,rfl,rfl,rfl,rfl⟩)
  split
  ·exact SG.one _ _ (fun x=>⟨rfl,rfl,rfl,rfl,rfl⟩)
  split
  ·unfold Gr.faultR; split
   ·split
    ·have:=SG.one (G:=G) o.a (fun x=>(Gr.fltX x,0)) (fun x=>⟨rfl,rfl,rfl,rfl,rfl⟩)
     exact ⟨this.1,this.2⟩
    ·exact SG.refl _
   ·exact SG.one _ _ (fun x=>⟨rfl,rfl,rfl,rfl,rfl⟩)
  omega
 ·exact SG.refl _
structure HB (rest:List LeaseV) (x:CarV) (l:LeaseV):Prop where
 mo:x.mo=1
 ta:x.ta=aimF l
 ho:x.ho=true
 op:(l∈rest→x.br=false)→(l.ph=2∨l.ph=4)→opB x (aimF l)=true
structure CI (rest:List LeaseV) (K:KV):Prop where
 a:∀ l∈K.L,∃ x,K.G.cars[l.ca.toNat]?=some x∧HB rest x l
 b:∀ (i:Nat) x,K.G.cars[i]?=some x→x.mo=1→∃ l∈K.L,l.ca=(i:Int)
 m:∃ (i:Nat) (x:CarV),K.G.cars[i]?=some x∧x.mo=0
 q:∀ a∈K.Q,∀ l∈K.L,a.se≠l.se
 f:∀ f,(cn K.L f:Int)≤btw K.G.c.qo 1 8
section
variable {K:KV} {rest:List LeaseV} {c:CfgV} {n T m:Nat}
theorem pair_of {α:Type} {R:α→α→Prop} (hs:∀ a b,R a b→R b a):∀ {ls:List α},ls.Pairwise R→∀ a∈ls,∀ b∈ls,a=b∨R a b
 | [],_,a,ha,_,_=>by cases ha
 | x::r,h,a,ha,b,hb=>by
  rw [List.pairwise_cons] at h
  rcases List.mem_cons.1 ha with e1 | e1
  ·rcases List.mem_cons.1 hb with e2 | e2
   ·exact .inl (e1.trans e2.symm)
   ·exact .inr (e1 ▸ h.1 b e2)
  ·rcases List.mem_cons.1 hb with e2 | e2
   ·exact .inr (e2 ▸ hs _ _ (h.1 a e1))
   ·exact pair_of hs h.2 a e1 b e2
theorem UQ.two (h:UQ K) {l y:LeaseV} (hl:l∈K.L) (hy:y∈K.L):l=y∨(l.se≠y.se∧l.ca≠y.ca):=by
 have:=h.l
 rw [List.pairwise_map] at this
 exact pair_of (R:=fun a b=>KR (key a) (key b)) (fun a b h=>⟨fun e=>h.1 e.symm,fun e=>h.2 e.symm⟩) this l hl y hy
theorem CI.new (c:CfgV):CI [] (newK c):=by
 have hz:∀ (i:Nat) x,(newK c).G.cars[i]?=some x→x.mo=0:=fun i x h=>by
  have:=List.eq_of_mem_replicate (show x∈List.replicate (Gr.ncars c) Gr.zeroX from List.mem_of_getElem? h)
  rw [this]; rfl
 have hb:=Gr.ncars_bd c
 refine ⟨fun l hl=>(by cases hl),fun i x h h1=>(by rw [hz i x h] at h1; cases h1), ?_,fun a ha=>(by cases ha),fun f=>?_⟩
 ·obtain ⟨x,hx⟩:∃ x,(newK c).G.cars[0]?=some x:=⟨_,List.getElem?_eq_getElem (by show 0 < (List.replicate (Gr.ncars c) Gr.zeroX).length; rw [List.length_replicate]; omega)⟩
  exact ⟨0,x,hx,hz 0 x hx⟩
 ·show ((0:Nat):Int)≤_
  unfold btw; (repeat' split) <;> omega
theorem CI.grp {G':GrV} (h:CI [] K) (hs:SG K.G G') (hc:G'.c=K.G.c):CI [] { K with G:=G' }:=by
 have back:∀ (i:Nat) y,G'.cars[i]?=some y→∃ x,K.G.cars[i]?=some x∧SM x y:=fun i y hy=>by
  have hi:i < K.G.cars.length:=by rw [← hs.1]; exact (List.getElem?_eq_some_iff.1 hy).1
  obtain ⟨y',h1,h2⟩:=hs.2 i _ (List.getElem?_eq_getElem hi)
  rw [h1] at hy
  exact ⟨_,List.getElem?_eq_getElem hi,Option.some.inj hy ▸ h2⟩
 refine ⟨fun l hl=>?_,fun i y hy hm=>?_, ?_,h.q,fun f=>by show _≤btw G'.c.qo 1 8; rw [hc]; exact h.f f⟩
 ·obtain ⟨x,hx,hb⟩:=h.a l hl
  obtain ⟨y,hy,hm⟩:=hs.2 _ x hx
  exact ⟨y,hy,hm.mo.trans hb.mo,hm.ta.trans hb.ta,hm.ho.trans hb.ho,fun _ hp=>by rw [hm.op]; exact hb.op (fun h=>by cases h) hp⟩
 ·obtain ⟨x,hx,hm2⟩:=back i y hy
  exact h.b i x hx (hm2.mo ▸ hm)
 ·obtain ⟨i,x,hx,h0⟩:=h.m
  obtain ⟨y,hy,hm⟩:=hs.2 i x hx
  exact ⟨i,y,hy,hm.mo.trans h0⟩
theorem cn_sub {ls ls':List LeaseV} (h:ls'.Sublist ls) (f:Int):cn ls' f≤cn ls f:=h.countP_le
theorem CI.end_ (hi:∀ l∈K.L,0≤l.ca) (hU:UQ K) (h:CI rest K) (s:Int) {r:List LeaseV} (hr:∀ y∈K.L,y.se≠s→y∈rest→y∈r):CI r (Co.endK K s):=by
 have ne:=end_ne hU s
 unfold Co.endK at ne ⊢
 split
 ·rename_i hL
  rw [if_pos hL] at ne
  obtain ⟨hm,hse⟩:=has_mem hL
  refine ⟨fun l hl=>?_,fun i y hy hmo=>?_, ?_,fun a ha l hl=>h.q a ha l (ne l hl).1,fun f=>?_⟩
  ·obtain ⟨h1,h2⟩:=ne l hl
   obtain ⟨x,hx,hb⟩:=h.a l h1
   have hne:¬ ((l.ca.toNat:Nat):Int)=(ofL K.L s).ca:=by
    rcases hU.two h1 hm with e | e
    ·exact absurd (e ▸ hse) h2
    ·have:=hi l h1; have:=e.2; omega
   refine ⟨x,by have:=Gr.one_at (i:=(ofL K.L s).ca) (f:=fun x=>(Gr.givX K.G.c x,Gr.aimE x)) hx; rw [if_neg hne] at this; exact this,hb.mo,hb.ta,hb.ho,fun hw hp=>hb.op (fun hin=>hw (hr l h1 h2 hin)) hp⟩
  ·have hlen:(giveR K.G (ofL K.L s).ca).1.cars.length=K.G.cars.length:=Gr.one_same.2.2.2
   have hil:i < K.G.cars.length:=by rw [← hlen]; exact (List.getElem?_eq_some_iff.1 hy).1
   have hx:=List.getElem?_eq_getElem hil
   have hy2:=Gr.one_at (i:=(ofL K.L s).ca) (f:=fun x=>(Gr.givX K.G.c x,Gr.aimE x)) hx
   have hy3:(giveR K.G (ofL K.L s).ca).1.cars[i]?=_:=hy2
   have hy':(giveR K.G (ofL K.L s).ca).1.cars[i]?=some y:=hy
   rw [hy'] at hy3
   have e:=Option.some.inj hy3
   by_cases hic:(i:Int)=(ofL K.L s).ca
   ·rw [if_pos hic] at e
    exfalso
    rw [e] at hmo
    change (Gr.givX K.G.c K.G.cars[i]).mo=1 at hmo
    unfold Gr.givX at hmo
    split at hmo
    ·cases hmo
    ·contradiction
   ·rw [if_neg hic] at e
    obtain ⟨l,hl,hca⟩:=h.b i _ hx (e ▸ hmo)
    refine ⟨l, ?_,hca⟩
    show l∈endL K.L s
    rw [end_filter hU.l]
    refine List.mem_filter.2 ⟨hl, ?_⟩
    have:l.se≠s:=fun e2=>by
     rcases hU.two hl hm with e3 | e3
     ·exact hic (by rw [← hca,e3])
     ·exact e3.1 (e2.trans hse.symm)
    simpa using this
  ·obtain ⟨i,x,hx,h0⟩:=h.m
   refine ⟨i,_,Gr.one_at (i:=(ofL K.L s).ca) (f:=fun x=>(Gr.givX K.G.c x,Gr.aimE x)) hx, ?_⟩
   split
   ·show (Gr.givX K.G.c x).mo=0
    unfold Gr.givX; split
    ·rfl
    ·exact h0
   ·exact h0
  ·show (cn (endL K.L s) f:Int)≤btw (giveR K.G _).1.c.qo 1 8
   rw [give_c]
   have:=cn_sub (end_sub K.L s) f
   have:=h.f f
   omega
 ·rename_i hL
  rw [if_neg hL] at ne
  exact ⟨fun l hl=>by
   obtain ⟨x,hx,hb⟩:=h.a l hl
   exact ⟨x,hx,hb.mo,hb.ta,hb.ho,fun hw hp=>hb.op (fun hin=>hw (hr l hl (ne l hl).2 hin)) hp⟩,h.b,h.m,h.q,h.f⟩
theorem cn_key {ls ls':List LeaseV} (h:ls'.map key=ls.map key) (f:Int):cn ls' f=cn ls f:=by
 have e:∀ zs:List LeaseV,cn zs f=(zs.map key).countP (fun k=>k.2.2 == f):=fun zs=>by
  unfold Fl.cn; rw [List.countP_map]; rfl
 rw [e,e,h]
theorem CI.set (hi:∀ l∈K.L,0≤l.ca) (hU:UQ K) (h:CI rest K) {l0 l:LeaseV} (h0:l0∈K.L) (hk:key l=key l0) (hg:goodB K.G.c l=true) {r:List LeaseV} (hr:∀ y∈K.L,key y≠key l→y∈rest→y∈r)
  (hop:∀ x,K.G.cars[l.ca.toNat]?=some x→HB rest x l0→(l∈r→x.br=false)→(l.ph=2∨l.ph=4)→opB x (aimF l)=true):CI r (setK K l false):=by
 have hca:l.ca=l0.ca:=congrArg (fun z=>z.2.1) hk
 have hfr:hasF K.G.c (aimF l)=true:=by
  have hm:Fl.mayB K.G.c (Le.askOf l)=true:=by unfold goodB at hg; simp only [Bool.and_eq_true] at hg; exact hg.1.1.1.1
  have:=may_fm hm
  unfold hasF aimF
  split
  ·exact decide_eq_true this.1
  ·exact decide_eq_true this.2
 have hat:∀ (k:Nat) x,K.G.cars[k]?=some x→(aimR K.G l.ca (aimF l) true).1.cars[k]?=some (if (k:Int)=l.ca then Gr.aimX (aimF l) true x else x):=fun k x hx=>by
  unfold aimR; rw [if_pos hfr]
  exact Gr.one_at hx
 have hlen:(aimR K.G l.ca (aimF l) true).1.cars.length=K.G.cars.length:=by unfold aimR; rw [if_pos hfr]; exact Gr.one_same.2.2.2
 have ham:∀ x,(Gr.aimX (aimF l) true x).mo=x.mo:=fun x=>by unfold Gr.aimX; split <;> rfl
 unfold setK
 rw [if_neg (by decide)]
 refine ⟨fun y hy=>?_,fun i y hy hmo=>?_, ?_,fun a ha y hy=>?_,fun f=>?_⟩
 ·rcases set_all hU.l hg y hy with rfl | ⟨h1,h2⟩
  ·obtain ⟨x,hx,hb⟩:=h.a l0 h0
   rw [← hca] at hx
   refine ⟨_,hat _ x hx, ?_⟩
   rw [if_pos (by have:=hi l0 h0; omega)]
   have e:Gr.aimX (aimF y) true x={ x with ta:=aimF y,ho:=true }:=by unfold Gr.aimX; rw [if_pos hb.mo]
   rw [e]
   exact ⟨hb.mo,rfl,rfl,fun hw hp=>hop x hx hb hw hp⟩
  ·obtain ⟨x,hx,hb⟩:=h.a y h1
   refine ⟨_,hat _ x hx, ?_⟩
   rw [if_neg (by
    rcases hU.two h1 h0 with e | e
    ·exact absurd (e ▸ hk.symm) h2
    ·have:=hi y h1; have:=e.2; omega)]
   exact ⟨hb.mo,hb.ta,hb.ho,fun hw hp=>hb.op (fun hin=>hw (hr y h1 h2 hin)) hp⟩
 ·have hil:i < K.G.cars.length:=by rw [← hlen]; exact (List.getElem?_eq_some_iff.1 hy).1
  have hx:=List.getElem?_eq_getElem hil
  have hy2:=hat i _ hx
  have hy':(aimR K.G l.ca (aimF l) true).1.cars[i]?=some y:=hy
  rw [hy'] at hy2
  have e:=Option.some.inj hy2
  have hm:(K.G.cars[i]).mo=1:=by
   rw [e] at hmo
   split at hmo
   ·rw [ham] at hmo; exact hmo
   ·exact hmo
  obtain ⟨z,hz,hzc⟩:=h.b i _ hx hm
  have:key z∈(setL K.G.c K.L l).map key:=by rw [set_key]; exact List.mem_map.2 ⟨z,hz,rfl⟩
  obtain ⟨z2,hz2,hk2⟩:=List.mem_map.1 this
  exact ⟨z2,hz2,by have:z2.ca=z.ca:=congrArg (fun z=>z.2.1) hk2; rw [this]; exact hzc⟩
 ·obtain ⟨i,x,hx,hm0⟩:=h.m
  refine ⟨i,_,hat i x hx, ?_⟩
  split
  ·rw [ham]; exact hm0
  ·exact hm0
 ·have:key y∈(setL K.G.c K.L l).map key:=List.mem_map.2 ⟨y,hy,rfl⟩
  rw [set_key] at this
  obtain ⟨z,hz,hkz⟩:=List.mem_map.1 this
  have e:z.se=y.se:=congrArg Prod.fst hkz
  rw [← e]; exact h.q a ha z hz
 ·show (cn (setL K.G.c K.L l) f:Int)≤btw (aimR K.G _ _ _).1.c.qo 1 8
  rw [aim_c,cn_key (set_key _ _ _)]
  exact h.f f
end
end Lc
end Go.Proofs.YtepfmfalebmcnaaGreatDoor
