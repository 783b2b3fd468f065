/-
  Wanted: part 15.
  No condition.
-/
import Derived.Test.YtepfmfalebmcnaaGreatDoorQH14
import Derived.Test.YtepfmfalebmcnaaGreatDoorRows
import Derived.Test.YtepfmfalebmcnaaGreatDoorQH0
import Derived.Test.YtepfmfalebmcnaaGreatDoorQH12
import Derived.Deep.Slices
import Derived.ChangeSlices
import Derived.SizedLaws
import Derived.Test.YtepfmfalebmcnaaGreatDoorQH11
import Derived.Shelf.Strings.Builder1
import Derived.Shelf.Strings.BuilderF
import Derived.Shelf.Strings.BuilderK
import Derived.Shelf.Strconv.Itoa3
import Derived.Test.YtepfmfalebmcnaaGreatDoorProg
set_option linter.all false
namespace Go.Proofs.YtepfmfalebmcnaaGreatDoor
namespace Gw
open Go.RowKit Ba Mem En Go.Proofs.YtepfmfalebmcnaaGreatDoor.Ty Mp Tm
open Ri (MsgV)
open Mg (PktV pktC getV)
open Fm (nextF frames frm)
open Fq (SO NX)
open Byt (BV isB)
open Co (KV Pt KW Nr evE EvV evs inC Hold.ob)
set_option maxRecDepth 100000
theorem bv_up {T:List Nat} {w w':World} {A:Option Addr} {n:Nat} {zs:List Int} (u:Upd T w w') (h:BV w A n zs) (hd:∀ g∈rdF A n,g∉T):BV w' A n zs:=by
 obtain ⟨h1,h2,h3,h4⟩:=h
 refine ⟨h1,h2,h3, ?_⟩
 rcases h4 with h4 | ⟨b,off,rfl,hb,hc⟩
 ·exact .inl h4
 ·cases n with
  | zero=>exact .inl rfl
  | succ n=>exact .inr ⟨b,off,rfl,Nat.lt_of_lt_of_le hb u.size,fun j hj=>upd_cell u hb (hd b (by simp [rdF,blkOf])) (hc j hj)⟩
theorem bv_lt {w:World} {A:Option Addr} {n:Nat} {zs:List Int} (h:BV w A n zs):∀ g∈rdF A n,g < w.heap.size:=by
 intro g hg
 obtain ⟨h1,h2,h3,h4⟩:=h
 cases n with
 | zero=>cases hg
 | succ n =>
  rcases h4 with h4 | ⟨b,off,rfl,hb,hc⟩
  ·cases h4
  ·have:g=b:=by simpa [rdF,blkOf] using hg
   omega
def bvO (A:Option Addr) (n:Nat) (zs:List Int):Asr:=⟨rdF A n,false,fun w=>BV w A n zs,fun u hd h=>bv_up u h hd,fun h=>bv_lt h⟩
structure SP (s N:Nat) (xs:List Int) (Ss:List Nat) (A:Option Addr) (c:Nat) (p:List Int) (w:World):Prop where
 st:SO 0 s N xs Ss w
 pl:byteE.At 0 A p.length c p w
 far:∀ g∈Ss,g∉blkOf A
def spO (s N:Nat) (xs:List Int) (Ss:List Nat) (A:Option Addr) (c:Nat) (p:List Int) (rw:Bool):Asr:=⟨Ss++blkOf A,rw,SP s N xs Ss A c p,fun u hd h=>⟨h.st.upd u (fun g hg=>hd g (List.mem_append.2 (.inl hg))),u.own h.pl (fun g hg=>hd g (List.mem_append.2 (.inr hg))),h.far⟩,fun h g hg=>by
 rcases List.mem_append.1 hg with hg | hg
 ·exact h.st.lt g hg
 ·exact own_lt h.pl g hg⟩
theorem so_isB {s N:Nat} {xs:List Int} {Ss:List Nat} {w:World} (h:SO 0 s N xs Ss w):∀ z∈xs,isB z:=by
 obtain ⟨_,A,n,c,tk,zs,_,_,_,hb,_,e,_⟩:=h
 intro z hz
 rw [← e] at hz
 exact hb z (List.mem_of_mem_drop hz)
section
variable {s N:Nat} {xs p:List Int} {Ss:List Nat} {A:Option Addr} {c:Nat} {w:World}
theorem feedP (h:SP s N xs Ss A c p w) {dA:Option Addr} {dn dc:Nat} {zs:List Int} (hb:BV w dA dn zs) (hN:N+dn≤1000000) (hp:A=none) :
  Calls Tryz.prog 98 #[.pointer (some ⟨s,0,none⟩),.slice dA dn dc] w fun e w'=>∃ S',e=.returned (.tuple #[])∧SP s (N+dn) (xs++zs) S' A c p w'∧Upd (Ss++blkOf A) w w'∧∀ g∈S'++blkOf A,g∈Ss++blkOf A∨w.heap.size≤g:=by
 subst hp
 refine (Fq.feedT 0 s N xs Ss dA dn dc zs w h.st hb hN).mono ?_
 rintro e w' ⟨S',rfl,h1,h2,h3⟩
 have e0:blkOf (none:Option Addr)=[]:=rfl
 have e1:∀ L:List Nat,L++blkOf (none:Option Addr)=L:=fun L=>List.append_nil L
 rw [e1]
 refine ⟨S',rfl, ?_⟩
 rw [e1]
 exact ⟨ ⟨h1,h2.own h.pl (by intro g hg; cases hg),by intro g _ hg; cases hg⟩,h2,h3⟩
def popP (l:List Int):List Int:=(nextF l).1.getD []
def popB (l:List Int):Bool:=(nextF l).1.isSome
theorem nextP (h:SP s N xs Ss A c p w) (hN:N≤1000000) :
  Calls Tryz.prog 99 #[.pointer (some ⟨s,0,none⟩)] w fun e w'=>∃ y:List Nat×Option Addr×Nat,e=.returned (.tuple #[.slice y.2.1 (popP xs).length y.2.2,.bool (popB xs)])∧SP s N (nextF xs).2 y.1 y.2.1 y.2.2 (popP xs) w'∧Upd (Ss++blkOf A) w w'∧∀ g∈y.1++blkOf y.2.1,g∈Ss++blkOf A∨w.heap.size≤g:=by
 refine (Fq.nextT 0 s N xs Ss w h.st hN).mono ?_
 rintro e w' ⟨S',h1,h2,h3,h4⟩
 have u:Upd (Ss++blkOf A) w w':=h2.mono (fun g hg _=>List.mem_append.2 (.inl hg))
 unfold popP popB
 cases hn:(nextF xs).1 with
 | none =>
  rw [hn] at h4
  refine ⟨(S',none,0),h4,⟨h1,Ek.nil _ _ _,by intro g _ hg; cases hg⟩,u,fun g hg=>?_⟩
  rcases List.mem_append.1 hg with hg | hg
  ·exact (h3 g hg).imp (fun h=>List.mem_append.2 (.inl h)) id
  ·cases hg
 | some q =>
  rw [hn] at h4
  obtain ⟨A',c',rfl,ho,hf⟩:=h4
  have ho:=byte_own.2 ho
  refine ⟨(S',A',c'),rfl,⟨h1,Ek.base ho (Nat.zero_le _),hf⟩,u,fun g hg=>?_⟩
  rcases List.mem_append.1 hg with hg | hg
  ·exact (h3 g hg).imp (fun h=>List.mem_append.2 (.inl h)) id
  ·exact .inr (Ek.lows ho g hg)
end
structure BJ (c:CfgV) (n T:Nat) (L0:List Int) (R:Kv×Int) (M0:Nat) (ok:Bool) (p l:List Int) (x:Kv×Int) (M:Nat):Prop where
 j:JI c n T x.1
 r:runL c x (if ok then p::(frames l).1 else [])=R
 f:(if ok then (frames l).2 else l)=(frames L0).2
 b:∀ z∈l,isB z
 pb:∀ z∈p,isB z
 m:M+l.length+(if ok then 1 else 0)≤M0
theorem frames_pop {l:List Int} (h:popB l=true):frames l=(popP l::(frames (nextF l).2).1,(frames (nextF l).2).2):=by
 unfold popB at h
 unfold popP
 cases hn:(nextF l).1 with
 | none=>rw [hn] at h; cases h
 | some q=>exact Fm.frames_some l q _ (by rw [← hn])
theorem frames_no {l:List Int} (h:popB l=false):frames l=([],(nextF l).2):=by
 unfold popB at h
 cases hn:(nextF l).1 with
 | none=>exact Fm.frames_none l _ (by rw [← hn])
 | some q=>rw [hn] at h; cases h
theorem pop_isB {l:List Int} (h:∀ z∈l,isB z):(∀ z∈popP l,isB z)∧∀ z∈(nextF l).2,isB z:=by
 refine ⟨?_, ?_⟩
 ·unfold popP
  cases hn:(nextF l).1 with
  | none=>intro z hz; cases hz
  | some q =>
   obtain ⟨_,_,i,hi⟩:=Fm.nextF_some l q (nextF l).2 (by rw [← hn])
   intro z hz
   refine h z (List.mem_of_mem_drop (i:=i) ?_)
   rw [hi]
   refine List.mem_append.2 (.inl ?_)
   unfold Fm.frm Fm.hd
   simp only [Option.getD_some] at hz
   simp [hz]
 ·obtain ⟨i,hi⟩:=Fm.nextF_end l
  intro z hz
  rw [hi] at hz
  exact h z (List.mem_of_mem_drop hz)
theorem pop_len {l:List Int}:(nextF l).2.length+(if popB l then 1 else 0)≤l.length:=by
 unfold popB
 cases hn:(nextF l).1 with
 | none =>
  obtain ⟨i,hi⟩:=Fm.nextF_end l
  rw [hi]; simp
 | some q =>
  have:=Fm.nextF_less l q (nextF l).2 (by rw [← hn])
  simp; omega
theorem BJ.pop {c:CfgV} {n T:Nat} {L0 l:List Int} {R x:Kv×Int} {M0 M:Nat} (hj:JI c n T x.1) (hr:runL c x (frames l).1=R) (hf:(frames l).2=(frames L0).2) (hb:∀ z∈l,isB z) (hm:M+l.length≤M0):BJ c n T L0 R M0 (popB l) (popP l) (nextF l).2 x M:=by
 have h1:=pop_isB hb
 have h2:=pop_len (l:=l)
 cases h:popB l with
 | true =>
  have h3:=frames_pop h
  rw [h3] at hr hf
  rw [h] at h2
  exact ⟨hj,hr,hf,h1.2,h1.1,by simp at h2 ⊢; omega⟩
 | false =>
  have h3:=frames_no h
  rw [h3] at hr hf
  rw [h] at h2
  exact ⟨hj,hr,hf,h1.2,h1.1,by simp at h2 ⊢; omega⟩
theorem get_se {p:List Int} (hb:∀ z∈p,isB z) (h:(getV p).2=0):0≤(getV p).1.se∧(getV p).1.se≤255:=by
 have h1:=(Mg.get_may p hb (getV p).1 (by rw [← h])).1
 have h2:Mg.headB (getV p).1=true:=by
  unfold Mg.mayB at h1
  simp only [Bool.and_eq_true] at h1
  exact h1.1
 have:=(Mg.head_iff _).1 h2
 omega
theorem comeRO {c:CfgV} {n T:Nat} {gq M:Nat} {x:Gp} {ep:Int} {K:KV} {Sk:List Nat} {D:Fam} {w:World} (q:PktV) (hse:0≤q.se∧q.se≤255) (hb:Blk w gq 96 (gwA c x ep)) (hk:KG 0 x.q x.p x.mb M K Sk D w) (hg:gq∉kgF x.mb Sk D) (hj:JI c n T (K,vals D)) (hT:T≤10000) (hM:M < 1000000) :
  Calls Tryz.prog 101 #[.pointer (some ⟨gq,0,none⟩),.agg (pktC q)] w fun e w'=>∃ y:{y:List Nat×Fam // vals y.2=(comeK c (K,vals D) ep q).1.2},e=.returned (.tuple #[])∧Blk w' gq 96 (gwA c x (comeK c (K,vals D) ep q).2)∧KG 0 x.q x.p x.mb (M+1) (comeK c (K,vals D) ep q).1.1 y.1.1 y.1.2 w'∧Upd (gq::kgF x.mb Sk D) w w'∧∀ g∈kgF x.mb y.1.1 y.1.2,g∈kgF x.mb Sk D∨w.heap.size≤g :=
 (comeT q hse hb hk hg hj.t (by omega) hM hj.cars hj.inc (hj.sd hT)).mono (by
  rintro e w' ⟨y,rfl,h1,h2,h3,h4,h5,h6⟩
  refine ⟨⟨y,h3⟩,rfl,h1,h2,h4,fun g hg1=>?_⟩
  rcases h5 g hg1 with hg2 | hg2
  ·rcases List.mem_cons.1 hg2 with e | hg2
   ·rw [e] at hg1; exact absurd hg1 h6
   ·exact .inl hg2
  ·exact .inr hg2)
def BytQ (gq M:Nat) (c:CfgV) (x:Gp) (N:Nat) (S:List Nat) (w:World) (r:Kv×Int) (rest:List Int) (e:Ending) (w':World):Prop :=
 ∃ y:List Nat×Fam×List Nat,e=.returned (.tuple #[.slice none 0 0,.int .i64 0])∧Blk w' gq 96 (gwA c x r.2)∧KG 0 x.q x.p x.mb M r.1.1 y.1 y.2.1 w'∧vals y.2.1=r.1.2∧SO 0 x.s N rest y.2.2 w'∧Upd (gq::S) w w'∧(∀ g∈kgF x.mb y.1 y.2.1++y.2.2,g∈gq::S∨w.heap.size≤g)∧gq∉kgF x.mb y.1 y.2.1∧gq∉y.2.2∧∀ g∈kgF x.mb y.1 y.2.1,g∉y.2.2
attribute [local irreducible] Go.Calls
set_option maxHeartbeats 8000000 in
theorem bytesT {c:CfgV} {n T N gq M:Nat} {x:Gp} {ep sk sa sb:Int} {K:KV} {Sk Ss:List Nat} {D:Fam} {xs zs:List Int} {dA:Option Addr} {dn dc:Nat} {w:World} (hb:Blk w gq 96 (gwA c x ep)) (hk:KG 0 x.q x.p x.mb M K Sk D w) (hs:SO 0 x.s N xs Ss w) (hg:gq∉kgF x.mb Sk D) (hgs:gq∉Ss) (hd:∀ g∈kgF x.mb Sk D,g∉Ss) (hz:BV w dA dn zs) (hz1:∀ g∈rdF dA dn,g∉gq::(kgF x.mb Sk D++Ss)) (hj:JI c n T (K,vals D)) (hT:T≤10000) (hM:M+(xs++zs).length < 1000000) (hN:N+dn≤1000000) :
  Calls Tryz.prog 72 #[.pointer (some ⟨gq,0,none⟩),.agg #[.int .i64 sk,.int .i64 sa,.int .i64 sb,.slice dA dn dc]] w (BytQ gq (M+(xs++zs).length - (frames (xs++zs)).2.length) c x (N+dn) (kgF x.mb Sk D++Ss) w (runL c ((K,vals D),ep) (frames (xs++zs)).1) (frames (xs++zs)).2):=by
 have hp0:SP x.s N xs Ss none 0 [] w:=⟨hs,Ek.nil _ _ _,by intro g _ hg; cases hg⟩
 have e0:Ss++blkOf (none:Option Addr)=Ss:=List.append_nil _
 have hH:∀ nt,Hold ⟨Tryz.prog,tab,gq::(kgF x.mb Sk D++Ss),w,nt,[]⟩ [⟨gq,96,true,0,[],gwS c x ep,[],true⟩] [kgO 0 x.q x.p x.mb M K Sk D true,spO x.s N xs Ss none 0 [] true,bvO dA dn zs] w:=fun nt=>by
  refine Hold.addObj (ob:=[kgO 0 x.q x.p x.mb M K Sk D true,spO x.s N xs Ss none 0 [] true]) (Hold.addObj (ob:=[kgO 0 x.q x.p x.mb M K Sk D true]) (Hold.addObj (ob:=[]) (Hold.addRow (m:=[]) (Hold.nil _ tab _ _ w) ⟨gq,96,true,0,[],gwS c x ep,[],true⟩ hb (fun _=>.inl (List.mem_cons_self ..)) (by intro q hq; cases hq) (by intro A hA; cases hA)) _ hk (fun _ g hg=>.inl (List.mem_cons_of_mem _ (List.mem_append.2 (.inl hg)))) (by intro r hr _; simp only [List.nil_append,List.mem_singleton] at hr; subst hr; exact hg) (by intro A hA; cases hA)) (spO x.s N xs Ss none 0 [] true) hp0 (fun _ g hg=>.inl (List.mem_cons_of_mem _ (List.mem_append.2 (.inr (e0 ▸ hg))))) (by intro r hr _ hm; simp only [List.nil_append,List.mem_singleton] at hr; subst hr; exact hgs (e0 ▸ hm)) (by intro A hA _ g hg hg2; rw [List.mem_singleton] at hA; subst hA; exact hd g hg (e0 ▸ hg2))) (bvO dA dn zs) hz (by intro k; cases k) (by intro r hr _ hm; simp only [List.nil_append,List.mem_singleton] at hr; subst hr; exact hz1 _ hm (List.mem_cons_self ..)) (by
   intro A hA _ g hg hg2
   simp only [List.mem_cons,List.mem_nil_iff,or_false] at hA
   rcases hA with rfl | rfl
   ·exact hz1 g hg2 (List.mem_cons_of_mem _ (List.mem_append.2 (.inl hg)))
   ·exact hz1 g hg2 (List.mem_cons_of_mem _ (List.mem_append.2 (.inr (e0 ▸ hg)))))
 have hxb:=so_isB hs
 have hzb:=hz.2.2.1
 have hlb:∀ z∈xs++zs,isB z:=fun z h=>(List.mem_append.1 h).elim (hxb z) (hzb z)
 have hst:=BJ.pop (c:=c) (M:=M) (M0:=M+(xs++zs).length) (L0:=xs++zs) (x:=((K,vals D),ep)) hj rfl rfl hlb (Nat.le_refl _)
 refine entH tab_ok (hH _) [.p 0 0,.a [.i .i64 sk,.i .i64 sa,.i .i64 sb,.v (.slice dA dn dc)]] Tryz.func72 Tryz.ntmps72 rfl rfl ?_
 repeat' (first | refine gs_ ?_|((conv=>whnf); first | intro b | refine b3_ (fun h=>?_) (fun h=>?_)|refine callO (f:=98) (A:=spO x.s N xs Ss none 0 [] true) 1 (fun _:List Nat=>.t []) (fun S'=>spO x.s (N+dn) (xs++zs) S' none 0 [] true) (fun w hH hA=>feedP hA (Hold.ob hH (A:=bvO dA dn zs) 2 rfl) hN rfl) (fun S'=>?_)|refine callO (f:=99) (A:=spO x.s (N+dn) (xs++zs) S' none 0 [] true) 1 (fun y:List Nat×Option Addr×Nat=>.t [.v (.slice y.2.1 (popP (xs++zs)).length y.2.2),.b (popB (xs++zs))]) (fun y=>spO x.s (N+dn) (nextF (xs++zs)).2 y.1 y.2.1 y.2.2 (popP (xs++zs)) true) (fun w hH hA=>nextP hA hN) (fun y=>?_)|refine fin_s ?_))
 conv=>whnf
 refine lp ⟨tab_ok⟩ (ι:={v:(Bool×List Int×List Int)×(Option Addr×Nat×List Nat)×(KV×List Nat×Fam×Int×Nat) // BJ c n T (xs++zs) (runL c ((K,vals D),ep) (frames (xs++zs)).1) (M+(xs++zs).length) v.1.1 v.1.2.1 v.1.2.2 ((v.2.2.1,vals v.2.2.2.2.1),v.2.2.2.2.2.1) v.2.2.2.2.2.2}) (fun v=>match v with | ⟨((ok,p,l),(A1,c1,S1),(K1,Sk1,D1,ep1,M1)),_⟩=>⟨[(0,.p 0 0),(6,.v (.slice A1 p.length c1)),(7,.b ok)],[⟨gq,96,true,0,[],gwS c x ep1,[],true⟩],[kgO 0 x.q x.p x.mb M1 K1 Sk1 D1 true,spO x.s (N+dn) l S1 A1 c1 p true,bvO dA dn zs]⟩) (fun v=>v.1.1.2.2.length+(if v.1.1.1 then 1 else 0)) ⟨((popB (xs++zs),popP (xs++zs),(nextF (xs++zs)).2),(y.2.1,y.2.2,y.1),(K,Sk,D,ep,M)),hst⟩ (wk ?_) ?_
 ·repeat' (first | exact trivial | rfl | ((conv=>whnf); refine And.intro ?_ ?_))
 rintro ⟨⟨⟨ok,p,l⟩,⟨A1,c1,S1⟩,⟨K1,Sk1,D1,ep1,M1⟩⟩,hj1⟩
 have hj1:BJ c n T (xs++zs) (runL c ((K,vals D),ep) (frames (xs++zs)).1) (M+(xs++zs).length) ok p l ((K1,vals D1),ep1) M1:=hj1
 cases ok with
 | false =>
  repeat' (first | refine gs_ ?_|((conv=>whnf); first | intro b | refine fin fun w' hH=>?_|refine fin_s ?_))
  have hr:runL c ((K,vals D),ep) (frames (xs++zs)).1=((K1,vals D1),ep1):=hj1.r.symm
  have hf:(frames (xs++zs)).2=l:=hj1.f.symm
  have hm1:=hj1.m
  rw [hr,hf]
  have hsp:=Hold.ob hH (A:=spO x.s (N+dn) l S1 A1 c1 p true) 1 rfl
  have d01:DisR (kgO 0 x.q x.p x.mb M1 K1 Sk1 D1 true) (spO x.s (N+dn) l S1 A1 c1 p true):=pair_at (R:=DisR) (fun _ _ h=>h.symm) hH.dis (i:=0) (j:=1) rfl rfl (by decide)
  refine ⟨(Sk1,D1,S1),rfl,by have:=hH.row 0 _ rfl rfl; rw [rowA_nil rfl rfl] at this; exact this,(Hold.ob hH (A:=kgO 0 x.q x.p x.mb M1 K1 Sk1 D1 true) 0 rfl).more (by simp only [Bool.false_eq_true,if_false] at hm1; omega),rfl,SP.st hsp,hH.upd,fun g hg=>?_,hH.far _ (List.mem_of_getElem? (i:=0) rfl) 0 _ rfl rfl,fun hm=>hH.far _ (List.mem_of_getElem? (i:=1) rfl) 0 _ rfl rfl (List.mem_append.2 (.inl hm)),fun g hg hgs=>d01 (.inl rfl) g hg (List.mem_append.2 (.inl hgs))⟩
  rcases List.mem_append.1 hg with hg | hg
  ·exact hH.own _ (List.mem_of_getElem? (i:=0) rfl) rfl g hg
  ·exact hH.own _ (List.mem_of_getElem? (i:=1) rfl) rfl g (List.mem_append.2 (.inl hg))
 | true =>
  have hjj:=hj1.j
  have hm1:=hj1.m
  simp only [if_true] at hm1
  have hr1:=hj1.r
  have hf1:=hj1.f
  simp only [if_true] at hr1 hf1
  by_cases hz0:(getV p).2=0
  ·have hse:=get_se hj1.pb hz0
   have hx2:∀ z:{z:List Nat×Fam // vals z.2=(comeK c (K1,vals D1) ep1 (getV p).1).1.2},(((comeK c (K1,vals D1) ep1 (getV p).1).1.1,vals z.1.2),(comeK c (K1,vals D1) ep1 (getV p).1).2)=comeK c (K1,vals D1) ep1 (getV p).1:=fun z=>by rw [z.2]
   have hbj:∀ z:{z:List Nat×Fam // vals z.2=(comeK c (K1,vals D1) ep1 (getV p).1).1.2},BJ c n T (xs++zs) (runL c ((K,vals D),ep) (frames (xs++zs)).1) (M+(xs++zs).length) (popB l) (popP l) (nextF l).2 (((comeK c (K1,vals D1) ep1 (getV p).1).1.1,vals z.1.2),(comeK c (K1,vals D1) ep1 (getV p).1).2) (M1+1):=fun z=>by
    rw [hx2 z]
    refine BJ.pop (hjj.come hT _ _) ?_ hf1 hj1.b (by omega)
    rw [← hr1]
    show _=runL c (if (getV p).2=0 then comeK c (K1,vals D1) ep1 (getV p).1 else ((K1,vals D1),ep1)) (frames l).1
    rw [if_pos hz0]
   repeat' (first | refine gs_ ?_|((conv=>whnf); first | intro b | refine callH (f:=100) (.t [.a [.i .i64 (getV p).1.se,.i .i64 (getV p).1.ep,.i .i64 (getV p).1.sq,.i .i64 (getV p).1.ak,.b (getV p).1.has,.i .i64 (getV p).1.ki,.i .i64 (getV p).1.a,.i .i64 (getV p).1.b,.i .i64 (getV p).1.c],.i .i64 (getV p).2]) (fun w hH=>Mg.getT (SP.pl (Hold.ob hH (A:=spO x.s (N+dn) l S1 A1 c1 p true) 1 rfl)) rfl hj1.pb) ?_|refine callRO (f:=101) 0 0 (A:=kgO 0 x.q x.p x.mb M1 K1 Sk1 D1 true) (fun z:{z:List Nat×Fam // vals z.2=(comeK c (K1,vals D1) ep1 (getV p).1).1.2}=>.t []) (fun z=>gwS c x (comeK c (K1,vals D1) ep1 (getV p).1).2) (fun z=>kgO 0 x.q x.p x.mb (M1+1) (comeK c (K1,vals D1) ep1 (getV p).1).1.1 z.1.1 z.1.2 true) (fun w hH hB hA hq=>comeRO (getV p).1 hse hB hA hq hjj hT (by omega)) (fun z=>?_)|refine callO (f:=99) (A:=spO x.s (N+dn) l S1 A1 c1 p true) 1 (fun y:List Nat×Option Addr×Nat=>.t [.v (.slice y.2.1 (popP l).length y.2.2),.b (popB l)]) (fun y=>spO x.s (N+dn) (nextF l).2 y.1 y.2.1 y.2.2 (popP l) true) (fun w hH hA=>nextP hA hN) (fun y=>?_)|refine En.back ⟨((popB l,popP l,(nextF l).2),(y.2.1,y.2.2,y.1),((comeK c (K1,vals D1) ep1 (getV p).1).1.1,z.1.1,z.1.2,(comeK c (K1,vals D1) ep1 (getV p).1).2,M1+1)),hbj z⟩ (wk ?_) ?_|refine fin_s ?_))
   all_goals first | (have hpl:=pop_len (l:=l); show (nextF l).2.length+(if popB l=true then 1 else 0) < l.length+(if true=true then 1 else 0); simp at hpl ⊢; omega)|skip
   all_goals (repeat' (first | exact trivial | rfl | ((conv=>whnf); refine And.intro ?_ ?_)))
  ·have hbj:BJ c n T (xs++zs) (runL c ((K,vals D),ep) (frames (xs++zs)).1) (M+(xs++zs).length) (popB l) (popP l) (nextF l).2 ((K1,vals D1),ep1) M1:=by
    refine BJ.pop hjj ?_ hf1 hj1.b (by omega)
    rw [← hr1]
    show _=runL c (if (getV p).2=0 then comeK c (K1,vals D1) ep1 (getV p).1 else ((K1,vals D1),ep1)) (frames l).1
    rw [if_neg hz0]
   repeat' (first | refine gs_ ?_|((conv=>whnf); first | intro b | refine callH (f:=100) (.t [.a [.i .i64 (getV p).1.se,.i .i64 (getV p).1.ep,.i .i64 (getV p).1.sq,.i .i64 (getV p).1.ak,.b (getV p).1.has,.i .i64 (getV p).1.ki,.i .i64 (getV p).1.a,.i .i64 (getV p).1.b,.i .i64 (getV p).1.c],.i .i64 (getV p).2]) (fun w hH=>Mg.getT (SP.pl (Hold.ob hH (A:=spO x.s (N+dn) l S1 A1 c1 p true) 1 rfl)) rfl hj1.pb) ?_|refine callO (f:=99) (A:=spO x.s (N+dn) l S1 A1 c1 p true) 1 (fun y:List Nat×Option Addr×Nat=>.t [.v (.slice y.2.1 (popP l).length y.2.2),.b (popB l)]) (fun y=>spO x.s (N+dn) (nextF l).2 y.1 y.2.1 y.2.2 (popP l) true) (fun w hH hA=>nextP hA hN) (fun y=>?_)|refine En.back ⟨((popB l,popP l,(nextF l).2),(y.2.1,y.2.2,y.1),(K1,Sk1,D1,ep1,M1)),hbj⟩ (wk ?_) ?_|refine fin_s ?_))
   all_goals first | (have hpl:=pop_len (l:=l); show (nextF l).2.length+(if popB l=true then 1 else 0) < l.length+(if true=true then 1 else 0); simp at hpl ⊢; omega)|skip
   all_goals (repeat' (first | exact trivial | rfl | ((conv=>whnf); refine And.intro ?_ ?_)))
end Gw
namespace Gw
open Go.RowKit Ba Mem En Go.Proofs.YtepfmfalebmcnaaGreatDoor.Ty
open Byt (BV isB)
set_option maxRecDepth 100000
structure StepD where
 k:Int
 a:Int
 b:Int
 A:Option Addr
 n:Nat
 c:Nat
 d:List Int
instance:Inhabited StepD:=⟨⟨0,0,0,none,0,0,[]⟩⟩
def stepC (s:StepD):List Value:=[.int .i64 s.k,.int .i64 s.a,.int .i64 s.b,.slice s.A s.n s.c]
def stepE:Ek StepD:=⟨38,4,stepC,fun _=>rfl,by
 intro a u hu
 simp only [stepC,List.mem_cons,List.not_mem_nil,or_false] at hu
 rcases hu with rfl | rfl | rfl | rfl <;> rfl⟩
structure StepW (s:StepD):Prop where
 k:(Lit.int .i64 s.k).wf=true
 a:(Lit.int .i64 s.a).wf=true
 b:(Lit.int .i64 s.b).wf=true
 l:s.d.length=s.n
 c:s.n≤s.c
 m:s.n≤140737488351232
theorem weights_mem_all {H:Type} {P:Program} {e:TypeId}:∀ {ds:List (DataW H)} {d:DataW H},d∈ds→∀ n∈d.weights P e,n∈DataW.weightsAll P e ds
 | [],_,h,_,_=>by cases h
 | d0::r,d,h,n,hn=>by
  simp only [DataW.weightsAll,List.mem_append]
  rcases List.mem_cons.1 h with rfl | h
  ·exact .inl hn
  ·exact .inr (weights_mem_all h n hn)
section
variable {H:Type} {enc:TypeId×Value→H} {w:World} {base:Nat} {spare:Nat→Bool} {held:Bool}
theorem step_of {fuel:Nat} {cs:List Value} {x:DataW H×List MemPlace} (h:DataW.trod enc Tryz.prog w base spare held fuel 38 cs=some x) (hU:∀ u∈x.1.weights Tryz.prog 38,u≤140737488351232):∃ s:StepD,cs=stepC s∧BV w s.A s.n s.d∧StepW s:=by
 have e1:Tryz.prog.cellsOf 3=1:=by kernel_rfl
 have es:Tryz.prog.cellsOf 29=1:=by kernel_rfl
 have eb:Tryz.prog.bytesOf 5=1:=by kernel_rfl
 obtain ⟨xs,n,rfl,hxe,hl,hx,hf⟩:=DataW.trod_struct Tryz.underlying38 h
 have hl':cs.length=4:=hl.trans (by kernel_rfl)
 match cs,hl' with
 | [a0,a1,a2,a3],_ =>
  have hx':xs.length=4:=hx
  match xs,hx' with
  | [y0,y1,y2,y3],_ =>
   have g0:=hf 0 _ rfl
   have g1:=hf 1 _ rfl
   have g2:=hf 2 _ rfl
   have g3:=hf 3 _ rfl
   simp [e1,es] at g0 g1 g2 g3
   obtain ⟨v0,q0,_,k0⟩:=DataW.trod_int Tryz.underlying3 g0
   obtain ⟨v1,q1,_,k1⟩:=DataW.trod_int Tryz.underlying3 g1
   obtain ⟨v2,q2,_,k2⟩:=DataW.trod_int Tryz.underlying3 g2
   simp at q0 q1 q2
   subst q0 q1 q2
   have hw:∀ u∈DataW.weights Tryz.prog 29 y3.1,u≤140737488351232:=fun u hu=>by
    refine hU u ?_
    rw [hxe]
    simp only [DataW.weights,Tryz.underlying38]
    exact DataW.weights_mem_each (j:=3) (t:=29) (d:=y3.1) rfl rfl u hu
   rcases Go.ChangeShapes.open_ints Tryz.underlying29 Tryz.underlying5 (by kernel_rfl) g3 with ⟨hcs,_⟩ | ⟨x,l2,c,zs,hcs,_,hlc,hm2,hz,hy,hcl,hww⟩
   ·simp at hcs
    subst hcs
    exact ⟨⟨v0,v1,v2,none,0,0,[]⟩,rfl,BV.nil _ _,⟨k0,k1,k2,rfl,by simp,by simp⟩⟩
   ·simp at hcs
    subst hcs
    have hlz:l2≤zs.length:=by rw [hz]; split <;> omega
    have hm3:l2≤140737488351232:=by
     have:=hw _ (by
      rw [show y3=_ from hy]
      simp only [DataW.weights,Tryz.underlying29]
      exact List.mem_cons_self ..)
     simp only [Go.ChangeShapes.lits,List.length_map,List.length_take,List.length_drop,eb] at this
     omega
    exact ⟨⟨v0,v1,v2,some x,l2,c,zs.take l2⟩,rfl,Pa.bv_cells hlz (Nat.le_trans hlc hm2) hcl hww,⟨k0,k1,k2,by show (zs.take l2).length=l2; rw [List.length_take]; omega,hlc,hm3⟩⟩
end
structure StR (a:Option Addr) (len:Nat) (ss:Nat→StepD) (w:World):Prop where
 r:stepE.Rd a len ss w
 d:∀ i,i < len→BV w (ss i).A (ss i).n (ss i).d
def stF (a:Option Addr) (len:Nat) (ss:Nat→StepD):List Nat:=rdF a len++(List.range len).flatMap fun i=>rdF (ss i).A (ss i).n
theorem stF_at {a:Option Addr} {len i:Nat} {ss:Nat→StepD} (hi:i < len):∀ g∈rdF (ss i).A (ss i).n,g∈stF a len ss:=fun g hg=>List.mem_append.2 (.inr (List.mem_flatMap.2 ⟨i,List.mem_range.2 hi,hg⟩))
def stO (a:Option Addr) (len:Nat) (ss:Nat→StepD):Asr:=⟨stF a len ss,false,StR a len ss,fun u hd h=>⟨(rdO stepE a len ss).up u (fun g hg=>hd g (List.mem_append.2 (.inl hg))) h.r,fun i hi=>bv_up u (h.d i hi) (fun g hg=>hd g (stF_at hi g hg))⟩,fun h g hg=>by
 rcases List.mem_append.1 hg with hg | hg
 ·exact (rdO stepE a len ss).lt h.r g hg
 ·obtain ⟨i,hi,hg⟩:=List.mem_flatMap.1 hg
  exact bv_lt (h.d i (List.mem_range.1 hi)) g hg⟩
section
variable {H:Type} {enc:TypeId×Value→H} {w:World} {base:Nat} {spare:Nat→Bool} {held:Bool}
theorem steps_open {fuel:Nat} {a:Option Addr} {len cap:Nat} {x:DataW H×List MemPlace} (h:DataW.trod enc Tryz.prog w base spare held fuel 24 [.slice a len cap]=some x) (hU:∀ u∈x.1.weights Tryz.prog 24,u≤140737488351232):∃ ss,StR a len ss w∧(∀ i,i < len→StepW (ss i))∧len≤9223372036854775807:=by
 have ce:Tryz.prog.cellsOf 38=4:=by kernel_rfl
 rcases Go.Deep.open_slice Tryz.underlying24 h with ⟨hcs,_⟩ | ⟨a',len',cap',m,n,D,Pl,hcs,hb,hlc,hcm,hm,hxe,hx⟩
 ·simp at hcs
  obtain ⟨rfl,rfl,rfl⟩:=hcs
  exact ⟨default,⟨.inl rfl,fun i hi=>by omega⟩,fun i hi=>by omega,by omega⟩
 ·simp at hcs
  obtain ⟨rfl,rfl,rfl⟩:=hcs
  have hlm:len≤m:=by rw [hm]; split <;> omega
  have hw:∀ i,i < len→∀ u∈(D i).weights Tryz.prog 38,u≤140737488351232:=fun i hi u hu=>by
   refine hU u ?_
   rw [hxe]
   simp only [DataW.weights,Tryz.underlying24]
   exact List.mem_cons_of_mem _ (List.mem_append.2 (.inl (weights_mem_all (List.mem_map.2 ⟨i,List.mem_range.2 hi,rfl⟩) u hu)))
  have each:∀ i,i < len→∃ l:StepD,(∀ j v,(stepC l)[j]?=some v→w.cell? ((a'.add (i*4)).add j)=some v)∧BV w l.A l.n l.d∧StepW l:=by
   intro i hi
   obtain ⟨cs',h1,h2⟩:=hx i (by omega)
   rw [ce] at h1
   obtain ⟨_,hlen,hcell⟩:=World.cells?_some h1
   obtain ⟨l,rfl,h3,h4⟩:=step_of h2 (hw i hi)
   refine ⟨l,fun j v hj=>?_,h3,h4⟩
   have hj9:j < 4:=by
    obtain ⟨hlt,_⟩:=List.getElem?_eq_some_iff.1 hj
    simpa [stepC] using hlt
   rw [hcell j hj9,hj]
  obtain ⟨ls,hls⟩:=Go.Deep.choose_lt each
  refine ⟨ls,⟨?_,fun i hi=>(hls i hi).2.1⟩,fun i hi=>(hls i hi).2.2,by unfold maxLen at hcm; omega⟩
  rcases Nat.eq_zero_or_pos len with h0 | h0
  ·exact .inl h0
  ·obtain ⟨b,off,idx⟩:=a'
   have c0:=(hls 0 h0).1 0 _ rfl
   cases idx with
   | none =>
    rw [Go.WideShapes.add_plain,Go.WideShapes.add_plain] at c0
    refine .inr ⟨b,off,rfl,World.block_lt_of_cell? _ _ c0,fun i hi j v hj=>?_⟩
    have:=(hls i hi).1 j v hj
    rw [Go.WideShapes.add_plain,Go.WideShapes.add_plain] at this
    exact this
   | some q =>
    exfalso
    simp [World.cell?,Addr.add] at c0
    split at c0 <;> simp at c0
end
end Gw
namespace Fm
theorem frames_cnt:∀ (n:Nat) (l:List Int),l.length < n→(frames l).1.length+(frames l).2.length≤l.length
 | 0,_,h=>by omega
 | n+1,l,h=>by
  match e:nextF l with
  | (none,rest) =>
   obtain ⟨i,hi⟩:=nextF_end l
   rw [e] at hi
   have hi:rest=l.drop i:=hi
   rw [frames_none l rest e,hi]
   simp
  | (some p,rest) =>
   have hl:=nextF_less l p rest e
   have:=frames_cnt n rest (by omega)
   rw [frames_some l p rest e]
   simp only [List.length_cons]
   omega
theorem frames_le (l:List Int):(frames l).1.length+(frames l).2.length≤l.length:=frames_cnt (l.length+1) l (by omega)
end Fm
namespace Gw
open Go.RowKit Ba Mem En Go.Proofs.YtepfmfalebmcnaaGreatDoor.Ty Mp
open Ri (MsgV)
open Co (KV KI KT EvV evs tickK tickE foldK stepK stepR tkK1 grantE grA goneK Hold.ob)
open Lc (PI CI)
set_option maxRecDepth 100000
theorem may_se {c:CfgV} {a:AskV} (h:Fl.mayB c a=true):0≤a.se∧a.se < 64:=by
 unfold Fl.mayB Fl.belB at h
 simp only [Bool.and_eq_true,decide_eq_true_eq] at h
 have h1:=h.1.1.1.1.1.1
 have h2:Qu.btw c.se 1 64≤64:=by unfold Qu.btw; (repeat' split) <;> omega
 omega
theorem fold_s (ls:List LeaseV):∀ x:KV×List EvV,∀ e∈(ls.foldl stepK x).2,e∈x.2∨∃ l∈ls,e.s=l.se:=by
 induction ls with
 | nil=>intro x e he; exact .inl he
 | cons l r ih =>
  intro x e he
  rw [List.foldl_cons] at he
  rcases ih _ e he with h | ⟨y,hy,h⟩
  ·unfold Co.stepK at h
   rcases List.mem_append.1 h with h | h
   ·exact .inl h
   ·simp only [evs,List.mem_map] at h
    obtain ⟨_,_,rfl⟩:=h
    exact .inr ⟨l,List.mem_cons_self ..,(Co.tickV_ca _ _ _ _).2⟩
  ·exact .inr ⟨y,List.mem_cons_of_mem _ hy,h⟩
theorem fold_Q (K:KV) (k:Nat):(foldK K k).1.Q=K.Q:=by
 unfold Co.foldK
 have:∀ (ls:List LeaseV) (x:KV×List EvV),(ls.foldl stepK x).1.Q=x.1.Q:=by
  intro ls
  induction ls with
  | nil=>intro x; rfl
  | cons l r ih =>
   intro x
   rw [List.foldl_cons,ih]
   show (Co.setK x.1 (stepR x.1 l).1 (stepR x.1 l).2.2).Q=x.1.Q
   unfold Co.setK
   split
   ·exact Co.endK_Q _ _
   ·rfl
 rw [this]; rfl
section
variable {c:CfgV} {n T:Nat} {x:Kv}
theorem PI.evs {K:KV} (h:PI c n T K):∀ e∈tickE K,0≤e.s∧e.s < 64:=by
 intro e he
 rcases List.mem_append.1 he with he | he
 ·rcases fold_s _ _ e he with he | ⟨l,hl,hs⟩
  ·cases he
  ·rw [hs]
   have hg:=(h.e l (List.mem_of_mem_take hl)).gd
   unfold Le.goodB at hg
   simp only [Bool.and_eq_true] at hg
   exact may_se hg.1.1.1.1
 ·unfold Co.grantE at he
  cases ha:grA (foldK K K.L.length).1 with
  | none=>rw [ha] at he; cases he
  | some a =>
   rw [ha] at he
   rw [List.mem_singleton] at he
   rw [he]
   unfold Co.grA at ha
   split at ha
   ·cases ha
   ·split at ha
    ·rename_i hf
     split at ha
     ·cases ha
     ·cases ha
      have hm:=Co.first_mem hf
      exact may_se (h.k.okq _ (fold_Q K K.L.length ▸ hm))
    ·cases ha
theorem PI.evl {K:KV} (h:PI c n T K):(tickE K).length≤T+1:=by
 unfold Co.tickE
 rw [List.length_append]
 have h1:(foldK K K.L.length).2.length≤K.L.length:=by
  have:=Co.fold_ev (K.L.take K.L.length) (tkK1 K,[])
  rw [List.length_take,Nat.min_self] at this
  unfold Co.foldK
  exact Nat.le_trans this (by simp)
 have h2:(grantE (foldK K K.L.length).1).length≤1:=by unfold Co.grantE; split <;> simp
 have:=h.k.ll
 omega
theorem PI.kt {K:KV} (h:PI c n T K) (hn:n≤10000) (hT:T≤10000):KT K:=h.k.kt hn (by omega) hT
theorem JI.tk (h:JI c n T x) (hT:T < 10000):JI c n (T+1) (tickK x.1,x.2):=by
 have hp:=h.p.tick (by omega)
 exact ⟨hp,CI.tick h.p (by omega) h.ci,⟨KI.qlen hp.k,by have:=hp.k.ll; show (tickK x.1).L.length≤10000; omega,h.t.s,(h.t.more (by omega)).t⟩⟩
theorem PJ.tickS {x:Ko} (hp:PI c n T x.1.1) (hc:CI [] x.1.1) (hT:T≤1000000) (i:Int):PI c n T (tickS x i).1.1∧CI [] (tickS x i).1.1:=by
 unfold Gw.tickS
 cases x.1.2 i with
 | none=>exact ⟨hp,hc⟩
 | some v =>
  simp only []
  split
  ·exact ⟨PI.go hp hT i,hc.gone hp i⟩
  ·exact ⟨hp,hc⟩
theorem PJ.tickL (hT:T≤1000000):∀ (ks:List Int) {x:Ko},PI c n T x.1.1→CI [] x.1.1→PI c n T (tickL x ks).1.1∧CI [] (tickL x ks).1.1
 | [],x,hp,hc=>⟨hp,hc⟩
 | k::r,x,hp,hc=>by
  obtain ⟨h1,h2⟩:=PJ.tickS hp hc hT k
  exact PJ.tickL hT r h1 h2
theorem JI.tick (h:JI c n T x) (hT:T < 10000):JI c n (T+1) (tickG x).1:=by
 have h1:=h.tk hT
 have h2:=JI.tell h1 (by omega) (tickE x.1)
 have h3:=PJ.tickL (by omega) (keysL (tellF (tickK x.1,x.2) (tickE x.1)).2) (x:=(tellF (tickK x.1,x.2) (tickE x.1),[])) h2.p h2.ci
 have h0:TI (64*T:Nat) (tickK x.1,x.2):=⟨h1.t.q,h1.t.l,h.t.s,h.t.t⟩
 have h4:=TI.tickL (keysL (tellF (tickK x.1,x.2) (tickE x.1)).2) (x:=(tellF (tickK x.1,x.2) (tickE x.1),[])) (h0.tell (tickE x.1))
 have h5:=keys_len (tellF (tickK x.1,x.2) (tickE x.1)).2
 exact ⟨h3.1,h3.2,h4.more (by omega)⟩
end
end Gw
namespace Gw
open Go.RowKit Ba Mem En Go.Proofs.YtepfmfalebmcnaaGreatDoor.Ty Mp
open Ri (MsgV)
open Co (KV Pt KW Nr NrA toN Hold.ob)
open Gr (doR)
open Lc (hallW pressW loadW2 curtW faultW)
open Et (carsO)
set_option maxRecDepth 100000
attribute [local irreducible] Go.Calls
section
variable {lo gq M:Nat} {c:CfgV} {x:Gp} {ep sk sa sb i:Int} {K:KV} {Sk:List Nat} {D:Fam} {w:World} {dA:Option Addr} {dn dc:Nat}
theorem hallT (hb:Blk w gq 96 (gwA c x ep)) (h:KG lo x.q x.p x.mb M K Sk D w) (hg:gq∉kgF x.mb Sk D) (hw:K.G.waits.length≤10000):Calls Tryz.prog 73 #[.pointer (some ⟨gq,0,none⟩),.agg #[.int .i64 sk,.int .i64 sa,.int .i64 sb,.slice dA dn dc]] w fun e w'=>∃ S',e=.returned (.tuple #[.slice none 0 0,.int .i64 (Gr.hallR K.G sa sb).2])∧KG lo x.q x.p x.mb M { K with G:=(doR K.G 1 sa sb (sb == 1)).1 } S' D w'∧Upd (kgF x.mb Sk D) w w'∧∀ g∈kgF x.mb S' D,g∈kgF x.mb Sk D∨w.heap.size≤g:=by
 refine entH tab_ok (hold_g hb h hg) [.p 0 0,.a [.i .i64 sk,.i .i64 sa,.i .i64 sb,.v (.slice dA dn dc)]] Tryz.func73 Tryz.ntmps73 rfl rfl ?_
 repeat' (first | refine gs_ ?_|((conv=>whnf); first | intro b | refine And.intro ?_ ?_|refine callH (f:=58) (.v (.pointer (some ⟨x.p.g,0,none⟩))) (fun w hH=>groupT (hH.row 0 _ rfl rfl) (Hold.ob hH (A:=kgO lo x.q x.p x.mb M K Sk D true) 0 rfl) hg) ?_|refine callO (f:=102) (A:=kgO lo x.q x.p x.mb M K Sk D true) 0 (fun _:List Nat=>.i .i64 (Gr.hallR K.G sa sb).2) (fun S'=>kgO lo x.q x.p x.mb M { K with G:=(doR K.G 1 sa sb (sb == 1)).1 } S' D true) (fun w hH hA=>KG.core hA (fun hk=>hallW hk hw sa sb)) (fun S'=>?_)|refine fin fun w' hH=>⟨S',rfl,Hold.ob hH (A:=kgO lo x.q x.p x.mb M { K with G:=(doR K.G 1 sa sb (sb == 1)).1 } S' D true) 0 rfl,hH.upd,fun g hg=>hH.own _ (List.mem_of_getElem? (i:=0) rfl) rfl g hg⟩|refine fin_s ?_))
theorem pressT (hb:Blk w gq 96 (gwA c x ep)) (h:KG lo x.q x.p x.mb M K Sk D w) (hg:gq∉kgF x.mb Sk D):Calls Tryz.prog 74 #[.pointer (some ⟨gq,0,none⟩),.agg #[.int .i64 sk,.int .i64 sa,.int .i64 sb,.slice dA dn dc]] w fun e w'=>∃ S',e=.returned (.tuple #[.slice none 0 0,.int .i64 (Gr.pressR K.G sa sb).2])∧KG lo x.q x.p x.mb M { K with G:=(doR K.G 2 sa sb (sb == 1)).1 } S' D w'∧Upd (kgF x.mb Sk D) w w'∧∀ g∈kgF x.mb S' D,g∈kgF x.mb Sk D∨w.heap.size≤g:=by
 refine entH tab_ok (hold_g hb h hg) [.p 0 0,.a [.i .i64 sk,.i .i64 sa,.i .i64 sb,.v (.slice dA dn dc)]] Tryz.func74 Tryz.ntmps74 rfl rfl ?_
 repeat' (first | refine gs_ ?_|((conv=>whnf); first | intro b | refine And.intro ?_ ?_|refine callH (f:=58) (.v (.pointer (some ⟨x.p.g,0,none⟩))) (fun w hH=>groupT (hH.row 0 _ rfl rfl) (Hold.ob hH (A:=kgO lo x.q x.p x.mb M K Sk D true) 0 rfl) hg) ?_|refine callO (f:=103) (A:=kgO lo x.q x.p x.mb M K Sk D true) 0 (fun _:List Nat=>.i .i64 (Gr.pressR K.G sa sb).2) (fun S'=>kgO lo x.q x.p x.mb M { K with G:=(doR K.G 2 sa sb (sb == 1)).1 } S' D true) (fun w hH hA=>KG.core hA (fun hk=>pressW hk sa sb)) (fun S'=>?_)|refine fin fun w' hH=>⟨S',rfl,Hold.ob hH (A:=kgO lo x.q x.p x.mb M { K with G:=(doR K.G 2 sa sb (sb == 1)).1 } S' D true) 0 rfl,hH.upd,fun g hg=>hH.own _ (List.mem_of_getElem? (i:=0) rfl) rfl g hg⟩|refine fin_s ?_))
theorem loadT (hb:Blk w gq 96 (gwA c x ep)) (h:KG lo x.q x.p x.mb M K Sk D w) (hg:gq∉kgF x.mb Sk D):Calls Tryz.prog 75 #[.pointer (some ⟨gq,0,none⟩),.agg #[.int .i64 sk,.int .i64 sa,.int .i64 sb,.slice dA dn dc]] w fun e w'=>∃ S',e=.returned (.tuple #[.slice none 0 0,.int .i64 (Gr.loadR K.G sa sb).2])∧KG lo x.q x.p x.mb M { K with G:=(doR K.G 3 sa sb (sb == 1)).1 } S' D w'∧Upd (kgF x.mb Sk D) w w'∧∀ g∈kgF x.mb S' D,g∈kgF x.mb Sk D∨w.heap.size≤g:=by
 refine entH tab_ok (hold_g hb h hg) [.p 0 0,.a [.i .i64 sk,.i .i64 sa,.i .i64 sb,.v (.slice dA dn dc)]] Tryz.func75 Tryz.ntmps75 rfl rfl ?_
 repeat' (first | refine gs_ ?_|((conv=>whnf); first | intro b | refine And.intro ?_ ?_|refine callH (f:=58) (.v (.pointer (some ⟨x.p.g,0,none⟩))) (fun w hH=>groupT (hH.row 0 _ rfl rfl) (Hold.ob hH (A:=kgO lo x.q x.p x.mb M K Sk D true) 0 rfl) hg) ?_|refine callO (f:=104) (A:=kgO lo x.q x.p x.mb M K Sk D true) 0 (fun _:List Nat=>.i .i64 (Gr.loadR K.G sa sb).2) (fun S'=>kgO lo x.q x.p x.mb M { K with G:=(doR K.G 3 sa sb (sb == 1)).1 } S' D true) (fun w hH hA=>KG.core hA (fun hk=>loadW2 hk sa sb)) (fun S'=>?_)|refine fin fun w' hH=>⟨S',rfl,Hold.ob hH (A:=kgO lo x.q x.p x.mb M { K with G:=(doR K.G 3 sa sb (sb == 1)).1 } S' D true) 0 rfl,hH.upd,fun g hg=>hH.own _ (List.mem_of_getElem? (i:=0) rfl) rfl g hg⟩|refine fin_s ?_))
theorem curtainT (hb:Blk w gq 96 (gwA c x ep)) (h:KG lo x.q x.p x.mb M K Sk D w) (hg:gq∉kgF x.mb Sk D):Calls Tryz.prog 76 #[.pointer (some ⟨gq,0,none⟩),.agg #[.int .i64 sk,.int .i64 sa,.int .i64 sb,.slice dA dn dc]] w fun e w'=>∃ S',e=.returned (.tuple #[.slice none 0 0,.int .i64 (Gr.curtR K.G sa (sb == 1)).2])∧KG lo x.q x.p x.mb M { K with G:=(doR K.G 4 sa sb (sb == 1)).1 } S' D w'∧Upd (kgF x.mb Sk D) w w'∧∀ g∈kgF x.mb S' D,g∈kgF x.mb Sk D∨w.heap.size≤g:=by
 refine entH tab_ok (hold_g hb h hg) [.p 0 0,.a [.i .i64 sk,.i .i64 sa,.i .i64 sb,.v (.slice dA dn dc)]] Tryz.func76 Tryz.ntmps76 rfl rfl ?_
 repeat' (first | refine gs_ ?_|((conv=>whnf); first | intro b | refine And.intro ?_ ?_|refine callH (f:=58) (.v (.pointer (some ⟨x.p.g,0,none⟩))) (fun w hH=>groupT (hH.row 0 _ rfl rfl) (Hold.ob hH (A:=kgO lo x.q x.p x.mb M K Sk D true) 0 rfl) hg) ?_|refine callO (f:=105) (A:=kgO lo x.q x.p x.mb M K Sk D true) 0 (fun _:List Nat=>.i .i64 (Gr.curtR K.G sa (sb == 1)).2) (fun S'=>kgO lo x.q x.p x.mb M { K with G:=(doR K.G 4 sa sb (sb == 1)).1 } S' D true) (fun w hH hA=>KG.core hA (fun hk=>curtW hk sa sb)) (fun S'=>?_)|refine fin fun w' hH=>⟨S',rfl,Hold.ob hH (A:=kgO lo x.q x.p x.mb M { K with G:=(doR K.G 4 sa sb (sb == 1)).1 } S' D true) 0 rfl,hH.upd,fun g hg=>hH.own _ (List.mem_of_getElem? (i:=0) rfl) rfl g hg⟩|refine fin_s ?_))
theorem faultT (hb:Blk w gq 96 (gwA c x ep)) (h:KG lo x.q x.p x.mb M K Sk D w) (hg:gq∉kgF x.mb Sk D) (hw:K.G.waits.length≤10000):Calls Tryz.prog 77 #[.pointer (some ⟨gq,0,none⟩),.agg #[.int .i64 sk,.int .i64 sa,.int .i64 sb,.slice dA dn dc]] w fun e w'=>∃ S',e=.returned (.tuple #[.slice none 0 0,.int .i64 (Gr.faultR K.G sa (sb == 1)).2])∧KG lo x.q x.p x.mb M { K with G:=(doR K.G 5 sa sb (sb == 1)).1 } S' D w'∧Upd (kgF x.mb Sk D) w w'∧∀ g∈kgF x.mb S' D,g∈kgF x.mb Sk D∨w.heap.size≤g:=by
 refine entH tab_ok (hold_g hb h hg) [.p 0 0,.a [.i .i64 sk,.i .i64 sa,.i .i64 sb,.v (.slice dA dn dc)]] Tryz.func77 Tryz.ntmps77 rfl rfl ?_
 repeat' (first | refine gs_ ?_|((conv=>whnf); first | intro b | refine And.intro ?_ ?_|refine callH (f:=58) (.v (.pointer (some ⟨x.p.g,0,none⟩))) (fun w hH=>groupT (hH.row 0 _ rfl rfl) (Hold.ob hH (A:=kgO lo x.q x.p x.mb M K Sk D true) 0 rfl) hg) ?_|refine callO (f:=106) (A:=kgO lo x.q x.p x.mb M K Sk D true) 0 (fun _:List Nat=>.i .i64 (Gr.faultR K.G sa (sb == 1)).2) (fun S'=>kgO lo x.q x.p x.mb M { K with G:=(doR K.G 5 sa sb (sb == 1)).1 } S' D true) (fun w hH hA=>KG.core hA (fun hk=>faultW hk (by omega) sa sb)) (fun S'=>?_)|refine fin fun w' hH=>⟨S',rfl,Hold.ob hH (A:=kgO lo x.q x.p x.mb M { K with G:=(doR K.G 5 sa sb (sb == 1)).1 } S' D true) 0 rfl,hH.upd,fun g hg=>hH.own _ (List.mem_of_getElem? (i:=0) rfl) rfl g hg⟩|refine fin_s ?_))
end
end Gw
namespace Gw
open Go.RowKit Ba Mem En Go.Proofs.YtepfmfalebmcnaaGreatDoor.Ty Mp
open Co (KV Pt KW Nr NgA toNCg Hold.ob)
open Et (carsO)
set_option maxRecDepth 100000
structure ViewV where
 un:Int
 ds:Int
 mo:Int
 wy:Int
 lo:Int
def viewC (v:ViewV):List Value:=[.int .i64 v.un,.int .i64 v.ds,.int .i64 v.mo,.int .i64 v.wy,.int .i64 v.lo]
def viewE:Ek ViewV:=⟨62,5,viewC,fun _=>rfl,fun a u hu=>by
 simp only [viewC,List.mem_cons,List.mem_nil_iff,or_false] at hu
 rcases hu with rfl | rfl | rfl | rfl | rfl <;> rfl⟩
def viewOf (x:CarV):ViewV:=⟨x.un,x.ds,if x.br=true then 2 else x.mo,x.wy,x.lo⟩
def epochV (V:Int→Option SeV) (i:Int):Int:=match V i with | none=>0 | some v=>v.k.ep
attribute [local irreducible] Go.Calls
section
variable {lo gq M:Nat} {c:CfgV} {x:Gp} {ep i:Int} {K:KV} {Sk:List Nat} {D:Fam} {w:World}
theorem epochT (hb:Blk w gq 96 (gwA c x ep)) (h:KG lo x.q x.p x.mb M K Sk D w) (hg:gq∉kgF x.mb Sk D) (hi:(Lit.int .i64 i).wf=true):Calls Tryz.prog 23 #[.pointer (some ⟨gq,0,none⟩),.int .i64 i] w fun e w'=>e=.returned (.int .i64 (epochV (vals D) i))∧Since w w':=by
 unfold epochV
 cases hd:D i with
 | none =>
  have hp:ptrs D i=none:=by unfold ptrs; rw [hd]; rfl
  have hv:vals D i=none:=by unfold vals; rw [hd]; rfl
  rw [hv]
  refine entH tab_ok (hold_gr hb h hg) [.p 0 0,.i .i64 i] Tryz.func23 Tryz.ntmps23 rfl rfl ?_
  repeat' (first | refine gs_ ?_|((conv=>whnf); first | intro b | refine oplk (b:=x.mb) (n:=M) (m:=ptrs D) (k:=3) (e:=100) 0 (.pointer none) (.v (.pointer none)) (by rfl) (by rfl) (by rfl) (by rfl) (fun w h=>kg_mp h) (by kernel_rfl) (by kernel_rfl) (fun w=>rfl) hi (by rw [hp]; rfl) ?_|refine fin_s ?_))
  all_goals rfl
 | some d =>
  have hp:ptrs D i=some (.pointer (some ⟨d.b,0,none⟩)):=by unfold ptrs; rw [hd]; rfl
  have hv:vals D i=some d.v:=by unfold vals; rw [hd]; rfl
  rw [hv]
  refine entH tab_ok (hold_gr hb h hg) [.p 0 0,.i .i64 i] Tryz.func23 Tryz.ntmps23 rfl rfl ?_
  repeat' (first | refine gs_ ?_|((conv=>whnf); first | intro b | refine oplk (b:=x.mb) (n:=M) (m:=ptrs D) (k:=3) (e:=100) 0 (.pointer none) (.v (.pointer (some ⟨d.b,0,none⟩))) (by rfl) (by rfl) (by rfl) (by rfl) (fun w h=>kg_mp h) (by kernel_rfl) (by kernel_rfl) (fun w=>rfl) hi (by rw [hp]; rfl) ?_|refine opnv (by rfl) (by rfl) ?_|refine punv (by rfl) (by rfl) ?_|refine opfv ⟨tab_ok⟩ (by rfl) (by rfl) (by rfl) (by rfl) ?_|refine pufv ⟨tab_ok⟩ (by rfl) (by rfl) (by rfl) (by rfl) ?_|refine opxc (g:=d.b) (off:=0+0) (.v (.pointer (some ⟨d.q,0,none⟩))) (fun w hH=>(Hold.ob hH (A:=kgO lo x.q x.p x.mb M K Sk D false) 0 rfl).f.cell hd) ⟨tab_ok⟩ (by rfl) (by rfl) (by show Addr.add ⟨d.b,0,none⟩ 0=_; rw [Go.WideShapes.add_plain]) ?_|refine callH (f:=52) (.i .i64 d.v.k.ep) (fun w hH=>by obtain ⟨A1,c1,B1⟩:=(Hold.ob hH (A:=kgO lo x.q x.p x.mb M K Sk D false) 0 rfl).f.look hd; exact Ln.epochT B1) ?_|refine fin_s ?_))
  all_goals rfl
set_option maxHeartbeats 2000000 in
theorem viewsT (hb:Blk w gq 96 (gwA c x ep)) (h:KG lo x.q x.p x.mb M K Sk D w) (hg:gq∉kgF x.mb Sk D) (h0:0 < K.G.cars.length) (h1:K.G.cars.length≤10000):Calls Tryz.prog 32 #[.pointer (some ⟨gq,0,none⟩)] w fun e w'=>∃ A' c',e=.returned (.slice A' K.G.cars.length c')∧viewE.At w.heap.size A' K.G.cars.length c' (K.G.cars.map viewOf) w'∧Since w w':=by
 refine entH tab_ok (Hold.addObj (hold_gr hb h hg) (rwO viewE w.heap.size none 0 0 [] true) (Ek.nil _ _ _) (by intro _ g hg; cases hg) (by intro r _ _ hg; cases hg) (by intro A hA _ g hg hg2; cases hg2)) [.p 0 0] Tryz.func32 Tryz.ntmps32 rfl rfl ?_
 repeat' (first | refine gs_ ?_|((conv=>whnf); first | intro b | refine b3_ (fun h=>?_) (fun h=>?_)|refine callH (f:=58) (.v (.pointer (some ⟨x.p.g,0,none⟩))) (fun w hH=>groupT (hH.row 0 _ rfl rfl) (Hold.ob hH (A:=kgO lo x.q x.p x.mb M K Sk D false) 0 rfl) hg) ?_|refine callN (f:=59) (ι:=NgA w.heap.size) (fun y=>.v (.slice (some ⟨y.1.2.1,0,none⟩) K.G.cars.length y.1.2.2)) (fun y=>carsO y.1.1 (some ⟨y.1.2.1,0,none⟩) K.G.cars.length y.1.2.2 K.G.cars true) (fun w1 hH=>toNCg h0 (by obtain ⟨S0,_,hbd⟩:=(Hold.ob hH (A:=kgO lo x.q x.p x.mb M K Sk D false) 0 rfl).k.rd; exact hbd.cars h1) hH.upd.size) (fun y=>?_)|refine fin_s ?_))
 conv=>whnf
 refine lp ⟨tab_ok⟩ (ι:={v:(Nat×Option Addr×Nat)×List ViewV // v.1.1≤K.G.cars.length∧(K.G.cars.take v.1.1).map viewOf=v.2}) (fun v=>match v with | ⟨((k,A2,c2),vs),_⟩=>⟨[(3,.v (.slice A2 k c2)),(11,.v (.slice (some ⟨y.1.2.1,0,none⟩) K.G.cars.length y.1.2.2)),(12,.i .i64 K.G.cars.length),(13,.i .i64 (k:Int))],[⟨gq,96,true,0,[],gwS c x ep,[],false⟩],[kgO lo x.q x.p x.mb M K Sk D false,rwO viewE w.heap.size A2 k c2 vs true,carsO y.1.1 (some ⟨y.1.2.1,0,none⟩) K.G.cars.length y.1.2.2 K.G.cars true]⟩) (fun v=>K.G.cars.length - v.1.1.1) ⟨((0,none,0),[]),Nat.zero_le _,rfl⟩ (wk ?_) ?_
 ·repeat' (first | exact trivial | rfl | ((conv=>whnf); refine And.intro ?_ ?_))
 rintro ⟨⟨⟨k,A2,c2⟩,vs⟩,hk,he⟩
 have hk:k≤K.G.cars.length:=hk
 have he:(K.G.cars.take k).map viewOf=vs:=he
 by_cases hlt:k < K.G.cars.length
 ·obtain ⟨z,hz⟩:∃ z,K.G.cars[k]?=some z:=⟨_,List.getElem?_eq_getElem hlt⟩
  have he2:(K.G.cars.take (k+1)).map viewOf=vs++[viewOf z]:=by
   obtain ⟨hkl,rfl⟩:=List.getElem?_eq_some_iff.1 hz
   rw [List.take_succ_eq_append_getElem hkl,List.map_append,← he]; rfl
  cases hbr:z.br with
  | true =>
   have hvw:viewOf z=⟨z.un,z.ds,2,z.wy,z.lo⟩:=by unfold viewOf; rw [hbr]; rfl
   rw [hvw] at he2
   repeat' (first | refine gs_ ?_|((conv=>whnf); first | intro b | refine bto ?_|refine bfo ?_|refine wr_i ?_|refine br_t (by exact hbr) ?_|refine opiv ⟨tab_ok⟩ (by rfl) (by rfl) (by rfl) (by rfl) (by rfl) (by rfl) ⟨by omega,by omega⟩ ?_|refine opix (g:=y.1.2.1) (off:=0+k*15) (sCar z) (fun w hH=>Et.car_at (Hold.ob hH (A:=carsO y.1.1 (some ⟨y.1.2.1,0,none⟩) K.G.cars.length y.1.2.2 K.G.cars true) 2 rfl) hz) ⟨tab_ok⟩ (by rfl) (by rfl) (by show Addr.add ⟨y.1.2.1,0,none⟩ (k*15)=_; rw [Go.WideShapes.add_plain]) ?_|refine opb1 (e:=62) ⟨tab_ok⟩ [.i .i64 z.un,.i .i64 z.ds,.i .i64 2,.i .i64 z.wy,.i .i64 z.lo] (by rfl) (by rfl) ?_|refine opap 1 3 (e:=62) (lo:=w.heap.size) (size:=5) (bytes:=40) (z:=.agg #[.int .i64 0,.int .i64 0,.int .i64 0,.int .i64 0,.int .i64 0]) (A:=rwO viewE w.heap.size A2 k c2 vs true) (vals:=rowsOf viewC vs) (cells:=viewC ⟨z.un,z.ds,2,z.wy,z.lo⟩) (zs:=rowsOf viewC (vs++[(⟨z.un,z.ds,2,z.wy,z.lo⟩:ViewV)])) (n2:=k+1) (fun A' c'=>rwO viewE w.heap.size A' (k+1) c' (vs++[(⟨z.un,z.ds,2,z.wy,z.lo⟩:ViewV)]) true) (by rfl) (by rfl) (by rfl) (by rfl) rfl rfl (fun w h=>h) (fun A' c' w h=>h) (fun _ _=>rfl) (by rfl) (by rfl) (by rfl) (by rfl) Tryz.underlying58 (by kernel_rfl) rfl (by decide) (by decide) (viewE.one _) (by omega) (fun w hH=>hH.upd.size) rfl (by rw [rowsOf_append,rowsOf_one]) (fun A' c'=>?_)|refine En.back ⟨((k+1,A',c'),vs++[(⟨z.un,z.ds,2,z.wy,z.lo⟩:ViewV)]),by show k+1≤_; omega,he2⟩ (wk ?_) ?_|refine fin_s ?_))
   all_goals first | (show K.G.cars.length - (k+1) < K.G.cars.length - k; omega)|skip
   all_goals (repeat' (first | exact trivial | rfl | ((conv=>whnf); refine And.intro ?_ ?_)))
  | false =>
   have hvw:viewOf z=⟨z.un,z.ds,z.mo,z.wy,z.lo⟩:=by unfold viewOf; rw [hbr]; rfl
   rw [hvw] at he2
   repeat' (first | refine gs_ ?_|((conv=>whnf); first | intro b | refine bto ?_|refine bfo ?_|refine wr_i ?_|refine br_f (by exact hbr) ?_|refine opiv ⟨tab_ok⟩ (by rfl) (by rfl) (by rfl) (by rfl) (by rfl) (by rfl) ⟨by omega,by omega⟩ ?_|refine opix (g:=y.1.2.1) (off:=0+k*15) (sCar z) (fun w hH=>Et.car_at (Hold.ob hH (A:=carsO y.1.1 (some ⟨y.1.2.1,0,none⟩) K.G.cars.length y.1.2.2 K.G.cars true) 2 rfl) hz) ⟨tab_ok⟩ (by rfl) (by rfl) (by show Addr.add ⟨y.1.2.1,0,none⟩ (k*15)=_; rw [Go.WideShapes.add_plain]) ?_|refine opb1 (e:=62) ⟨tab_ok⟩ [.i .i64 z.un,.i .i64 z.ds,.i .i64 z.mo,.i .i64 z.wy,.i .i64 z.lo] (by rfl) (by rfl) ?_|refine opap 1 3 (e:=62) (lo:=w.heap.size) (size:=5) (bytes:=40) (z:=.agg #[.int .i64 0,.int .i64 0,.int .i64 0,.int .i64 0,.int .i64 0]) (A:=rwO viewE w.heap.size A2 k c2 vs true) (vals:=rowsOf viewC vs) (cells:=viewC ⟨z.un,z.ds,z.mo,z.wy,z.lo⟩) (zs:=rowsOf viewC (vs++[(⟨z.un,z.ds,z.mo,z.wy,z.lo⟩:ViewV)])) (n2:=k+1) (fun A' c'=>rwO viewE w.heap.size A' (k+1) c' (vs++[(⟨z.un,z.ds,z.mo,z.wy,z.lo⟩:ViewV)]) true) (by rfl) (by rfl) (by rfl) (by rfl) rfl rfl (fun w h=>h) (fun A' c' w h=>h) (fun _ _=>rfl) (by rfl) (by rfl) (by rfl) (by rfl) Tryz.underlying58 (by kernel_rfl) rfl (by decide) (by decide) (viewE.one _) (by omega) (fun w hH=>hH.upd.size) rfl (by rw [rowsOf_append,rowsOf_one]) (fun A' c'=>?_)|refine En.back ⟨((k+1,A',c'),vs++[(⟨z.un,z.ds,z.mo,z.wy,z.lo⟩:ViewV)]),by show k+1≤_; omega,he2⟩ (wk ?_) ?_|refine fin_s ?_))
   all_goals first | (show K.G.cars.length - (k+1) < K.G.cars.length - k; omega)|skip
   all_goals (repeat' (first | exact trivial | rfl | ((conv=>whnf); refine And.intro ?_ ?_)))
 ·obtain rfl:k=K.G.cars.length:=by omega
  repeat' (first | refine gs_ ?_|((conv=>whnf); first | intro b | refine bto ?_|refine bfo ?_|refine wr_i ?_|refine fin fun w' hH=>?_|refine fin_s ?_))
  rw [List.take_length] at he
  rw [he]
  exact ⟨A2,c2,rfl,Hold.ob hH (A:=rwO viewE w.heap.size A2 K.G.cars.length c2 vs true) 1 rfl,hH.upd.since⟩
end
end Gw
namespace En
open Go.RowKit Ba Mem Mp
theorem wp_mapins {P:Program} {k e:TypeId} {w:World} {b n:Nat} {m:Int→Option Value} {o:Oper} {a:Act} {K:Act→World→Prop} {Q:Exit→Act→World→Prop} (mm x v:Operand) (ty:TypeId) (ho:o.op=.insert ty mm x v) (hk:P.underlying k=some (.int .i64)) (ht:P.underlying ty=some (.map k e)) (h:MapF P k w b n m) (hn:n < 1000000) (hm:a.eval mm=.map (some b)) {i:Int} (hx:a.eval x=.int .i64 i) (hw:(Lit.int .i64 i).wf=true) {u:Value} (hv:a.eval v=u)
  (hK:∀ w',MapF P k w' b (n+1) (Mp.setK m i (some u))→Upd [b] w w'→K (a.put o.dst undef) w'):o.wp P a w K Q:=by
 obtain ⟨D,h1,h2,h3⟩:=h
 obtain ⟨w',hrun,r1,r2⟩:=h1.update (Go.Maps.int_keyed hk) ht (by unfold maxLen; omega) (Go.Maps.keyOf_int_mk hk hw) (val:=u) (d:=.held u) (ps:=[]) rfl
 unfold Oper.wp
 simp [execOp,ho,hm,hx,hv,hrun,Result.andThen]
 refine hK w' ⟨D.put (.int .i64 i) (.held u),r1,h2.put _ _,fun y hy z=>?_⟩ (grown_upd r2)
 unfold Mp.setK
 by_cases e:y=i
 ·subst e; rw [if_pos rfl,Go.Maps.atKey_put_same h2 (key_lit y)]
 ·rw [if_neg e,Go.Maps.atKey_put_other (ne_lit e),h3 y hy z]
section
variable {X:Cx} {s:St} {o:Oper} {K:St→Prop} {A:Asr} {ty k e:TypeId} {mm x y:Operand} {b n:Nat} {m:Int→Option Value} {I:Int}
theorem opin (i:Nat) {u:Value} (B:Asr) (ho:o.op=.insert ty mm x y) (hm:evO mm s.fr=some (.v (.map (some b)))) (hx:evO x s.fr=some (.i .i64 I)) (hy:∀ a:Act,a.eval y=u) (hA:s.ob[i]?=some A) (hrw:A.rw=true) (hM:∀ w,A.st w→MapF X.P k w b n m) (hbF:b∈A.F)
  (hB:∀ w w',Hold X s.m s.ob w→A.st w→MapF X.P k w' b (n+1) (Mp.setK m I (some u))→Upd [b] w w'→B.st w') (hF:∀ g∈B.F,g∈A.F)
  (hk:X.P.underlying k=some (.int .i64)) (ht:X.P.underlying ty=some (.map k e)) (hw:(Lit.int .i64 I).wf=true) (hn:n < 1000000) (h:setO i B s.ob fun ob=>put X.n o.dst (.v undef) ⟨s.fr,s.m,ob⟩ K):OpVC X o s K:=⟨fun a w Q hR=>by
 have hst:=hR.h.obj A (List.mem_of_getElem? hA)
 refine wp_mapins mm x y ty ho hk ht (hM w hst) hn (by rw [(evO_of hR.fr hm).2]; rfl) (by rw [(evO_of hR.fr hx).2]; rfl) hw (u:=u) (hy a) (fun w' hmap hupd=>?_)
 have hH:=hR.h.obj_set hA hrw (hB w w' hR.h hst hmap hupd) (hupd.mono (fun g hg _=>by rw [List.mem_singleton] at hg; subst hg; exact hbF)) (fun g hg=>.inl (hF g hg))
 obtain ⟨s',r1,r2,r3,r4⟩:=put_of (a:=a) (s:=⟨s.fr,s.m,s.ob.set i B⟩) (v:=.v undef) hR.ds hR.sz hR.fr hH rfl (setO_of h)
 exact ⟨s',r1,by rw [r2]; exact Ext.refl _,r4⟩⟩
end
end En
namespace Gw
open Go.RowKit Ba Mem En Go.Proofs.YtepfmfalebmcnaaGreatDoor.Ty Mp
open Co (KV Pt KW newK newW kO BD Hold.ob)
open Fq (SO)
set_option maxRecDepth 100000
def mtab (l:List (Int×Nat)):Int→Option Value:=l.foldl (fun m p=>Mp.setK m p.1 (some (.func (.func p.2) #[] #[]))) (fun _=>none)
def kindL:List (Int×Nat):=[(1,71),(2,72),(3,73),(4,74),(5,75),(6,76),(7,77),(8,78)]
attribute [local irreducible] Go.Calls
theorem kw_base {lo q:Nat} {p:Pt} {K:KV} {S:List Nat} {w:World} (h:KW lo q p K S w):KW 0 q p K S w:=by
 obtain ⟨_,S0,rfl,B,D⟩:=h
 exact ⟨Nat.zero_le _,S0,rfl,B,BD.base D (Nat.zero_le _)⟩
theorem newFin {c:CfgV} {w w':World} {nt bs gq q mb i j:Nat} {p:Pt} {Sk:List Nat} {m:List Row} {ob:List Asr} (hH:Hold ⟨Tryz.prog,tab,[],w,nt,[]⟩ m ob w') (h1:m[1]?=some ⟨bs,93,true,0,[],[.v (.slice none 0 0),.i .i64 0],[],true⟩) {cs2:List SV} (h2:m[2]?=some ⟨gq,96,true,0,[],cs2,[],true⟩) (hc:(denL m cs2).toArray=gwA c ⟨q,p,bs,mb⟩ 0) (hi:ob[i]?=some (kO 0 q p (newK c) Sk true)) (hj:ob[j]?=some (mpO Tryz.prog 3 mb 0 (fun _=>none) true)) (hij:i≠j) :
  ∃ (gq':Nat) (x:Gp) (Sk:List Nat),Ending.returned (.pointer (some ⟨gq,0,none⟩))=Ending.returned (.pointer (some ⟨gq',0,none⟩))∧Blk w' gq' 96 (gwA c x 0)∧KG 0 x.q x.p x.mb 0 (newK c) Sk (fun _=>none) w'∧SO 0 x.s 0 [] [x.s] w'∧Since w w'∧(∀ g∈gq'::(kgF x.mb Sk (fun _=>none)++[x.s]),w.heap.size≤g)∧gq'∉kgF x.mb Sk (fun _=>none)∧gq'∉[x.s]∧∀ g∈kgF x.mb Sk (fun _=>none),g∉[x.s]:=by
 have mi:=List.mem_of_getElem? hi
 have mj:=List.mem_of_getElem? hj
 have r1:=hH.row 1 _ h1 rfl
 rw [rowA_nil rfl rfl] at r1
 have r2:=hH.row 2 _ h2 rfl
 rw [rowA_nil rfl rfl,hc] at r2
 have f1:bs∈([]:List Nat)∨w.heap.size≤bs:=(hH.wf 1 _ h1 rfl).2.2 rfl
 have f2:gq∈([]:List Nat)∨w.heap.size≤gq:=(hH.wf 2 _ h2 rfl).2.2 rfl
 have hne:gq≠bs:=hH.ne 2 1 _ _ h2 h1 rfl rfl (by decide)
 have fam0:famS (fun _=>none)=[]:=by unfold famS; simp
 have hF:kgF mb Sk (fun _=>none)=Sk++[mb]:=by unfold kgF; rw [fam0]
 have dis:DisR (kO 0 q p (newK c) Sk true) (mpO Tryz.prog 3 mb 0 (fun _=>none) true):=pair_at (R:=DisR) (fun _ _ h=>h.symm) hH.dis hi hj hij
 have kF:∀ g∈Sk,g∉mb::famS (fun _=>none):=fun g hg=>by rw [fam0]; exact dis (.inl rfl) g hg
 have low:∀ g∈Sk,w.heap.size≤g:=fun g hg=>(hH.own _ mi rfl g hg).resolve_left (by simp)
 have lowm:w.heap.size≤mb:=(hH.own _ mj rfl mb (List.mem_singleton.2 rfl)).resolve_left (by simp)
 refine ⟨gq,⟨q,p,bs,mb⟩,Sk,rfl,r2,⟨hH.obj _ mi,⟨Nat.zero_le _,hH.obj _ mj,fun i d h=>(by cases h),fun i j d e h=>(by cases h),fun i d h=>(by cases h)⟩,kF⟩,Fq.SO.new r1 (Nat.zero_le _),hH.upd.since,fun g hg=>?_,fun hm=>?_,fun hm=>hne (List.mem_singleton.1 hm),fun g hg hgs=>?_⟩
 ·rcases List.mem_cons.1 hg with rfl | hg
  ·exact f2.resolve_left (by simp)
  ·rw [hF] at hg
   rcases List.mem_append.1 hg with hg | hg
   ·rcases List.mem_append.1 hg with hg | hg
    ·exact low g hg
    ·rw [List.mem_singleton.1 hg]; exact lowm
   ·rw [List.mem_singleton.1 hg]; exact f1.resolve_left (by simp)
 ·rw [hF] at hm
  rcases List.mem_append.1 hm with hm | hm
  ·exact hH.far _ mi 2 _ h2 rfl hm
  ·exact hH.far _ mj 2 _ h2 rfl hm
 ·rw [hF] at hg
  rw [List.mem_singleton.1 hgs] at hg
  rcases List.mem_append.1 hg with hg | hg
  ·exact hH.far _ mi 1 _ h1 rfl hg
  ·exact hH.far _ mj 1 _ h1 rfl hg
theorem newG (c:CfgV) (w:World):Calls Tryz.prog 21 #[(aCfg c)] w fun e w'=>∃ (gq:Nat) (x:Gp) (Sk:List Nat),e=.returned (.pointer (some ⟨gq,0,none⟩))∧Blk w' gq 96 (gwA c x 0)∧KG 0 x.q x.p x.mb 0 (newK c) Sk (fun _=>none) w'∧SO 0 x.s 0 [] [x.s] w'∧Since w w'∧(∀ g∈gq::(kgF x.mb Sk (fun _=>none)++[x.s]),w.heap.size≤g)∧gq∉kgF x.mb Sk (fun _=>none)∧gq∉[x.s]∧∀ g∈kgF x.mb Sk (fun _=>none),g∉[x.s]:=by
 refine ent tab_ok [.a (sCfg c)] Tryz.func21 Tryz.ntmps21 rfl rfl ?_
 repeat' (first | refine gs_ ?_|((conv=>whnf); first | intro b | refine And.intro ?_ ?_|refine callN (f:=50) (ι:=Nat×Pt×List Nat) (fun y=>.v (.pointer (some ⟨y.1,0,none⟩))) (fun y=>kO 0 y.1 y.2.1 (newK c) y.2.2 true) (fun w1 hH=>(newW c w1).mono (by rintro e w' ⟨q,p,S,rfl,h1,h2⟩; exact ⟨(q,p,S),rfl,kw_base h1,h2,h1.low⟩)) (fun y=>?_)|refine opmk 3 (by rfl) (fun mb=>?_)|refine fin fun w' hH=>newFin (i:=0) (j:=1) hH rfl rfl rfl rfl rfl (by decide)|refine fin fun w' hH=>newFin (i:=1) (j:=0) hH rfl rfl rfl rfl rfl (by decide)|refine fin_s ?_))
theorem kindsT (w:World):Calls Tryz.prog 53 #[] w fun e w'=>∃ b:Nat,e=.returned (.map (some b))∧MapF Tryz.prog 3 w' b 8 (mtab kindL)∧Since w w'∧w.heap.size≤b:=by
 refine ent tab_ok [] Tryz.func53 Tryz.ntmps53 rfl rfl ?_
 repeat' (first | refine gs_ ?_|((conv=>whnf); first | intro b | refine opmk 3 (by rfl) (fun mb=>?_)|refine opin (b:=mb) (n:=0) (A:=mpO Tryz.prog 3 mb 0 (fun _=>none) true) (m:=mtab (kindL.take 0)) (I:=1) (k:=3) (e:=104) 0 (u:=.func (.func 71) #[] #[]) (mpO Tryz.prog 3 mb 1 (mtab (kindL.take 1)) true) (by rfl) (by rfl) (by rfl) (fun _=>rfl) (by rfl) rfl (fun w h=>h) (List.mem_singleton.2 rfl) (fun w w' _ h hm u=>hm) (fun g hg=>hg) (by kernel_rfl) (by kernel_rfl) (wf_small (by decide)) (by decide) ?_|refine opin (b:=mb) (n:=1) (A:=mpO Tryz.prog 3 mb 1 (mtab (kindL.take 1)) true) (m:=mtab (kindL.take 1)) (I:=2) (k:=3) (e:=104) 0 (u:=.func (.func 72) #[] #[]) (mpO Tryz.prog 3 mb 2 (mtab (kindL.take 2)) true) (by rfl) (by rfl) (by rfl) (fun _=>rfl) (by rfl) rfl (fun w h=>h) (List.mem_singleton.2 rfl) (fun w w' _ h hm u=>hm) (fun g hg=>hg) (by kernel_rfl) (by kernel_rfl) (wf_small (by decide)) (by decide) ?_|refine opin (b:=mb) (n:=2) (A:=mpO Tryz.prog 3 mb 2 (mtab (kindL.take 2)) true) (m:=mtab (kindL.take 2)) (I:=3) (k:=3) (e:=104) 0 (u:=.func (.func 73) #[] #[]) (mpO Tryz.prog 3 mb 3 (mtab (kindL.take 3)) true) (by rfl) (by rfl) (by rfl) (fun _=>rfl) (by rfl) rfl (fun w h=>h) (List.mem_singleton.2 rfl) (fun w w' _ h hm u=>hm) (fun g hg=>hg) (by kernel_rfl) (by kernel_rfl) (wf_small (by decide)) (by decide) ?_|refine opin (b:=mb) (n:=3) (A:=mpO Tryz.prog 3 mb 3 (mtab (kindL.take 3)) true) (m:=mtab (kindL.take 3)) (I:=4) (k:=3) (e:=104) 0 (u:=.func (.func 74) #[] #[]) (mpO Tryz.prog 3 mb 4 (mtab (kindL.take 4)) true) (by rfl) (by rfl) (by rfl) (fun _=>rfl) (by rfl) rfl (fun w h=>h) (List.mem_singleton.2 rfl) (fun w w' _ h hm u=>hm) (fun g hg=>hg) (by kernel_rfl) (by kernel_rfl) (wf_small (by decide)) (by decide) ?_|refine opin (b:=mb) (n:=4) (A:=mpO Tryz.prog 3 mb 4 (mtab (kindL.take 4)) true) (m:=mtab (kindL.take 4)) (I:=5) (k:=3) (e:=104) 0 (u:=.func (.func 75) #[] #[]) (mpO Tryz.prog 3 mb 5 (mtab (kindL.take 5)) true) (by rfl) (by rfl) (by rfl) (fun _=>rfl) (by rfl) rfl (fun w h=>h) (List.mem_singleton.2 rfl) (fun w w' _ h hm u=>hm) (fun g hg=>hg) (by kernel_rfl) (by kernel_rfl) (wf_small (by decide)) (by decide) ?_|refine opin (b:=mb) (n:=5) (A:=mpO Tryz.prog 3 mb 5 (mtab (kindL.take 5)) true) (m:=mtab (kindL.take 5)) (I:=6) (k:=3) (e:=104) 0 (u:=.func (.func 76) #[] #[]) (mpO Tryz.prog 3 mb 6 (mtab (kindL.take 6)) true) (by rfl) (by rfl) (by rfl) (fun _=>rfl) (by rfl) rfl (fun w h=>h) (List.mem_singleton.2 rfl) (fun w w' _ h hm u=>hm) (fun g hg=>hg) (by kernel_rfl) (by kernel_rfl) (wf_small (by decide)) (by decide) ?_|refine opin (b:=mb) (n:=6) (A:=mpO Tryz.prog 3 mb 6 (mtab (kindL.take 6)) true) (m:=mtab (kindL.take 6)) (I:=7) (k:=3) (e:=104) 0 (u:=.func (.func 77) #[] #[]) (mpO Tryz.prog 3 mb 7 (mtab (kindL.take 7)) true) (by rfl) (by rfl) (by rfl) (fun _=>rfl) (by rfl) rfl (fun w h=>h) (List.mem_singleton.2 rfl) (fun w w' _ h hm u=>hm) (fun g hg=>hg) (by kernel_rfl) (by kernel_rfl) (wf_small (by decide)) (by decide) ?_|refine opin (b:=mb) (n:=7) (A:=mpO Tryz.prog 3 mb 7 (mtab (kindL.take 7)) true) (m:=mtab (kindL.take 7)) (I:=8) (k:=3) (e:=104) 0 (u:=.func (.func 78) #[] #[]) (mpO Tryz.prog 3 mb 8 (mtab (kindL.take 8)) true) (by rfl) (by rfl) (by rfl) (fun _=>rfl) (by rfl) rfl (fun w h=>h) (List.mem_singleton.2 rfl) (fun w w' _ h hm u=>hm) (fun g hg=>hg) (by kernel_rfl) (by kernel_rfl) (wf_small (by decide)) (by decide) ?_|refine fin fun w' hH=>⟨mb,rfl,Hold.ob hH (A:=mpO Tryz.prog 3 mb 8 (mtab kindL) true) 0 rfl,hH.upd.since,(hH.own _ (List.mem_of_getElem? (i:=0) rfl) rfl mb (List.mem_singleton.2 rfl)).resolve_left (by simp)⟩|refine fin_s ?_))
end Gw
namespace Gw
open Go.RowKit Ba Mem En Go.Proofs.YtepfmfalebmcnaaGreatDoor.Ty Mp
open Fm (nextF frames frm)
open Fq (SO)
open Byt (BV isB)
open Co (KV Pt KW newK Hold.ob)
open Gr (doR)
set_option maxRecDepth 100000
structure GWt (gq:Nat) (c:CfgV) (x:Gp) (M N:Nat) (K:KV) (ep:Int) (xs:List Int) (Sk:List Nat) (D:Fam) (Ss:List Nat) (w:World):Prop where
 b:Blk w gq 96 (gwA c x ep)
 k:KG 0 x.q x.p x.mb M K Sk D w
 s:SO 0 x.s N xs Ss w
 g1:gq∉kgF x.mb Sk D
 g2:gq∉Ss
 d:∀ g∈kgF x.mb Sk D,g∉Ss
def gwF (gq:Nat) (x:Gp) (Sk:List Nat) (D:Fam) (Ss:List Nat):List Nat:=gq::(kgF x.mb Sk D++Ss)
section
variable {gq M N:Nat} {c:CfgV} {x:Gp} {ep sk sa sb:Int} {K K':KV} {xs:List Int} {Sk Sk' Ss T:List Nat} {D D':Fam} {w w':World} {dA:Option Addr} {dn dc:Nat}
theorem GWt.upd (u:Upd T w w') (h:GWt gq c x M N K ep xs Sk D Ss w) (hT:∀ g∈gwF gq x Sk D Ss,g∉T):GWt gq c x M N K ep xs Sk D Ss w' :=
 ⟨u.blk h.b (hT _ (List.mem_cons_self ..)),h.k.upd u (fun g hg=>hT g (List.mem_cons_of_mem _ (List.mem_append.2 (.inl hg)))),h.s.upd u (fun g hg=>hT g (List.mem_cons_of_mem _ (List.mem_append.2 (.inr hg)))),h.g1,h.g2,h.d⟩
theorem GWt.lt (h:GWt gq c x M N K ep xs Sk D Ss w):∀ g∈gwF gq x Sk D Ss,g < w.heap.size:=by
 intro g hg
 rcases List.mem_cons.1 hg with rfl | hg
 ·exact h.b.lt
 rcases List.mem_append.1 hg with hg | hg
 ·exact h.k.lt g hg
 ·exact h.s.lt g hg
theorem GWt.kg (h:GWt gq c x M N K ep xs Sk D Ss w) (hk:KG 0 x.q x.p x.mb M K' Sk' D' w') (u:Upd (kgF x.mb Sk D) w w') (hF:∀ g∈kgF x.mb Sk' D',g∈kgF x.mb Sk D∨w.heap.size≤g) :
  GWt gq c x M N K' ep xs Sk' D' Ss w'∧Upd (gwF gq x Sk D Ss) w w'∧∀ g∈gwF gq x Sk' D' Ss,g∈gwF gq x Sk D Ss∨w.heap.size≤g:=by
 have far:∀ g,g < w.heap.size→g∉kgF x.mb Sk D→g∉kgF x.mb Sk' D':=fun g hlt hg hm=>(hF g hm).elim hg (fun h=>by omega)
 refine ⟨⟨u.blk h.b h.g1,hk,h.s.upd u (fun g hg hgk=>h.d g hgk hg),far gq h.b.lt h.g1,h.g2,fun g hg hgs=>far g (h.s.lt g hgs) (fun hk=>h.d g hk hgs) hg⟩,u.mono (fun g hg _=>List.mem_cons_of_mem _ (List.mem_append.2 (.inl hg))),fun g hg=>?_⟩
 rcases List.mem_cons.1 hg with rfl | hg
 ·exact .inl (List.mem_cons_self ..)
 rcases List.mem_append.1 hg with hg | hg
 ·exact (hF g hg).imp (fun hg=>List.mem_cons_of_mem _ (List.mem_append.2 (.inl hg))) id
 ·exact .inl (List.mem_cons_of_mem _ (List.mem_append.2 (.inr hg)))
end
def gwO (gq:Nat) (c:CfgV) (x:Gp) (M N:Nat) (K:KV) (ep:Int) (xs:List Int) (Sk:List Nat) (D:Fam) (Ss:List Nat) (rw:Bool):Asr:=⟨gwF gq x Sk D Ss,rw,GWt gq c x M N K ep xs Sk D Ss,fun u hd h=>h.upd u hd,fun h=>h.lt⟩
theorem hold_w {gq M N nt:Nat} {c:CfgV} {x:Gp} {ep:Int} {K:KV} {xs:List Int} {Sk Ss:List Nat} {D:Fam} {w:World} (h:GWt gq c x M N K ep xs Sk D Ss w):Hold ⟨Tryz.prog,tab,gwF gq x Sk D Ss,w,nt,[]⟩ [] [gwO gq c x M N K ep xs Sk D Ss true] w :=
 Hold.addObj (Hold.nil _ tab _ _ w) (gwO gq c x M N K ep xs Sk D Ss true) h (fun _ g hg=>.inl hg) (by intro r hr; cases hr) (by intro A hA; cases hA)
theorem kind_no {sk:Int} (h:¬ (1≤sk∧sk≤8)):mtab kindL sk=none:=by
 unfold mtab kindL
 simp only [List.foldl_cons,List.foldl_nil,Mp.setK]
 rw [if_neg (by omega),if_neg (by omega),if_neg (by omega),if_neg (by omega),if_neg (by omega),if_neg (by omega),if_neg (by omega),if_neg (by omega)]
attribute [local irreducible] Go.Calls
section
variable {gq M N:Nat} {c:CfgV} {x:Gp} {ep sk sa sb:Int} {K K':KV} {xs:List Int} {Sk Sk' Ss T:List Nat} {D D':Fam} {w w':World} {dA:Option Addr} {dn dc:Nat}
theorem doNo (h:GWt gq c x M N K ep xs Sk D Ss w) (hk:(Lit.int .i64 sk).wf=true) (hn:¬ (1≤sk∧sk≤8)) :
  Calls Tryz.prog 24 #[.pointer (some ⟨gq,0,none⟩),.agg #[.int .i64 sk,.int .i64 sa,.int .i64 sb,.slice dA dn dc]] w fun e w'=>e=.returned (.tuple #[.slice none 0 0,.int .i64 1])∧Since w w':=by
 have hm:=kind_no hn
 refine ent tab_ok [.v (.pointer (some ⟨gq,0,none⟩)),.a [.i .i64 sk,.i .i64 sa,.i .i64 sb,.v (.slice dA dn dc)]] Tryz.func24 Tryz.ntmps24 rfl rfl ?_
 repeat' (first | refine gs_ ?_|((conv=>whnf); first | intro b0 | refine And.intro ?_ ?_|refine callN (f:=53) (ι:=Nat) (fun b=>.v (.map (some b))) (fun b=>mpO Tryz.prog 3 b 8 (mtab kindL) true) (fun w1 hH=>(kindsT w1).mono (by rintro e w' ⟨b,rfl,h1,h2,h3⟩; exact ⟨b,rfl,h1,h2,fun g hg=>by rw [List.mem_singleton.1 hg]; exact h3⟩)) (fun b=>?_)|refine oplo (b:=b) (n:=8) (m:=mtab kindL) (k:=3) (e:=104) 0 _ (.v _) false (by rfl) (by rfl) (by rfl) (by rfl) (fun w h=>h) (by kernel_rfl) (by kernel_rfl) (fun w=>rfl) hk (by rw [hm]; rfl) (by rw [hm]; rfl) ?_|refine fin_s ?_))
 all_goals rfl
end
end Gw
namespace Gw
open Go.RowKit Ba Mem En Go.Proofs.YtepfmfalebmcnaaGreatDoor.Ty Mp
open Fm (nextF frames frm)
open Fq (SO)
open Byt (BV isB)
open Co (KV Pt KW newK tickK Hold.ob)
open Gr (doR)
set_option maxRecDepth 100000
attribute [local irreducible] Go.Calls
section
variable {gq M N n T:Nat} {c:CfgV} {x:Gp} {ep sa sb:Int} {K K':KV} {xs zs:List Int} {Sk Sk' Ss:List Nat} {D D':Fam} {w w':World} {dA:Option Addr} {dn dc:Nat}
theorem hallX (h:GWt gq c x M N K ep xs Sk D Ss w) (hw:K.G.waits.length≤10000):Calls Tryz.prog 73 #[.pointer (some ⟨gq,0,none⟩),.agg #[.int .i64 3,.int .i64 sa,.int .i64 sb,.slice dA dn dc]] w fun e w'=>∃ S',e=.returned (.tuple #[.slice none 0 0,.int .i64 (Gr.hallR K.G sa sb).2])∧GWt gq c x M N { K with G:=(doR K.G 1 sa sb (sb == 1)).1 } ep xs S' D Ss w'∧Upd (gwF gq x Sk D Ss) w w'∧∀ g∈gwF gq x S' D Ss,g∈gwF gq x Sk D Ss∨w.heap.size≤g :=
 (hallT h.b h.k h.g1 hw).mono (by
  rintro e w' ⟨S',rfl,h1,h2,h3⟩
  obtain ⟨a1,a2,a3⟩:=h.kg h1 h2 h3
  exact ⟨S',rfl,a1,a2,a3⟩)
theorem hallD (h:GWt gq c x M N K ep xs Sk D Ss w) (hw:K.G.waits.length≤10000):Calls Tryz.prog 24 #[.pointer (some ⟨gq,0,none⟩),.agg #[.int .i64 3,.int .i64 sa,.int .i64 sb,.slice dA dn dc]] w fun e w'=>∃ S',e=.returned (.tuple #[.slice none 0 0,.int .i64 (Gr.hallR K.G sa sb).2])∧GWt gq c x M N { K with G:=(doR K.G 1 sa sb (sb == 1)).1 } ep xs S' D Ss w'∧Upd (gwF gq x Sk D Ss) w w'∧∀ g∈gwF gq x S' D Ss,g∈gwF gq x Sk D Ss∨w.heap.size≤g:=by
 refine entH tab_ok (hold_w h) [.v (.pointer (some ⟨gq,0,none⟩)),.a [.i .i64 3,.i .i64 sa,.i .i64 sb,.v (.slice dA dn dc)]] Tryz.func24 Tryz.ntmps24 rfl rfl ?_
 repeat' (first | refine gs_ ?_|((conv=>whnf); first | intro b0 | refine And.intro ?_ ?_|refine callN (f:=53) (ι:=Nat) (fun b=>.v (.map (some b))) (fun b=>mpO Tryz.prog 3 b 8 (mtab kindL) true) (fun w1 hH=>(kindsT w1).mono (by rintro e w' ⟨b,rfl,h1,h2,h3⟩; exact ⟨b,rfl,h1,h2,fun g hg=>by rw [List.mem_singleton.1 hg]; exact h3⟩)) (fun b=>?_)|refine oplo (b:=b) (n:=8) (m:=mtab kindL) (k:=3) (e:=104) 1 _ (.f 73 []) true (by rfl) (by rfl) (by rfl) (by rfl) (fun w h=>h) (by kernel_rfl) (by kernel_rfl) (fun w=>rfl) (wf_small (by decide)) (by rfl) (by rfl) ?_|refine callO (f:=73) (A:=gwO gq c x M N K ep xs Sk D Ss true) 0 (fun _:List Nat=>.t [.v (.slice none 0 0),.i .i64 (Gr.hallR K.G sa sb).2]) (fun S'=>gwO gq c x M N { K with G:=(doR K.G 1 sa sb (sb == 1)).1 } ep xs S' D Ss true) (fun w hH hA=>hallX hA hw) (fun S'=>?_)|refine fin fun w' hH=>⟨S',rfl,Hold.ob hH (A:=gwO gq c x M N { K with G:=(doR K.G 1 sa sb (sb == 1)).1 } ep xs S' D Ss true) 0 rfl,hH.upd,fun g hg=>hH.own _ (List.mem_of_getElem? (i:=0) rfl) rfl g hg⟩|refine fin_s ?_))
theorem pressX (h:GWt gq c x M N K ep xs Sk D Ss w):Calls Tryz.prog 74 #[.pointer (some ⟨gq,0,none⟩),.agg #[.int .i64 4,.int .i64 sa,.int .i64 sb,.slice dA dn dc]] w fun e w'=>∃ S',e=.returned (.tuple #[.slice none 0 0,.int .i64 (Gr.pressR K.G sa sb).2])∧GWt gq c x M N { K with G:=(doR K.G 2 sa sb (sb == 1)).1 } ep xs S' D Ss w'∧Upd (gwF gq x Sk D Ss) w w'∧∀ g∈gwF gq x S' D Ss,g∈gwF gq x Sk D Ss∨w.heap.size≤g :=
 (pressT h.b h.k h.g1).mono (by
  rintro e w' ⟨S',rfl,h1,h2,h3⟩
  obtain ⟨a1,a2,a3⟩:=h.kg h1 h2 h3
  exact ⟨S',rfl,a1,a2,a3⟩)
theorem pressD (h:GWt gq c x M N K ep xs Sk D Ss w):Calls Tryz.prog 24 #[.pointer (some ⟨gq,0,none⟩),.agg #[.int .i64 4,.int .i64 sa,.int .i64 sb,.slice dA dn dc]] w fun e w'=>∃ S',e=.returned (.tuple #[.slice none 0 0,.int .i64 (Gr.pressR K.G sa sb).2])∧GWt gq c x M N { K with G:=(doR K.G 2 sa sb (sb == 1)).1 } ep xs S' D Ss w'∧Upd (gwF gq x Sk D Ss) w w'∧∀ g∈gwF gq x S' D Ss,g∈gwF gq x Sk D Ss∨w.heap.size≤g:=by
 refine entH tab_ok (hold_w h) [.v (.pointer (some ⟨gq,0,none⟩)),.a [.i .i64 4,.i .i64 sa,.i .i64 sb,.v (.slice dA dn dc)]] Tryz.func24 Tryz.ntmps24 rfl rfl ?_
 repeat' (first | refine gs_ ?_|((conv=>whnf); first | intro b0 | refine And.intro ?_ ?_|refine callN (f:=53) (ι:=Nat) (fun b=>.v (.map (some b))) (fun b=>mpO Tryz.prog 3 b 8 (mtab kindL) true) (fun w1 hH=>(kindsT w1).mono (by rintro e w' ⟨b,rfl,h1,h2,h3⟩; exact ⟨b,rfl,h1,h2,fun g hg=>by rw [List.mem_singleton.1 hg]; exact h3⟩)) (fun b=>?_)|refine oplo (b:=b) (n:=8) (m:=mtab kindL) (k:=3) (e:=104) 1 _ (.f 74 []) true (by rfl) (by rfl) (by rfl) (by rfl) (fun w h=>h) (by kernel_rfl) (by kernel_rfl) (fun w=>rfl) (wf_small (by decide)) (by rfl) (by rfl) ?_|refine callO (f:=74) (A:=gwO gq c x M N K ep xs Sk D Ss true) 0 (fun _:List Nat=>.t [.v (.slice none 0 0),.i .i64 (Gr.pressR K.G sa sb).2]) (fun S'=>gwO gq c x M N { K with G:=(doR K.G 2 sa sb (sb == 1)).1 } ep xs S' D Ss true) (fun w hH hA=>pressX hA) (fun S'=>?_)|refine fin fun w' hH=>⟨S',rfl,Hold.ob hH (A:=gwO gq c x M N { K with G:=(doR K.G 2 sa sb (sb == 1)).1 } ep xs S' D Ss true) 0 rfl,hH.upd,fun g hg=>hH.own _ (List.mem_of_getElem? (i:=0) rfl) rfl g hg⟩|refine fin_s ?_))
theorem loadX (h:GWt gq c x M N K ep xs Sk D Ss w):Calls Tryz.prog 75 #[.pointer (some ⟨gq,0,none⟩),.agg #[.int .i64 5,.int .i64 sa,.int .i64 sb,.slice dA dn dc]] w fun e w'=>∃ S',e=.returned (.tuple #[.slice none 0 0,.int .i64 (Gr.loadR K.G sa sb).2])∧GWt gq c x M N { K with G:=(doR K.G 3 sa sb (sb == 1)).1 } ep xs S' D Ss w'∧Upd (gwF gq x Sk D Ss) w w'∧∀ g∈gwF gq x S' D Ss,g∈gwF gq x Sk D Ss∨w.heap.size≤g :=
 (loadT h.b h.k h.g1).mono (by
  rintro e w' ⟨S',rfl,h1,h2,h3⟩
  obtain ⟨a1,a2,a3⟩:=h.kg h1 h2 h3
  exact ⟨S',rfl,a1,a2,a3⟩)
theorem loadD (h:GWt gq c x M N K ep xs Sk D Ss w):Calls Tryz.prog 24 #[.pointer (some ⟨gq,0,none⟩),.agg #[.int .i64 5,.int .i64 sa,.int .i64 sb,.slice dA dn dc]] w fun e w'=>∃ S',e=.returned (.tuple #[.slice none 0 0,.int .i64 (Gr.loadR K.G sa sb).2])∧GWt gq c x M N { K with G:=(doR K.G 3 sa sb (sb == 1)).1 } ep xs S' D Ss w'∧Upd (gwF gq x Sk D Ss) w w'∧∀ g∈gwF gq x S' D Ss,g∈gwF gq x Sk D Ss∨w.heap.size≤g:=by
 refine entH tab_ok (hold_w h) [.v (.pointer (some ⟨gq,0,none⟩)),.a [.i .i64 5,.i .i64 sa,.i .i64 sb,.v (.slice dA dn dc)]] Tryz.func24 Tryz.ntmps24 rfl rfl ?_
 repeat' (first | refine gs_ ?_|((conv=>whnf); first | intro b0 | refine And.intro ?_ ?_|refine callN (f:=53) (ι:=Nat) (fun b=>.v (.map (some b))) (fun b=>mpO Tryz.prog 3 b 8 (mtab kindL) true) (fun w1 hH=>(kindsT w1).mono (by rintro e w' ⟨b,rfl,h1,h2,h3⟩; exact ⟨b,rfl,h1,h2,fun g hg=>by rw [List.mem_singleton.1 hg]; exact h3⟩)) (fun b=>?_)|refine oplo (b:=b) (n:=8) (m:=mtab kindL) (k:=3) (e:=104) 1 _ (.f 75 []) true (by rfl) (by rfl) (by rfl) (by rfl) (fun w h=>h) (by kernel_rfl) (by kernel_rfl) (fun w=>rfl) (wf_small (by decide)) (by rfl) (by rfl) ?_|refine callO (f:=75) (A:=gwO gq c x M N K ep xs Sk D Ss true) 0 (fun _:List Nat=>.t [.v (.slice none 0 0),.i .i64 (Gr.loadR K.G sa sb).2]) (fun S'=>gwO gq c x M N { K with G:=(doR K.G 3 sa sb (sb == 1)).1 } ep xs S' D Ss true) (fun w hH hA=>loadX hA) (fun S'=>?_)|refine fin fun w' hH=>⟨S',rfl,Hold.ob hH (A:=gwO gq c x M N { K with G:=(doR K.G 3 sa sb (sb == 1)).1 } ep xs S' D Ss true) 0 rfl,hH.upd,fun g hg=>hH.own _ (List.mem_of_getElem? (i:=0) rfl) rfl g hg⟩|refine fin_s ?_))
theorem curtainX (h:GWt gq c x M N K ep xs Sk D Ss w):Calls Tryz.prog 76 #[.pointer (some ⟨gq,0,none⟩),.agg #[.int .i64 6,.int .i64 sa,.int .i64 sb,.slice dA dn dc]] w fun e w'=>∃ S',e=.returned (.tuple #[.slice none 0 0,.int .i64 (Gr.curtR K.G sa (sb == 1)).2])∧GWt gq c x M N { K with G:=(doR K.G 4 sa sb (sb == 1)).1 } ep xs S' D Ss w'∧Upd (gwF gq x Sk D Ss) w w'∧∀ g∈gwF gq x S' D Ss,g∈gwF gq x Sk D Ss∨w.heap.size≤g :=
 (curtainT h.b h.k h.g1).mono (by
  rintro e w' ⟨S',rfl,h1,h2,h3⟩
  obtain ⟨a1,a2,a3⟩:=h.kg h1 h2 h3
  exact ⟨S',rfl,a1,a2,a3⟩)
theorem curtainD (h:GWt gq c x M N K ep xs Sk D Ss w):Calls Tryz.prog 24 #[.pointer (some ⟨gq,0,none⟩),.agg #[.int .i64 6,.int .i64 sa,.int .i64 sb,.slice dA dn dc]] w fun e w'=>∃ S',e=.returned (.tuple #[.slice none 0 0,.int .i64 (Gr.curtR K.G sa (sb == 1)).2])∧GWt gq c x M N { K with G:=(doR K.G 4 sa sb (sb == 1)).1 } ep xs S' D Ss w'∧Upd (gwF gq x Sk D Ss) w w'∧∀ g∈gwF gq x S' D Ss,g∈gwF gq x Sk D Ss∨w.heap.size≤g:=by
 refine entH tab_ok (hold_w h) [.v (.pointer (some ⟨gq,0,none⟩)),.a [.i .i64 6,.i .i64 sa,.i .i64 sb,.v (.slice dA dn dc)]] Tryz.func24 Tryz.ntmps24 rfl rfl ?_
 repeat' (first | refine gs_ ?_|((conv=>whnf); first | intro b0 | refine And.intro ?_ ?_|refine callN (f:=53) (ι:=Nat) (fun b=>.v (.map (some b))) (fun b=>mpO Tryz.prog 3 b 8 (mtab kindL) true) (fun w1 hH=>(kindsT w1).mono (by rintro e w' ⟨b,rfl,h1,h2,h3⟩; exact ⟨b,rfl,h1,h2,fun g hg=>by rw [List.mem_singleton.1 hg]; exact h3⟩)) (fun b=>?_)|refine oplo (b:=b) (n:=8) (m:=mtab kindL) (k:=3) (e:=104) 1 _ (.f 76 []) true (by rfl) (by rfl) (by rfl) (by rfl) (fun w h=>h) (by kernel_rfl) (by kernel_rfl) (fun w=>rfl) (wf_small (by decide)) (by rfl) (by rfl) ?_|refine callO (f:=76) (A:=gwO gq c x M N K ep xs Sk D Ss true) 0 (fun _:List Nat=>.t [.v (.slice none 0 0),.i .i64 (Gr.curtR K.G sa (sb == 1)).2]) (fun S'=>gwO gq c x M N { K with G:=(doR K.G 4 sa sb (sb == 1)).1 } ep xs S' D Ss true) (fun w hH hA=>curtainX hA) (fun S'=>?_)|refine fin fun w' hH=>⟨S',rfl,Hold.ob hH (A:=gwO gq c x M N { K with G:=(doR K.G 4 sa sb (sb == 1)).1 } ep xs S' D Ss true) 0 rfl,hH.upd,fun g hg=>hH.own _ (List.mem_of_getElem? (i:=0) rfl) rfl g hg⟩|refine fin_s ?_))
theorem faultX (h:GWt gq c x M N K ep xs Sk D Ss w) (hw:K.G.waits.length≤10000):Calls Tryz.prog 77 #[.pointer (some ⟨gq,0,none⟩),.agg #[.int .i64 7,.int .i64 sa,.int .i64 sb,.slice dA dn dc]] w fun e w'=>∃ S',e=.returned (.tuple #[.slice none 0 0,.int .i64 (Gr.faultR K.G sa (sb == 1)).2])∧GWt gq c x M N { K with G:=(doR K.G 5 sa sb (sb == 1)).1 } ep xs S' D Ss w'∧Upd (gwF gq x Sk D Ss) w w'∧∀ g∈gwF gq x S' D Ss,g∈gwF gq x Sk D Ss∨w.heap.size≤g :=
 (faultT h.b h.k h.g1 hw).mono (by
  rintro e w' ⟨S',rfl,h1,h2,h3⟩
  obtain ⟨a1,a2,a3⟩:=h.kg h1 h2 h3
  exact ⟨S',rfl,a1,a2,a3⟩)
theorem faultD (h:GWt gq c x M N K ep xs Sk D Ss w) (hw:K.G.waits.length≤10000):Calls Tryz.prog 24 #[.pointer (some ⟨gq,0,none⟩),.agg #[.int .i64 7,.int .i64 sa,.int .i64 sb,.slice dA dn dc]] w fun e w'=>∃ S',e=.returned (.tuple #[.slice none 0 0,.int .i64 (Gr.faultR K.G sa (sb == 1)).2])∧GWt gq c x M N { K with G:=(doR K.G 5 sa sb (sb == 1)).1 } ep xs S' D Ss w'∧Upd (gwF gq x Sk D Ss) w w'∧∀ g∈gwF gq x S' D Ss,g∈gwF gq x Sk D Ss∨w.heap.size≤g:=by
 refine entH tab_ok (hold_w h) [.v (.pointer (some ⟨gq,0,none⟩)),.a [.i .i64 7,.i .i64 sa,.i .i64 sb,.v (.slice dA dn dc)]] Tryz.func24 Tryz.ntmps24 rfl rfl ?_
 repeat' (first | refine gs_ ?_|((conv=>whnf); first | intro b0 | refine And.intro ?_ ?_|refine callN (f:=53) (ι:=Nat) (fun b=>.v (.map (some b))) (fun b=>mpO Tryz.prog 3 b 8 (mtab kindL) true) (fun w1 hH=>(kindsT w1).mono (by rintro e w' ⟨b,rfl,h1,h2,h3⟩; exact ⟨b,rfl,h1,h2,fun g hg=>by rw [List.mem_singleton.1 hg]; exact h3⟩)) (fun b=>?_)|refine oplo (b:=b) (n:=8) (m:=mtab kindL) (k:=3) (e:=104) 1 _ (.f 77 []) true (by rfl) (by rfl) (by rfl) (by rfl) (fun w h=>h) (by kernel_rfl) (by kernel_rfl) (fun w=>rfl) (wf_small (by decide)) (by rfl) (by rfl) ?_|refine callO (f:=77) (A:=gwO gq c x M N K ep xs Sk D Ss true) 0 (fun _:List Nat=>.t [.v (.slice none 0 0),.i .i64 (Gr.faultR K.G sa (sb == 1)).2]) (fun S'=>gwO gq c x M N { K with G:=(doR K.G 5 sa sb (sb == 1)).1 } ep xs S' D Ss true) (fun w hH hA=>faultX hA hw) (fun S'=>?_)|refine fin fun w' hH=>⟨S',rfl,Hold.ob hH (A:=gwO gq c x M N { K with G:=(doR K.G 5 sa sb (sb == 1)).1 } ep xs S' D Ss true) 0 rfl,hH.upd,fun g hg=>hH.own _ (List.mem_of_getElem? (i:=0) rfl) rfl g hg⟩|refine fin_s ?_))
theorem dat_low {lo:Nat} {os:List OutD} {w:World} (h:DatAt lo os w):∀ g∈datF os,lo≤g:=fun g hg=>by
 obtain ⟨o,ho,hg⟩:=dat_mem.1 hg
 exact Ek.lows (h o ho) g hg
theorem out_dat {lo lo2 n c:Nat} {A:Option Addr} {os os2:List OutD} {w:World} (h:outE.At lo A n c os w) (h2:DatAt lo2 os2 w):∀ g∈blkOf A,g∉datF os2:=fun g hg hm=>by
 obtain ⟨o,ho,hm⟩:=dat_mem.1 hm
 rcases own_at h with ⟨e,_⟩ | ⟨b,cur,e,_,B,_⟩
 ·rw [e] at hg; cases hg
 ·rw [e] at hg
  have:g=b:=by simpa [blkOf] using hg
  subst this
  exact own_ne_ty (h2 o ho) B (by decide) hm
theorem tickX (h:GWt gq c x M N K ep xs Sk D Ss w) (hj:JI c n T (K,vals D)) (hn:n≤10000) (hT:T < 10000) (hM:M≤1000000):Calls Tryz.prog 71 #[.pointer (some ⟨gq,0,none⟩),.agg #[.int .i64 1,.int .i64 sa,.int .i64 sb,.slice dA dn dc]] w fun e w'=>∃ y:List Nat×Fam×Option Addr×Nat×List OutD,e=.returned (.tuple #[.slice y.2.2.1 y.2.2.2.2.length y.2.2.2.1,.int .i64 0])∧GWt gq c x M N (tickG (K,vals D)).1.1 ep xs y.1 y.2.1 Ss w'∧(rwO outE w.heap.size y.2.2.1 y.2.2.2.2.length y.2.2.2.1 y.2.2.2.2 true).st w'∧(daO w.heap.size y.2.2.2.2 true).st w'∧Upd (gwF gq x Sk D Ss) w w'∧(∀ g∈gwF gq x y.1 y.2.1 Ss,g∈gwF gq x Sk D Ss∨w.heap.size≤g)∧(∀ g∈blkOf y.2.2.1,w.heap.size≤g∧g∉gwF gq x y.1 y.2.1 Ss)∧(∀ g∈datF y.2.2.2.2,w.heap.size≤g∧g∉gwF gq x y.1 y.2.1 Ss)∧(∀ g∈blkOf y.2.2.1,g∉datF y.2.2.2.2)∧vals y.2.1=(tickG (K,vals D)).1.2∧outsV y.2.2.2.2=(tickG (K,vals D)).2:=by
 have hk1:=hj.tk hT
 have ht:TI (64*T:Nat) (tickK K,vals D):=⟨hk1.t.q,hk1.t.l,hj.t.s,hj.t.t⟩
 refine (tickT h.b h.k h.g1 hM (PI.kt hj.p hn (by omega)) (PI.evs hj.p) (Nat.le_trans (PI.evl hj.p) (by omega)) ht (by omega)).mono ?_
 rintro e w' ⟨y,rfl,h1,h2,h3,h4,h5,h6,h7,h8⟩
 obtain ⟨a1,a2,a3⟩:=h.kg h1 h6 h7
 have far:∀ g,w.heap.size≤g→g∉kgF x.mb y.1 y.2.1→g∉gwF gq x y.1 y.2.1 Ss:=fun g hg hk hm=>by
  rcases List.mem_cons.1 hm with rfl | hm
  ·have:=h.b.lt; omega
  rcases List.mem_append.1 hm with hm | hm
  ·exact hk hm
  ·have:=h.s.lt g hm; omega
 exact ⟨y,rfl,a1,h4,h5,a2,a3,fun g hg=>⟨Ek.lows h4 g hg,far g (Ek.lows h4 g hg) (h8 g (List.mem_append.2 (.inl hg)))⟩,fun g hg=>⟨dat_low h5 g hg,far g (dat_low h5 g hg) (h8 g (List.mem_append.2 (.inr hg)))⟩,out_dat h4 h5,h2,h3⟩
theorem tickD (h:GWt gq c x M N K ep xs Sk D Ss w) (hj:JI c n T (K,vals D)) (hn:n≤10000) (hT:T < 10000) (hM:M≤1000000):Calls Tryz.prog 24 #[.pointer (some ⟨gq,0,none⟩),.agg #[.int .i64 1,.int .i64 sa,.int .i64 sb,.slice dA dn dc]] w fun e w'=>∃ y:List Nat×Fam×Option Addr×Nat×List OutD,e=.returned (.tuple #[.slice y.2.2.1 y.2.2.2.2.length y.2.2.2.1,.int .i64 0])∧GWt gq c x M N (tickG (K,vals D)).1.1 ep xs y.1 y.2.1 Ss w'∧(rwO outE w.heap.size y.2.2.1 y.2.2.2.2.length y.2.2.2.1 y.2.2.2.2 true).st w'∧(daO w.heap.size y.2.2.2.2 true).st w'∧Upd (gwF gq x Sk D Ss) w w'∧(∀ g∈gwF gq x y.1 y.2.1 Ss,g∈gwF gq x Sk D Ss∨w.heap.size≤g)∧(∀ g∈blkOf y.2.2.1,w.heap.size≤g∧g∉gwF gq x y.1 y.2.1 Ss)∧(∀ g∈datF y.2.2.2.2,w.heap.size≤g∧g∉gwF gq x y.1 y.2.1 Ss)∧(∀ g∈blkOf y.2.2.1,g∉datF y.2.2.2.2)∧vals y.2.1=(tickG (K,vals D)).1.2∧outsV y.2.2.2.2=(tickG (K,vals D)).2:=by
 refine entH tab_ok (hold_w h) [.v (.pointer (some ⟨gq,0,none⟩)),.a [.i .i64 1,.i .i64 sa,.i .i64 sb,.v (.slice dA dn dc)]] Tryz.func24 Tryz.ntmps24 rfl rfl ?_
 repeat' (first | refine gs_ ?_|((conv=>whnf); first | intro b0 | refine And.intro ?_ ?_|refine callN (f:=53) (ι:=Nat) (fun b=>.v (.map (some b))) (fun b=>mpO Tryz.prog 3 b 8 (mtab kindL) true) (fun w1 hH=>(kindsT w1).mono (by rintro e w' ⟨b,rfl,h1,h2,h3⟩; exact ⟨b,rfl,h1,h2,fun g hg=>by rw [List.mem_singleton.1 hg]; exact h3⟩)) (fun b=>?_)|refine oplo (b:=b) (n:=8) (m:=mtab kindL) (k:=3) (e:=104) 1 _ (.f 71 []) true (by rfl) (by rfl) (by rfl) (by rfl) (fun w h=>h) (by kernel_rfl) (by kernel_rfl) (fun w=>rfl) (wf_small (by decide)) (by rfl) (by rfl) ?_|refine callO2N (f:=71) (A:=gwO gq c x M N K ep xs Sk D Ss true) 0 (fun y:{y:List Nat×Fam×Option Addr×Nat×List OutD // vals y.2.1=(tickG (K,vals D)).1.2∧outsV y.2.2.2.2=(tickG (K,vals D)).2}=>.t [.v (.slice y.1.2.2.1 y.1.2.2.2.2.length y.1.2.2.2.1),.i .i64 0]) (fun y=>gwO gq c x M N (tickG (K,vals D)).1.1 ep xs y.1.1 y.1.2.1 Ss true) (fun y=>rwO outE w.heap.size y.1.2.2.1 y.1.2.2.2.2.length y.1.2.2.2.1 y.1.2.2.2.2 true) (fun y=>daO w.heap.size y.1.2.2.2.2 true) (fun w1 hH hA=>(tickX hA hj hn hT hM).mono (by rintro e w' ⟨y,rfl,h1,h2,h3,h4,h5,h6,h7,h8,h9,h10⟩; exact ⟨⟨y,h9,h10⟩,rfl,h1,Ek.base h2 hH.upd.size,fun o ho=>Ek.base (h3 o ho) hH.upd.size,h4,h5,h6,h7,h8⟩)) (fun y=>?_)|refine fin fun w' hH=>⟨y.1,rfl,Hold.ob hH (A:=gwO gq c x M N (tickG (K,vals D)).1.1 ep xs y.1.1 y.1.2.1 Ss true) 0 rfl,Hold.ob hH (A:=rwO outE w.heap.size y.1.2.2.1 y.1.2.2.2.2.length y.1.2.2.2.1 y.1.2.2.2.2 true) 2 rfl,Hold.ob hH (A:=daO w.heap.size y.1.2.2.2.2 true) 3 rfl,hH.upd,fun g hg=>hH.own _ (List.mem_of_getElem? (i:=0) rfl) rfl g hg,fun g hg=>⟨Ek.lows (Hold.ob hH (A:=rwO outE w.heap.size y.1.2.2.1 y.1.2.2.2.2.length y.1.2.2.2.1 y.1.2.2.2.2 true) 2 rfl) g hg,fun hm=>(pair_at (R:=DisR) (fun _ _ h=>h.symm) hH.dis (i:=0) (j:=2) rfl rfl (by decide) (.inl rfl)) g hm hg⟩,fun g hg=>⟨dat_low (Hold.ob hH (A:=daO w.heap.size y.1.2.2.2.2 true) 3 rfl) g hg,fun hm=>(pair_at (R:=DisR) (fun _ _ h=>h.symm) hH.dis (i:=0) (j:=3) rfl rfl (by decide) (.inl rfl)) g hm hg⟩,fun g hg hm=>(pair_at (R:=DisR) (fun _ _ h=>h.symm) hH.dis (i:=2) (j:=3) rfl rfl (by decide) (.inl rfl)) g hg hm,y.2.1,y.2.2⟩|refine fin_s ?_))
theorem bytesX (h:GWt gq c x M N K ep xs Sk D Ss w) (hz:BV w dA dn zs) (hz1:∀ g∈rdF dA dn,g∉gwF gq x Sk D Ss) (hj:JI c n T (K,vals D)) (hT:T≤10000) (hM:M+(xs++zs).length < 1000000) (hN:N+dn≤1000000):Calls Tryz.prog 72 #[.pointer (some ⟨gq,0,none⟩),.agg #[.int .i64 2,.int .i64 sa,.int .i64 sb,.slice dA dn dc]] w fun e w'=>∃ y:{y:List Nat×Fam×List Nat // vals y.2.1=(runL c ((K,vals D),ep) (frames (xs++zs)).1).1.2},e=.returned (.tuple #[.slice none 0 0,.int .i64 0])∧GWt gq c x (M+(xs++zs).length - (frames (xs++zs)).2.length) (N+dn) (runL c ((K,vals D),ep) (frames (xs++zs)).1).1.1 (runL c ((K,vals D),ep) (frames (xs++zs)).1).2 (frames (xs++zs)).2 y.1.1 y.1.2.1 y.1.2.2 w'∧Upd (gwF gq x Sk D Ss) w w'∧∀ g∈gwF gq x y.1.1 y.1.2.1 y.1.2.2,g∈gwF gq x Sk D Ss∨w.heap.size≤g:=by
 refine (bytesT h.b h.k h.s h.g1 h.g2 h.d hz hz1 hj hT hM hN).mono ?_
 rintro e w' ⟨y,rfl,h1,h2,h3,h4,h5,h6,h7,h8,h9⟩
 refine ⟨⟨y,h3⟩,rfl,⟨h1,h2,h4,h7,h8,h9⟩,h5,fun g hg=>?_⟩
 rcases List.mem_cons.1 hg with rfl | hg
 ·exact .inl (List.mem_cons_self ..)
 ·exact h6 g hg
theorem bytesD (h:GWt gq c x M N K ep xs Sk D Ss w) (hz:BV w dA dn zs) (hz1:∀ g∈rdF dA dn,g∉gwF gq x Sk D Ss) (hj:JI c n T (K,vals D)) (hT:T≤10000) (hM:M+(xs++zs).length < 1000000) (hN:N+dn≤1000000):Calls Tryz.prog 24 #[.pointer (some ⟨gq,0,none⟩),.agg #[.int .i64 2,.int .i64 sa,.int .i64 sb,.slice dA dn dc]] w fun e w'=>∃ y:{y:List Nat×Fam×List Nat // vals y.2.1=(runL c ((K,vals D),ep) (frames (xs++zs)).1).1.2},e=.returned (.tuple #[.slice none 0 0,.int .i64 0])∧GWt gq c x (M+(xs++zs).length - (frames (xs++zs)).2.length) (N+dn) (runL c ((K,vals D),ep) (frames (xs++zs)).1).1.1 (runL c ((K,vals D),ep) (frames (xs++zs)).1).2 (frames (xs++zs)).2 y.1.1 y.1.2.1 y.1.2.2 w'∧Upd (gwF gq x Sk D Ss) w w'∧∀ g∈gwF gq x y.1.1 y.1.2.1 y.1.2.2,g∈gwF gq x Sk D Ss∨w.heap.size≤g:=by
 refine entH tab_ok (Hold.addObj (hold_w h) (bvO dA dn zs) hz (by intro k; cases k) (by intro r hr; cases hr) (by intro A hA _ g hg hg2; rw [List.mem_singleton] at hA; subst hA; exact hz1 g hg2 hg)) [.v (.pointer (some ⟨gq,0,none⟩)),.a [.i .i64 2,.i .i64 sa,.i .i64 sb,.v (.slice dA dn dc)]] Tryz.func24 Tryz.ntmps24 rfl rfl ?_
 repeat' (first | refine gs_ ?_|((conv=>whnf); first | intro b0 | refine And.intro ?_ ?_|refine callN (f:=53) (ι:=Nat) (fun b=>.v (.map (some b))) (fun b=>mpO Tryz.prog 3 b 8 (mtab kindL) true) (fun w1 hH=>(kindsT w1).mono (by rintro e w' ⟨b,rfl,h1,h2,h3⟩; exact ⟨b,rfl,h1,h2,fun g hg=>by rw [List.mem_singleton.1 hg]; exact h3⟩)) (fun b=>?_)|refine oplo (b:=b) (n:=8) (m:=mtab kindL) (k:=3) (e:=104) 2 _ (.f 72 []) true (by rfl) (by rfl) (by rfl) (by rfl) (fun w h=>h) (by kernel_rfl) (by kernel_rfl) (fun w=>rfl) (wf_small (by decide)) (by rfl) (by rfl) ?_|refine callO (f:=72) (A:=gwO gq c x M N K ep xs Sk D Ss true) 0 (fun y:{y:List Nat×Fam×List Nat // vals y.2.1=(runL c ((K,vals D),ep) (frames (xs++zs)).1).1.2}=>.t [.v (.slice none 0 0),.i .i64 0]) (fun y=>gwO gq c x (M+(xs++zs).length - (frames (xs++zs)).2.length) (N+dn) (runL c ((K,vals D),ep) (frames (xs++zs)).1).1.1 (runL c ((K,vals D),ep) (frames (xs++zs)).1).2 (frames (xs++zs)).2 y.1.1 y.1.2.1 y.1.2.2 true) (fun w1 hH hA=>bytesX hA (Hold.ob hH (A:=bvO dA dn zs) 1 rfl) hz1 hj hT hM hN) (fun y=>?_)|refine fin fun w' hH=>⟨y,rfl,Hold.ob hH (A:=gwO gq c x (M+(xs++zs).length - (frames (xs++zs)).2.length) (N+dn) (runL c ((K,vals D),ep) (frames (xs++zs)).1).1.1 (runL c ((K,vals D),ep) (frames (xs++zs)).1).2 (frames (xs++zs)).2 y.1.1 y.1.2.1 y.1.2.2 true) 0 rfl,hH.upd,fun g hg=>hH.own _ (List.mem_of_getElem? (i:=0) rfl) rfl g hg⟩|refine fin_s ?_))
end
end Gw
end Go.Proofs.YtepfmfalebmcnaaGreatDoor
namespace Go.Proofs
open Go.Shelf
def Tryz.lays166_ren:Go.Shelf.Ren:=⟨fun | 166=>107 | 240=>153 | 276=>205 | n=>n,fun | 70=>167 | 9=>9 | 3=>3 | 75=>171 | 0=>0 | 72=>169 | 37=>29 | 4=>4 | 164=>240 | 80=>174 | 5=>5 | n=>n,fun | n=>n⟩
theorem Tryz.lays166:Go.Proofs.Lays.n166 Tryz.prog Tryz.lays166_ren:={
 mixed:=by kernel_rfl
 f166:=Tryz.func107.trans (congrArg some (by kernel_rfl))
 f240:=Tryz.func153.trans (congrArg some (by kernel_rfl))
 f276:=Tryz.func205.trans (congrArg some (by kernel_rfl))
 t0:=Tryz.underlying0
 a0:=Tryz.isAgg0
 z0:=Tryz.sizeOf0
 v0:=Tryz.zeroValue0
 t3:=Tryz.underlying3
 a3:=Tryz.isAgg3
 z3:=Tryz.sizeOf3
 v3:=Tryz.zeroValue3
 t4:=Tryz.underlying4
 a4:=Tryz.isAgg4
 z4:=Tryz.sizeOf4
 v4:=Tryz.zeroValue4
 t9:=Tryz.underlying9
 a9:=Tryz.isAgg9
 z9:=Tryz.sizeOf9
 v9:=Tryz.zeroValue9
 t20:=Tryz.underlying20
 a20:=Tryz.isAgg20
 z20:=Tryz.sizeOf20
 v20:=Tryz.zeroValue20
 t37:=Tryz.underlying29
 a37:=Tryz.isAgg29
 z37:=Tryz.sizeOf29
 v37:=Tryz.zeroValue29
 t70:=Tryz.underlying167
 a70:=Tryz.isAgg167
 z70:=Tryz.sizeOf167
 v70:=Tryz.zeroValue167
 t72:=Tryz.underlying169
 a72:=Tryz.isAgg169
 z72:=Tryz.sizeOf169
 v72:=Tryz.zeroValue169
 t75:=Tryz.underlying171
 a75:=Tryz.isAgg171
 z75:=Tryz.sizeOf171
 v75:=Tryz.zeroValue171
 t164:=Tryz.underlying240
 a164:=Tryz.isAgg240
 z164:=Tryz.sizeOf240
 v164:=Tryz.zeroValue240 }
theorem Tryz.Builder_Extra_166:Builder.Extra Tryz.prog Tryz.lays166_ren:={
 sizeBuilder:=by kernel_rfl
 liesBuilder:=by kernel_rfl
 t5:=Tryz.underlying5
 a5:=Tryz.isAgg5
 z5:=Tryz.sizeOf5
 v5:=Tryz.zeroValue5
 infoByte:=by kernel_rfl
 cellsByte:=by kernel_rfl
 sizeByte:=by kernel_rfl
 neB5:=by decide }
def Tryz.lays169_ren:Go.Shelf.Ren:=⟨fun | 169=>109 | n=>n,fun | 70=>167 | 9=>9 | 0=>0 | 72=>169 | 37=>29 | 127=>205 | 3=>3 | 5=>5 | n=>n,fun | n=>n⟩
theorem Tryz.lays169:Go.Proofs.Lays.n169 Tryz.prog Tryz.lays169_ren:={
 mixed:=by kernel_rfl
 f169:=Tryz.func109.trans (congrArg some (by kernel_rfl))
 t0:=Tryz.underlying0
 a0:=Tryz.isAgg0
 z0:=Tryz.sizeOf0
 v0:=Tryz.zeroValue0
 t3:=Tryz.underlying3
 a3:=Tryz.isAgg3
 z3:=Tryz.sizeOf3
 v3:=Tryz.zeroValue3
 t9:=Tryz.underlying9
 a9:=Tryz.isAgg9
 z9:=Tryz.sizeOf9
 v9:=Tryz.zeroValue9
 t37:=Tryz.underlying29
 a37:=Tryz.isAgg29
 z37:=Tryz.sizeOf29
 v37:=Tryz.zeroValue29
 t70:=Tryz.underlying167
 a70:=Tryz.isAgg167
 z70:=Tryz.sizeOf167
 v70:=Tryz.zeroValue167
 t72:=Tryz.underlying169
 a72:=Tryz.isAgg169
 z72:=Tryz.sizeOf169
 v72:=Tryz.zeroValue169
 t127:=Tryz.underlying205
 a127:=Tryz.isAgg205
 z127:=Tryz.sizeOf205
 v127:=Tryz.zeroValue205 }
theorem Tryz.Builder_Extra_169:Builder.Extra Tryz.prog Tryz.lays169_ren:={
 sizeBuilder:=by kernel_rfl
 liesBuilder:=by kernel_rfl
 t5:=Tryz.underlying5
 a5:=Tryz.isAgg5
 z5:=Tryz.sizeOf5
 v5:=Tryz.zeroValue5
 infoByte:=by kernel_rfl
 cellsByte:=by kernel_rfl
 sizeByte:=by kernel_rfl
 neB5:=by decide }
def Tryz.laysM171_ren:Go.Shelf.Ren:=⟨fun | 171=>108 | 243=>154 | 246=>206 | 283=>244 | 284=>245 | 285=>246 | 286=>247 | 129=>165 | 317=>271 | 318=>272 | 319=>273 | 320=>274 | 337=>290 | 338=>291 | n=>n,fun | 3=>3 | 9=>9 | 2=>2 | 4=>4 | 171=>269 | 0=>0 | 53=>120 | 37=>29 | 5=>5 | 173=>271 | 212=>290 | 51=>87 | 20=>20 | 213=>291 | 46=>89 | 232=>304 | 233=>305 | n=>n,fun | 17=>0 | 18=>1 | 19=>2 | n=>n⟩
theorem Tryz.laysM171:Go.Proofs.LaysM.n171 Tryz.prog Tryz.laysM171_ren:={
 mixed:=by kernel_rfl
 f129:=Tryz.func165.trans (congrArg some (by kernel_rfl))
 f171:=Tryz.func108.trans (congrArg some (by kernel_rfl))
 f243:=Tryz.func154.trans (congrArg some (by kernel_rfl))
 f246:=Tryz.func206.trans (congrArg some (by kernel_rfl))
 f283:=Tryz.func244.trans (congrArg some (by kernel_rfl))
 f284:=Tryz.func245.trans (congrArg some (by kernel_rfl))
 f285:=Tryz.func246.trans (congrArg some (by kernel_rfl))
 f286:=Tryz.func247.trans (congrArg some (by kernel_rfl))
 f317:=Tryz.func271.trans (congrArg some (by kernel_rfl))
 f318:=Tryz.func272.trans (congrArg some (by kernel_rfl))
 f319:=Tryz.func273.trans (congrArg some (by kernel_rfl))
 f320:=Tryz.func274.trans (congrArg some (by kernel_rfl))
 f337:=Tryz.func290.trans (congrArg some (by kernel_rfl))
 f338:=Tryz.func291.trans (congrArg some (by kernel_rfl))
 t0:=Tryz.underlying0
 a0:=Tryz.isAgg0
 z0:=Tryz.sizeOf0
 v0:=Tryz.zeroValue0
 t2:=Tryz.underlying2
 a2:=Tryz.isAgg2
 z2:=Tryz.sizeOf2
 v2:=Tryz.zeroValue2
 t3:=Tryz.underlying3
 a3:=Tryz.isAgg3
 z3:=Tryz.sizeOf3
 v3:=Tryz.zeroValue3
 t4:=Tryz.underlying4
 a4:=Tryz.isAgg4
 z4:=Tryz.sizeOf4
 v4:=Tryz.zeroValue4
 t5:=Tryz.underlying5
 a5:=Tryz.isAgg5
 z5:=Tryz.sizeOf5
 v5:=Tryz.zeroValue5
 t9:=Tryz.underlying9
 a9:=Tryz.isAgg9
 z9:=Tryz.sizeOf9
 v9:=Tryz.zeroValue9
 t20:=Tryz.underlying20
 a20:=Tryz.isAgg20
 z20:=Tryz.sizeOf20
 v20:=Tryz.zeroValue20
 t37:=Tryz.underlying29
 a37:=Tryz.isAgg29
 z37:=Tryz.sizeOf29
 v37:=Tryz.zeroValue29
 t46:=Tryz.underlying89
 a46:=Tryz.isAgg89
 z46:=Tryz.sizeOf89
 v46:=Tryz.zeroValue89
 t51:=Tryz.underlying87
 a51:=Tryz.isAgg87
 z51:=Tryz.sizeOf87
 v51:=Tryz.zeroValue87
 t53:=Tryz.underlying120
 a53:=Tryz.isAgg120
 z53:=Tryz.sizeOf120
 v53:=Tryz.zeroValue120
 t171:=Tryz.underlying269
 a171:=Tryz.isAgg269
 z171:=Tryz.sizeOf269
 v171:=Tryz.zeroValue269
 t173:=Tryz.underlying271
 a173:=Tryz.isAgg271
 z173:=Tryz.sizeOf271
 v173:=Tryz.zeroValue271
 t212:=Tryz.underlying290
 a212:=Tryz.isAgg290
 z212:=Tryz.sizeOf290
 v212:=Tryz.zeroValue290
 t213:=Tryz.underlying291
 a213:=Tryz.isAgg291
 z213:=Tryz.sizeOf291
 t232:=Tryz.underlying304
 a232:=Tryz.isAgg304
 z232:=Tryz.sizeOf304
 v232:=Tryz.zeroValue304
 t233:=Tryz.underlying305
 a233:=Tryz.isAgg305
 z233:=Tryz.sizeOf305
 v233:=Tryz.zeroValue305
 g17:=by kernel_rfl
 g18:=by kernel_rfl
 g19:=by kernel_rfl
 i0:=by kernel_rfl
 i2:=by kernel_rfl
 i3:=by kernel_rfl
 i4:=by kernel_rfl
 i5:=by kernel_rfl
 i9:=by kernel_rfl
 i20:=by kernel_rfl
 i37:=by kernel_rfl
 i46:=by kernel_rfl
 i51:=by kernel_rfl
 i53:=by kernel_rfl
 i171:=by kernel_rfl
 i173:=by kernel_rfl
 i212:=by kernel_rfl
 i232:=by kernel_rfl
 i233:=by kernel_rfl
 m17:=by kernel_rfl
 m18:=by kernel_rfl
 m19:=by kernel_rfl }
end Go.Proofs
