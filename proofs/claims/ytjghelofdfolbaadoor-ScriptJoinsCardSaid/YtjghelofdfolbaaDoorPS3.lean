/-
  Wanted: part 3.
  No condition.
-/
import Derived.Test.YtjghelofdfolbaaDoorPS2
import Derived.Test.YtjghelofdfolbaaDoorPS1
import Derived.Laws.Concat
import Derived.Lib.ItoaLen
import Derived.Lib.ItoaMem
import Derived.Lib.AtoiAll
import Derived.Lib.ItoaNum
import Derived.Lib.IndexBytes
import Derived.Lib.SplitLaws
import Derived.Lib.Split
import Derived.Lib.Join
import Derived.Lib.Strings
set_option linter.all false
namespace Go.Proofs.YtjghelofdfolbaaDoor
namespace En
open Go.RowKit Ba Mem
def mgO (A C:Asr):Asr:=⟨A.F++C.F,true,fun w=>A.st w∧C.st w,fun u hd h=>⟨A.up u (fun x hx=>hd x (List.mem_append.2 (.inl hx))) h.1,C.up u (fun x hx=>hd x (List.mem_append.2 (.inr hx))) h.2⟩,fun h x hx=>by
 rcases List.mem_append.1 hx with hx | hx
 ·exact A.lt h.1 x hx
 ·exact C.lt h.2 x hx⟩
section
variable {X:Cx} {m:List Row} {ob:List Asr} {w w':World} {s:St}
theorem Hold.merge (hH:Hold X m ob w) {i j:Nat} {A C:Asr} (hA:ob[i]?=some A) (hC:ob[j]?=some C) (hij:i≠j) (hAw:A.rw=true) (hCw:C.rw=true) :
  Hold X m ((ob.set i (mgO A C)).set j nilO) w∧(∀ x∈C.F,x∉A.F):=by
 have mA:=List.mem_of_getElem? hA
 have mC:=List.mem_of_getElem? hC
 have dAC:∀ x∈C.F,x∉A.F:=pair_at (R:=DisR) (fun _ _ h=>h.symm) hH.dis hC hA (Ne.symm hij) (.inr hAw)
 have mem:∀ D,D∈(ob.set i (mgO A C)).set j nilO→D=nilO∨D=mgO A C∨∃ l,l≠i∧l≠j∧ob[l]?=some D:=fun D hD=>by
  rcases mem_set_or hD with rfl | ⟨l,hlj,hD⟩
  ·exact .inl rfl
  ·rcases getElem?_set_or hD with ⟨rfl,rfl⟩ | ⟨hli,hD⟩
   ·exact .inr (.inl rfl)
   ·exact .inr (.inr ⟨l,Ne.symm hli,hlj,hD⟩)
 refine ⟨⟨hH.upd,hH.row,hH.wf,hH.ne,fun D hD=>?_,fun D hD a q hq hql hg=>?_,fun D hD hDw g hg=>?_, ?_⟩,dAC⟩
 ·rcases mem D hD with rfl | rfl | ⟨l,_,_,hD⟩
  ·trivial
  ·exact ⟨hH.obj A mA,hH.obj C mC⟩
  ·exact hH.obj D (List.mem_of_getElem? hD)
 ·rcases mem D hD with rfl | rfl | ⟨l,_,_,hD⟩
  ·cases hg
  ·rcases List.mem_append.1 hg with hg | hg
   ·exact hH.far A mA a q hq hql hg
   ·exact hH.far C mC a q hq hql hg
  ·exact hH.far D (List.mem_of_getElem? hD) a q hq hql hg
 ·rcases mem D hD with rfl | rfl | ⟨l,_,_,hD⟩
  ·cases hg
  ·rcases List.mem_append.1 hg with hg | hg
   ·exact hH.own A mA hAw g hg
   ·exact hH.own C mC hCw g hg
  ·exact hH.own D (List.mem_of_getElem? hD) hDw g hg
 ·have nil:∀ D:Asr,DisR D nilO:=fun D _ g _ h=>by cases h
  have far:∀ (l:Nat) (D:Asr),l≠i→l≠j→ob[l]?=some D→DisR D (mgO A C):=fun l D hli hlj hD _ g hg hgx=>by
   rcases List.mem_append.1 hgx with hx | hx
   ·exact pair_at (R:=DisR) (fun _ _ h=>h.symm) hH.dis hD hA hli (.inr hAw) g hg hx
   ·exact pair_at (R:=DisR) (fun _ _ h=>h.symm) hH.dis hD hC hlj (.inr hCw) g hg hx
  have at_:∀ (l:Nat) (D:Asr),((ob.set i (mgO A C)).set j nilO)[l]?=some D→D=nilO∨(l=i∧D=mgO A C)∨(l≠i∧l≠j∧ob[l]?=some D):=fun l D hD=>by
   rcases getElem?_set_or hD with ⟨rfl,rfl⟩ | ⟨hlj,hD⟩
   ·exact .inl rfl
   ·rcases getElem?_set_or hD with ⟨rfl,rfl⟩ | ⟨hli,hD⟩
    ·exact .inr (.inl ⟨rfl,rfl⟩)
    ·exact .inr (.inr ⟨Ne.symm hli,Ne.symm hlj,hD⟩)
  refine pair_of fun a b D E hne hD hE'=>?_
  rcases at_ a D hD with rfl | ⟨rfl,rfl⟩ | ⟨h1,h1',kD⟩ <;> rcases at_ b E hE' with rfl | ⟨rfl,rfl⟩ | ⟨h4,h4',kE⟩
  ·exact nil _
  ·exact (nil _).symm
  ·exact (nil _).symm
  ·exact nil _
  ·exact absurd rfl hne
  ·exact (far b E h4 h4' kE).symm
  ·exact nil _
  ·exact far a D h1 h1' kD
  ·exact pair_at (R:=DisR) (fun _ _ h=>h.symm) hH.dis kD kE hne
inductive PW where
 | nu (z:Int)
 | da (A:Option Addr) (n c:Nat) (zs:List Int)
def PW.v:PW→Value
 | .nu z=>.int .i64 z
 | .da A n c _=>.slice A n c
def PW.F:PW→List Nat
 | .nu _=>[]
 | .da A _ _ _=>blkOf A
def PW.st (lo:Nat):PW→World→Prop
 | .nu _,_=>True
 | .da A n c zs,w=>(rwO byteE lo A n c zs true).st w
def plF (b:Nat) (vs:List PW):List Nat:=b::vs.flatMap PW.F
def plA (vs:List PW) (rest:List Value):Array Value:=(vs.map PW.v++rest).toArray
def PlAt (lo b:Nat) (T:TypeId) (vs:List PW) (rest:List Value) (w:World):Prop:=Blk w b T (plA vs rest)∧∀ x∈vs,x.st lo w∧b∉x.F
theorem pl_mem {b g:Nat} {vs:List PW}:g∈plF b vs↔g=b∨∃ x∈vs,g∈x.F:=by
 unfold plF
 rw [List.mem_cons,List.mem_flatMap]
theorem PW.up {lo:Nat} {x:PW} {T:List Nat} (u:Upd T w w') (hd:∀ g∈x.F,g∉T) (h:x.st lo w):x.st lo w':=by
 cases x with
 | nu z=>trivial
 | da A n c zs=>exact (rwO byteE lo A n c zs true).up u hd h
theorem PW.lt {lo:Nat} {x:PW} (h:x.st lo w):∀ g∈x.F,g < w.heap.size:=by
 cases x with
 | nu z=>intro g hg; cases hg
 | da A n c zs=>exact (rwO byteE lo A n c zs true).lt h
def plO (lo b:Nat) (T:TypeId) (vs:List PW) (rest:List Value):Asr:=⟨plF b vs,true,PlAt lo b T vs rest,fun u hd h=>⟨u.blk h.1 (hd b (pl_mem.2 (.inl rfl))),fun x hx=>⟨PW.up u (fun g hg=>hd g (pl_mem.2 (.inr ⟨x,hx,hg⟩))) (h.2 x hx).1,(h.2 x hx).2⟩⟩,fun h g hg=>by
 rcases pl_mem.1 hg with rfl | ⟨x,hx,hg⟩
 ·exact h.1.lt
 ·exact PW.lt (h.2 x hx).1 g hg⟩
theorem plA_set (vs:List PW) (r0:Value) (rest:List Value) (x:PW):(plA vs (r0::rest)).setIfInBounds vs.length x.v=plA (vs++[x]) rest:=by
 unfold plA
 apply Array.toList_inj.1
 simp
theorem plA_lt (vs:List PW) (r0:Value) (rest:List Value):vs.length < (plA vs (r0::rest)).size:=by
 unfold plA; simp
theorem PlAt.add {lo b:Nat} {T:TypeId} {vs:List PW} {r0:Value} {rest:List Value} {x:PW} (h:PlAt lo b T vs (r0::rest) w) (hx:x.st lo w) (hb:b∉x.F) (hw:w'=w.setRow b ((plA vs (r0::rest)).setIfInBounds vs.length x.v)):PlAt lo b T (vs++[x]) rest w'∧Upd [b] w w':=by
 have u:Upd [b] w w':=by rw [hw]; exact (Upd.refl _ w).setRow (.inl (by simp)) _
 refine ⟨⟨by rw [hw,plA_set vs r0 rest x]; exact Blk.row h.1 _,fun v hv=>?_⟩,u⟩
 have key:∀ v:PW,v.st lo w→b∉v.F→v.st lo w':=fun v h1 h2=>PW.up u (fun g hg hgb=>h2 (by rw [List.mem_singleton] at hgb; rw [← hgb]; exact hg)) h1
 rcases List.mem_append.1 hv with hv | hv
 ·exact ⟨key v (h.2 v hv).1 (h.2 v hv).2,(h.2 v hv).2⟩
 ·rw [List.mem_singleton.1 hv]; exact ⟨key x hx hb,hb⟩
theorem pl_add {b g:Nat} {vs:List PW} {x:PW} (h:g∈plF b (vs++[x])):g∈plF b vs∨g∈x.F:=by
 rcases pl_mem.1 h with rfl | ⟨v,hv,hg⟩
 ·exact .inl (pl_mem.2 (.inl rfl))
 ·rcases List.mem_append.1 hv with hv | hv
  ·exact .inl (pl_mem.2 (.inr ⟨v,hv,hg⟩))
  ·rw [List.mem_singleton.1 hv] at hg; exact .inr hg
variable {o:Oper} {K:St→Prop} {ty:TypeId} {x y:Operand} {lo b q:Nat} {T:TypeId} {vs:List PW} {r0:Value} {rest:List Value}
theorem opsPn (i:Nat) (z:Int) (ho:o.op=.store ty x y) (hx:evO x s.fr=some (.v (.pointer (some ⟨b,q,none⟩)))) (hq:q=vs.length) (hy:evO y s.fr=some (.i .i64 z)) (hA:s.ob[i]?=some (plO lo b T vs (r0::rest))) (hs:(X.P.info? ty).map (·.size)=some 1)
  (h:setO i (plO lo b T (vs++[PW.nu z]) rest) s.ob fun ob=>put X.n o.dst (.v undef) ⟨s.fr,s.m,ob⟩ K):OpVC X o s K:=⟨fun a w Q hR=>by
 subst hq
 have st:=hR.h.obj _ (List.mem_of_getElem? hA)
 refine wp_st_cell ty x y ho _ (.int .i64 z) (by rw [(evO_of hR.fr hx).2]; rfl) (by rw [(evO_of hR.fr hy).2]; rfl) st.1 (plA_lt _ _ _) rfl rfl hs (fun w' hw=>?_)
 obtain ⟨hp,u⟩:=PlAt.add (x:=.nu z) st trivial (by intro h; cases h) hw
 have hH:=hR.h.obj_set (B:=plO lo b T (vs++[PW.nu z]) rest) hA rfl hp (u.mono (fun g hg _=>by rw [List.mem_singleton] at hg; subst hg; exact pl_mem.2 (.inl rfl))) (fun g hg=>.inl (by
  rcases pl_add hg with hg | hg
  ·exact hg
  ·cases hg))
 obtain ⟨s',r1,r2,r3,r4⟩:=put_of (a:=a) (s:=⟨s.fr,s.m,s.ob.set i (plO lo b T (vs++[PW.nu z]) rest)⟩) (v:=.v undef) hR.ds hR.sz hR.fr hH rfl (setO_of h)
 exact ⟨s',r1,by rw [r2]; exact Ext.refl _,r4⟩⟩
theorem opsPd (i j:Nat) {A:Option Addr} {n c:Nat} {zs:List Int} (ho:o.op=.store ty x y) (hx:evO x s.fr=some (.v (.pointer (some ⟨b,q,none⟩)))) (hq:q=vs.length) (hy:evO y s.fr=some (.v (.slice A n c))) (hA:s.ob[i]?=some (plO lo b T vs (r0::rest))) (hC:s.ob[j]?=some (rwO byteE lo A n c zs true)) (hij:i≠j) (hs:(X.P.info? ty).map (·.size)=some 1)
  (h:setO i (plO lo b T (vs++[PW.da A n c zs]) rest) s.ob fun ob=>setO j nilO ob fun ob=>put X.n o.dst (.v undef) ⟨s.fr,s.m,ob⟩ K):OpVC X o s K:=⟨fun a w Q hR=>by
 subst hq
 have st:=hR.h.obj _ (List.mem_of_getElem? hA)
 have sc:=hR.h.obj _ (List.mem_of_getElem? hC)
 obtain ⟨hM,hd⟩:=hR.h.merge hA hC hij rfl rfl
 refine wp_st_cell ty x y ho _ (.slice A n c) (by rw [(evO_of hR.fr hx).2]; rfl) (by rw [(evO_of hR.fr hy).2]; rfl) st.1 (plA_lt _ _ _) rfl rfl hs (fun w' hw=>?_)
 obtain ⟨hp,u⟩:=PlAt.add (x:=.da A n c zs) st sc (fun hb=>hd b hb (pl_mem.2 (.inl rfl))) hw
 have hij2:((s.ob.set i (mgO (plO lo b T vs (r0::rest)) (rwO byteE lo A n c zs true))).set j nilO)[i]?=some (mgO (plO lo b T vs (r0::rest)) (rwO byteE lo A n c zs true)):=by
  rw [List.getElem?_set_ne (Ne.symm hij),List.getElem?_set_self (List.getElem?_eq_some_iff.1 hA).1]
 have hH:=hM.obj_set (B:=plO lo b T (vs++[PW.da A n c zs]) rest) hij2 rfl hp (u.mono (fun g hg _=>by rw [List.mem_singleton] at hg; subst hg; exact List.mem_append.2 (.inl (pl_mem.2 (.inl rfl))))) (fun g hg=>.inl (by
  rcases pl_add hg with hg | hg
  ·exact List.mem_append.2 (.inl hg)
  ·exact List.mem_append.2 (.inr hg)))
 have hset:((s.ob.set i (mgO (plO lo b T vs (r0::rest)) (rwO byteE lo A n c zs true))).set j nilO).set i (plO lo b T (vs++[PW.da A n c zs]) rest)=(s.ob.set i (plO lo b T (vs++[PW.da A n c zs]) rest)).set j nilO:=by
  rw [List.set_comm _ _ (Ne.symm hij),List.set_set]
 rw [hset] at hH
 obtain ⟨s',r1,r2,r3,r4⟩:=put_of (a:=a) (s:=⟨s.fr,s.m,(s.ob.set i (plO lo b T (vs++[PW.da A n c zs]) rest)).set j nilO⟩) (v:=.v undef) hR.ds hR.sz hR.fr hH rfl (setO_of (setO_of h))
 exact ⟨s',r1,by rw [r2]; exact Ext.refl _,r4⟩⟩
end
end En
namespace Co
open Go.RowKit Ba Mem En
theorem Hold.ob {X:Cx} {m:List Row} {ob:List Asr} {w:World} (h:Hold X m ob w) {A:Asr} (i:Nat) (hA:ob[i]?=some A):A.st w:=h.obj A (List.mem_of_getElem? hA)
end Co
namespace En
open Go.RowKit Ba Mem
open Byt (BV isB)
section
variable {X:Cx} {s:St}
theorem opapo (i j:Nat) {A C:Asr} {o:Oper} {K:St→Prop} {xs ys:Operand} {t e:TypeId} {lo size n c0 m c n2 bytes:Nat} {A0 A1:Option Addr} {z:Value} {vals cells zs:List Value} (B:Option Addr→Nat→Asr)
  (ho:o.op=.call { callee:=.builtin .append,args:=#[xs,ys],argTypes:=#[t,t] }) (hxs:evO xs s.fr=some (.v (.slice A0 n c0))) (hys:evO ys s.fr=some (.v (.slice A1 m c)))
  (hA:s.ob[i]?=some A) (hrw:A.rw=true) (hF:A.F=blkOf A0) (hst:∀ w,A.st w→w.ownsRow lo e size (.slice A0 n c0) n vals) (hB:∀ A' c' w,w.ownsRow lo e size (.slice A' n2 c') n2 zs→(B A' c').st w) (hBF:∀ A' c',(B A' c').F=blkOf A')
  (hC:s.ob[j]?=some C) (hrd:∀ w,C.st w→Reads w w.heap.size size A1 m cells)
  (ht:X.P.underlying t=some (.slice e)) (hinf:(X.P.info? e).map (fun i=>(i.zero,i.size,i.bytes))=some (some z,size,bytes)) (hzs:z.cells.size=size) (hsz:0 < size) (hby:bytes≤1000) (h1:∀ u∈cells,u.oneCell'=true)
  (hnm:n+m≤1000000) (hbase:∀ w,Hold X s.m s.ob w→lo≤w.heap.size) (hn2:n+m=n2) (hzs2:vals++cells=zs)
  (h:∀ A' c',setO i (B A' c') s.ob fun ob=>put X.n o.dst (.v (.slice A' n2 c')) ⟨s.fr,s.m,ob⟩ K):OpVC X o s K:=⟨fun a w Q hR=>by
 have sC:=hR.h.obj C (List.mem_of_getElem? hC)
 refine wp_append_row xs ys t ho lo e z size bytes ht hinf hzs hsz hby A0 n c0 vals (by rw [(evO_of hR.fr hxs).2]; rfl) (hst w (hR.h.obj A (List.mem_of_getElem? hA))) w.heap.size A1 m c cells (by rw [(evO_of hR.fr hys).2]; rfl) (hrd w sC) h1 hnm (hbase w hR.h) n2 zs hn2 hzs2 ?_
 intro A' c' w' hown hupd hfar
 have hH:=hR.h.obj_set hA hrw (hB A' c' w' hown) (by rw [hF]; exact hupd) (by rw [hF,hBF]; exact hfar)
 obtain ⟨s',r1,r2,r3,r4⟩:=put_of (a:=a) (s:=⟨s.fr,s.m,s.ob.set i (B A' c')⟩) (v:=.v (.slice A' n2 c')) hR.ds hR.sz hR.fr hH rfl (setO_of (h A' c'))
 exact ⟨s',r1,by rw [r2]; exact Ext.refl _,r4⟩⟩
end
theorem opbi {X:Cx} {s:St} (hX:X.Ok) {o:Oper} {K:St→Prop} {t e:TypeId} {x:Operand} (v:SV) (ho:o.op=.buildSlice t 1 #[(0,x)]) (hx:evO x s.fr=some v)
  (h:nw s e [v] fun j s'=>put X.n o.dst (.s j 0 1 1) s' K)
  (ht:(match tyO t X.tab with | some y=>y.sl && Nat.beq y.el e | none=>false)=true:=by rfl) (hn:(match tyO e X.tab with | some y=>Nat.beq y.size 1 && !y.row | none=>false)=true:=by rfl) (h1:∀ m,(den m v).cells=#[den m v]:=by intro m; rfl) (hc:okL s.m.length [v]=true:=by rfl):OpVC X o s K:=by
 cases hy:tyO t X.tab with
 | none=>simp [hy] at ht
 | some y =>
  cases hz:tyO e X.tab with
  | none=>simp [hz] at hn
  | some z =>
   simp only [hy,hz,Bool.and_eq_true] at ht hn
   obtain ⟨d,i,T⟩:=(hX.tab _ _ hy).out
   obtain ⟨d',i',T'⟩:=(hX.tab _ _ hz).out
   have hel:=Nat.eq_of_beq_eq_true ht.2
   have hsz:=Nat.eq_of_beq_eq_true hn.1
   have hu:X.P.underlying t=some (.slice e):=by rw [T.un,T.sl ht.1,hel]
   refine opbs [v] ho hu T'.inf T'.zero (by rw [T'.size]; omega) (by rw [T'.size]; omega) (fun a hf=>?_) h hc
   have he:=(evO_of hf hx).2
   have:=Go.Great.fill_whole (s:=i'.size) (by rw [T'.size]; omega) [den s.m v] ((Array.range (1*i'.size)).map ((zeroV z).cells[· % (zeroV z).cells.size]!)) (by intro u hu; rw [List.mem_singleton] at hu; subst hu; rw [h1,T'.size,hsz]; rfl) (by simp)
   simpa [he,denL,h1] using this
end En
namespace Gw
open Go.RowKit Ba Mem En Go.Proofs.YtjghelofdfolbaaDoor.Ty
open Byt (BV isB)
open Co (Hold.ob)
set_option maxRecDepth 100000
theorem bv_up {T:List Nat} {w w':World} {A:Option Addr} {n:Nat} {zs:List Int} (u:Upd T w w') (h:BV w A n zs) (hd:∀ g∈rdF A n,g∉T):BV w' A n zs:=by
 obtain ⟨h1,h2,h3,h4⟩:=h
 refine ⟨h1,h2,h3, ?_⟩
 rcases h4 with h4 | ⟨b,off,rfl,hb,hc⟩
 ·exact .inl h4
 ·cases n with
  | zero=>exact .inl rfl
  | succ n=>exact .inr ⟨b,off,rfl,Nat.lt_of_lt_of_le hb u.size,fun j hj=>upd_cell u hb (hd b (by simp [rdF,blkOf])) (hc j hj)⟩
theorem bv_lt {w:World} {A:Option Addr} {n:Nat} {zs:List Int} (h:BV w A n zs):∀ g∈rdF A n,g < w.heap.size:=by
 intro g hg
 obtain ⟨h1,h2,h3,h4⟩:=h
 cases n with
 | zero=>cases hg
 | succ n =>
  rcases h4 with h4 | ⟨b,off,rfl,hb,hc⟩
  ·cases h4
  ·have:g=b:=by simpa [rdF,blkOf] using hg
   omega
def bvO (A:Option Addr) (n:Nat) (zs:List Int):Asr:=⟨rdF A n,false,fun w=>BV w A n zs,fun u hd h=>bv_up u h hd,fun h=>bv_lt h⟩
theorem hold_bv {A:Option Addr} {n nt:Nat} {d:List Int} {w:World} (h:BV w A n d):Hold ⟨Tryd.prog,tab,[],w,nt,[]⟩ [] [bvO A n d] w :=
 Hold.addObj (Hold.nil _ tab [] _ w) (bvO A n d) h (by intro k; cases k) (by intro r hr; cases hr) (by intro A hA; cases hA)
theorem bv_rng {w:World} {g off n i:Nat} {zs:List Int} {v:Int} (h:BV w (some ⟨g,off,none⟩) n zs) (hi:i < n) (hv:zs.getD i 0=v):w.rangeAt g (off+i) [.int .u8 v]:=fun j u hj=>by
 obtain ⟨b,o,e,_,hc⟩:=h.addr (by omega)
 cases e
 cases j with
 | zero =>
  simp at hj
  subst hj
  rw [← hv]
  exact hc i hi
 | succ j=>simp at hj
theorem opcs {X:Cx} {s:St} {o:Oper} {K:St→Prop} {t d:TypeId} {x:Operand} {A:Option Addr} {n c:Nat} {zs:List Int} (ho:o.op=.convert t d x) (hx:evO x s.fr=some (.v (.slice A n c))) (hz:∀ w,Hold X s.m s.ob w→BV w A n zs) (h1:X.P.underlying t=some (.slice 5)) (h2:X.P.underlying 5=some (.int .u8)) (h3:X.P.underlying d=some .string) (h:put X.n o.dst (.v (.string (strOfNums zs))) s K):OpVC X o s K :=
 opq (.v (.string (strOfNums zs))) (fun a w hf hH=>exec_str t 5 d x (hz w hH) ho (by rw [(evO_of hf hx).2]; rfl) h1 h2 h3) h rfl
def n64 (i:Int):Prop := -9223372036854775808≤i∧i≤9223372036854775807
section
variable {X:Cx} {m:List Row} {ob:List Asr} {w w':World} {s:St} {o:Oper} {K:St→Prop}
theorem opsa {t t2:TypeId} {x y:Operand} {xs ys:List UInt8} (ho:o.op=.binOp .add t x y t2) (hx:evO x s.fr=some (.v (.string ⟨xs.toArray⟩))) (hy:evO y s.fr=some (.v (.string ⟨ys.toArray⟩))) (h1:(xs.length:Int)≤8388608) (h2:(ys.length:Int)≤8388608) (h:put X.n o.dst (.v (.string ⟨(xs++ys).toArray⟩)) s K):OpVC X o s K :=
 opq (.v (.string ⟨(xs++ys).toArray⟩)) (fun a w hf _=>by
  have e1:=(evO_of hf hx).2
  have e2:=(evO_of hf hy).2
  unfold execOp
  simp only [ho,e1,e2,den]
  simp [eqGuard,binOp,run_string_add_lists (P:=X.P) w xs ys h1 h2,Result.andThen]) h rfl
end
end Gw
namespace Gw
open Go.RowKit Ba Mem En Go.Proofs.YtjghelofdfolbaaDoor.Ty
open Byt (BV isB)
open Co (Hold.ob)
set_option maxRecDepth 100000
def restD (u:Nat):List UInt8:=if u=0 then [] else Lib.decDigits u
theorem rest_step {u:Nat} (h:0 < u):restD u=restD (u / 10)++[UInt8.ofNat (48+u % 10)]:=by
 unfold restD
 rw [if_neg (by omega)]
 by_cases h1:u < 10
 ·rw [Lib.decDigits_one h1,if_pos (by omega),show u % 10=u by omega]; rfl
 ·rw [if_neg (by omega),Lib.decDigits,dif_neg h1]
theorem dec_rest {u:Nat} (h:0 < u):Lib.decDigits u=restD u:=by unfold restD; rw [if_neg (by omega)]
theorem itoa_0:Lib.itoa 0=[48]:=by unfold Lib.itoa; rw [if_neg (by decide)]; exact Lib.decDigits_one (by decide)
theorem itoa_p {n:Int} (h:0 < n):Lib.itoa n=restD n.toNat:=by unfold Lib.itoa; rw [if_neg (by omega),dec_rest (by omega)]
theorem itoa_n {n:Int} (h:n < 0):Lib.itoa n=45::restD n.natAbs:=by unfold Lib.itoa; rw [if_pos h,dec_rest (by omega)]
theorem one_str (k:Nat) (h:k < 256):strOfNums [(k:Int)]=⟨[UInt8.ofNat k].toArray⟩:=by
 unfold strOfNums
 simp
theorem rest_len {v u:Nat} {tl:List UInt8} (h:restD v++tl=restD u) (hu:(restD u).length≤21):tl.length≤21:=by
 have:=congrArg List.length h
 rw [List.length_append] at this
 omega
section
variable {v:Nat}
theorem tm_p:IntKind.i64.wrap (48+(v:Int).tmod 10)=((48+v % 10:Nat):Int):=by
 have e:(v:Int).tmod 10=((v % 10:Nat):Int):=rfl
 rw [e,show (48:Int)+((v % 10:Nat):Int)=((48+v % 10:Nat):Int) by omega]; exact wr64 _ (by omega) (by omega)
theorem td_p (h:v≤9223372036854775807):IntKind.i64.wrap ((v:Int).tdiv 10)=((v / 10:Nat):Int):=by
 have e:(v:Int).tdiv 10=((v / 10:Nat):Int):=rfl
 rw [e]; exact wr64 _ (by omega) (by omega)
theorem tm_n:IntKind.i64.wrap (48 - (-(v:Int)).tmod 10)=((48+v % 10:Nat):Int):=by
 have e:(-(v:Int)).tmod 10 = -((v % 10:Nat):Int):=by rw [Int.neg_tmod]; rfl
 rw [e,show (48:Int) - -((v % 10:Nat):Int)=((48+v % 10:Nat):Int) by omega]; exact wr64 _ (by omega) (by omega)
theorem td_n (h:v≤9223372036854775808):IntKind.i64.wrap ((-(v:Int)).tdiv 10) = -((v / 10:Nat):Int):=by
 have e:(-(v:Int)).tdiv 10 = -((v / 10:Nat):Int):=by rw [Int.neg_tdiv]; rfl
 rw [e]; exact wr64 _ (by omega) (by omega)
theorem dg_p:IntKind.u8.wrap ((48+v % 10:Nat):Int)=((48+v % 10:Nat):Int):=by rw [u8_wrap]; omega
theorem dg_b:∀ z∈[((48+v % 10:Nat):Int)],isB z:=fun z hz=>by rw [List.mem_singleton.1 hz]; unfold isB; omega
end
theorem opcv {X:Cx} {s:St} {o:Oper} {K:St→Prop} {t d:TypeId} {x:Operand} {A:Option Addr} {n c:Nat} {zs:List Int} (bs:List UInt8) (ho:o.op=.convert t d x) (hx:evO x s.fr=some (.v (.slice A n c))) (hz:∀ w,Hold X s.m s.ob w→BV w A n zs) (h1:X.P.underlying t=some (.slice 5)) (h2:X.P.underlying 5=some (.int .u8)) (h3:X.P.underlying d=some .string) (hs:strOfNums zs=⟨bs.toArray⟩) (h:put X.n o.dst (.v (.string ⟨bs.toArray⟩)) s K):OpVC X o s K :=
 opcs (zs:=zs) ho hx hz h1 h2 h3 (by rw [hs]; exact h)
attribute [local irreducible] Go.Calls restD
theorem decZ (w:World):Calls Tryd.prog 31 #[.int .i64 0] w fun e w'=>e=.returned (.string ⟨#[48]⟩)∧Since w w':=by
 refine ent tab_ok [.i .i64 0] Tryd.func31 Tryd.ntmps31 rfl rfl ?_
 repeat' ((conv=>whnf); first | refine sgo ⟨tab_ok⟩ ?_|refine br_not ?_|refine br_t rfl ?_|refine br_f rfl ?_|refine br_t (by assumption) ?_|refine br_f (by assumption) ?_|refine br_t (decide_eq_true (by assumption)) ?_|refine br_f (decide_eq_false (by assumption)) ?_|refine br_t (beq_iff_eq.2 (by assumption)) ?_|refine br_f (beq_eq_false_iff_ne.2 (by assumption)) ?_|intro b | refine drA ⟨tab_ok⟩ [] ?_|refine kpt ?_|refine br_t (decide_eq_true (by omega)) ?_|refine br_f (decide_eq_false (by omega)) ?_|refine fin_s ?_|refine fin_r ?_ ?_|refine fin_e ?_ ?_)
 all_goals rfl
set_option maxHeartbeats 4000000 in
theorem decP (u:Nat) (h0:0 < u) (h1:u≤9223372036854775807) (hl:(restD u).length≤21) (w:World):Calls Tryd.prog 31 #[.int .i64 (u:Int)] w fun e w'=>e=.returned (.string ⟨(restD u).toArray⟩)∧Since w w':=by
 have hne:((u:Int) == 0)=false:=beq_eq_false_iff_ne.2 (by omega)
 refine ent tab_ok [.i .i64 (u:Int)] Tryd.func31 Tryd.ntmps31 rfl rfl ?_
 repeat' ((conv=>whnf); first | refine sgo ⟨tab_ok⟩ ?_|refine br_not ?_|refine br_t rfl ?_|refine br_f rfl ?_|refine br_t (by assumption) ?_|refine br_f (by assumption) ?_|refine br_t (decide_eq_true (by assumption)) ?_|refine br_f (decide_eq_false (by assumption)) ?_|refine br_t (beq_iff_eq.2 (by assumption)) ?_|refine br_f (beq_eq_false_iff_ne.2 (by assumption)) ?_|intro b | refine drA ⟨tab_ok⟩ [] ?_|refine kpt ?_|refine br_t (decide_eq_true (by omega)) ?_|refine br_f (decide_eq_false (by omega)) ?_|refine br_f hne ?_|refine fin_s ?_|refine fin_r ?_ ?_|refine fin_e ?_ ?_)
 conv=>whnf
 refine lp ⟨tab_ok⟩ (ι:={x:Nat×List UInt8 // restD x.1++x.2=restD u∧x.1≤u}) (fun x=>match x with | ⟨(v,tl),_⟩=>⟨[(0,.i .i64 (v:Int)),(3,.v (.string ⟨tl.toArray⟩))],[],[]⟩) (fun x=>x.1.1) ⟨(u,[]),by simp,Nat.le_refl _⟩ (wk ?_) ?_
 ·repeat' (first | exact trivial | rfl | ((conv=>whnf); refine And.intro ?_ ?_))
 rintro ⟨⟨v,tl⟩,he,hv⟩
 have he:restD v++tl=restD u:=he
 have hv:v≤u:=hv
 have htl:=rest_len he hl
 by_cases hz:v=0
 ·subst hz
  have e0:tl=restD u:=by
   rw [← he]
   unfold restD
   rw [if_pos rfl]; rfl
  repeat' ((conv=>whnf); first | refine sgo ⟨tab_ok⟩ ?_|refine br_not ?_|refine br_t rfl ?_|refine br_f rfl ?_|refine br_t (by assumption) ?_|refine br_f (by assumption) ?_|refine br_t (decide_eq_true (by assumption)) ?_|refine br_f (decide_eq_false (by assumption)) ?_|refine br_t (beq_iff_eq.2 (by assumption)) ?_|refine br_f (beq_eq_false_iff_ne.2 (by assumption)) ?_|intro b | refine drA ⟨tab_ok⟩ [] ?_|refine kpt ?_|refine br_t (decide_eq_true (by omega)) ?_|refine br_f (decide_eq_false (by omega)) ?_|refine fin_s ?_|refine fin_r ?_ ?_|refine fin_e ?_ ?_)
  all_goals (rw [e0]; rfl)
 ·have he2:restD (v / 10)++([UInt8.ofNat (48+v % 10)]++tl)=restD u:=by rw [← he,rest_step (u:=v) (by omega),List.append_assoc]
  repeat' ((conv=>whnf); first | refine sgo ⟨tab_ok⟩ ?_|refine br_not ?_|refine br_t rfl ?_|refine br_f rfl ?_|refine br_t (by assumption) ?_|refine br_f (by assumption) ?_|refine br_t (decide_eq_true (by assumption)) ?_|refine br_f (decide_eq_false (by assumption)) ?_|refine br_t (beq_iff_eq.2 (by assumption)) ?_|refine br_f (beq_eq_false_iff_ne.2 (by assumption)) ?_|intro b | refine drA ⟨tab_ok⟩ [] ?_|refine kpt ?_|refine br_t (decide_eq_true (by omega)) ?_|refine br_f (decide_eq_false (by omega)) ?_|refine cd (by first | decide | omega) ?_|refine wr (tm_p (v:=v)) ?_|refine wr (td_p (v:=v) (by omega)) ?_|refine wr (dg_p (v:=v)) ?_|refine wr_i ?_|refine opbo ⟨tab_ok⟩ byteE [((48+v % 10:Nat):Int)] [_] [.i .u8 ((48+v % 10:Nat):Int)] (by rfl) (by rfl) (by rfl) rfl rfl (fun g0=>?_)|refine opcv (A:=some ⟨g0,0,none⟩) (n:=1) (zs:=[((48+v % 10:Nat):Int)]) [UInt8.ofNat (48+v % 10)] (by rfl) (by rfl) (fun w1 hH=>Byt.BV.of_own (byte_own.1 (Hold.ob hH (A:=rwO byteE w.heap.size (some ⟨g0,0,none⟩) 1 1 [((48+v % 10:Nat):Int)] true) 0 rfl)) dg_b) (Tryd.underlying38) (Tryd.underlying5) (Tryd.underlying9) (one_str _ (by omega)) ?_|refine opsa (xs:=[UInt8.ofNat (48+v % 10)]) (ys:=tl) (by rfl) (by rfl) (by rfl) (by show (1:Int)≤_; omega) (by omega) ?_|refine En.back ⟨(v / 10,[UInt8.ofNat (48+v % 10)]++tl),he2,by show v / 10≤u; omega⟩ (wkd ?_) ?_|refine fin_s ?_|refine fin_r ?_ ?_|refine fin_e ?_ ?_)
  all_goals first | (show v / 10 < v; omega)|skip
  all_goals (repeat' (first | exact trivial | rfl | ((conv=>whnf); refine And.intro ?_ ?_)))
set_option maxHeartbeats 4000000 in
theorem decN (u:Nat) (h0:0 < u) (h1:u≤9223372036854775808) (hl:(restD u).length≤21) (w:World):Calls Tryd.prog 31 #[.int .i64 (-(u:Int))] w fun e w'=>e=.returned (.string ⟨(45::restD u).toArray⟩)∧Since w w':=by
 have hne:((-(u:Int)) == 0)=false:=beq_eq_false_iff_ne.2 (by omega)
 obtain ⟨v,hvu⟩:∃ v,v=u:=⟨_,rfl⟩
 subst hvu
 have he0:restD (v / 10)++([UInt8.ofNat (48+v % 10)]++[])=restD v:=by rw [rest_step (u:=v) (by omega)]; simp
 refine ent tab_ok [.i .i64 (-(v:Int))] Tryd.func31 Tryd.ntmps31 rfl rfl ?_
 repeat' ((conv=>whnf); first | refine sgo ⟨tab_ok⟩ ?_|refine br_not ?_|refine br_t rfl ?_|refine br_f rfl ?_|refine br_t (by assumption) ?_|refine br_f (by assumption) ?_|refine br_t (decide_eq_true (by assumption)) ?_|refine br_f (decide_eq_false (by assumption)) ?_|refine br_t (beq_iff_eq.2 (by assumption)) ?_|refine br_f (beq_eq_false_iff_ne.2 (by assumption)) ?_|intro b | refine drA ⟨tab_ok⟩ [] ?_|refine kpt ?_|refine br_t (decide_eq_true (by omega)) ?_|refine br_f (decide_eq_false (by omega)) ?_|refine cd (by first | decide | omega) ?_|refine br_f hne ?_|refine wr (tm_n (v:=v)) ?_|refine wr (td_n (v:=v) (by omega)) ?_|refine wr (dg_p (v:=v)) ?_|refine wr_i ?_|refine opbo ⟨tab_ok⟩ byteE [((48+v % 10:Nat):Int)] [_] [.i .u8 ((48+v % 10:Nat):Int)] (by rfl) (by rfl) (by rfl) rfl rfl (fun g0=>?_)|refine opcv (A:=some ⟨g0,0,none⟩) (n:=1) (zs:=[((48+v % 10:Nat):Int)]) [UInt8.ofNat (48+v % 10)] (by rfl) (by rfl) (fun w1 hH=>Byt.BV.of_own (byte_own.1 (Hold.ob hH (A:=rwO byteE w.heap.size (some ⟨g0,0,none⟩) 1 1 [((48+v % 10:Nat):Int)] true) 0 rfl)) dg_b) (Tryd.underlying38) (Tryd.underlying5) (Tryd.underlying9) (one_str _ (by omega)) ?_|refine fin_s ?_|refine fin_r ?_ ?_|refine fin_e ?_ ?_)
 conv=>whnf
 refine lp ⟨tab_ok⟩ (ι:={x:Nat×List UInt8 // restD x.1++x.2=restD v∧x.1≤v}) (fun x=>match x with | ⟨(y,tl),_⟩=>⟨[(0,.i .i64 (-(y:Int))),(3,.v (.string ⟨tl.toArray⟩))],[],[]⟩) (fun x=>x.1.1) ⟨(v / 10,[UInt8.ofNat (48+v % 10)]++[]),he0,by show v / 10≤v; omega⟩ (wkd ?_) ?_
 ·repeat' (first | exact trivial | rfl | ((conv=>whnf); refine And.intro ?_ ?_))
 rintro ⟨⟨y,tl⟩,he,hv⟩
 have he:restD y++tl=restD v:=he
 have hv:y≤v:=hv
 have htl:=rest_len he hl
 by_cases hz:y=0
 ·subst hz
  have e0:tl=restD v:=by
   rw [← he]
   unfold restD
   rw [if_pos rfl]; rfl
  repeat' ((conv=>whnf); first | refine sgo ⟨tab_ok⟩ ?_|refine br_not ?_|refine br_t rfl ?_|refine br_f rfl ?_|refine br_t (by assumption) ?_|refine br_f (by assumption) ?_|refine br_t (decide_eq_true (by assumption)) ?_|refine br_f (decide_eq_false (by assumption)) ?_|refine br_t (beq_iff_eq.2 (by assumption)) ?_|refine br_f (beq_eq_false_iff_ne.2 (by assumption)) ?_|intro b | refine drA ⟨tab_ok⟩ [] ?_|refine kpt ?_|refine br_t (decide_eq_true (by omega)) ?_|refine br_f (decide_eq_false (by omega)) ?_|refine opsa (xs:=[45]) (ys:=tl) (by rfl) (by rfl) (by rfl) (by decide) (by omega) ?_|refine fin_s ?_|refine fin_r ?_ ?_|refine fin_e ?_ ?_)
  all_goals (rw [e0]; rfl)
 ·have he2:restD (y / 10)++([UInt8.ofNat (48+y % 10)]++tl)=restD v:=by rw [← he,rest_step (u:=y) (by omega),List.append_assoc]
  repeat' ((conv=>whnf); first | refine sgo ⟨tab_ok⟩ ?_|refine br_not ?_|refine br_t rfl ?_|refine br_f rfl ?_|refine br_t (by assumption) ?_|refine br_f (by assumption) ?_|refine br_t (decide_eq_true (by assumption)) ?_|refine br_f (decide_eq_false (by assumption)) ?_|refine br_t (beq_iff_eq.2 (by assumption)) ?_|refine br_f (beq_eq_false_iff_ne.2 (by assumption)) ?_|intro b | refine drA ⟨tab_ok⟩ [] ?_|refine kpt ?_|refine br_t (decide_eq_true (by omega)) ?_|refine br_f (decide_eq_false (by omega)) ?_|refine cd (by first | decide | omega) ?_|refine wr (tm_n (v:=y)) ?_|refine wr (td_n (v:=y) (by omega)) ?_|refine wr (dg_p (v:=y)) ?_|refine wr_i ?_|refine opbo ⟨tab_ok⟩ byteE [((48+y % 10:Nat):Int)] [_] [.i .u8 ((48+y % 10:Nat):Int)] (by rfl) (by rfl) (by rfl) rfl rfl (fun g0=>?_)|refine opcv (A:=some ⟨g0,0,none⟩) (n:=1) (zs:=[((48+y % 10:Nat):Int)]) [UInt8.ofNat (48+y % 10)] (by rfl) (by rfl) (fun w1 hH=>Byt.BV.of_own (byte_own.1 (Hold.ob hH (A:=rwO byteE w.heap.size (some ⟨g0,0,none⟩) 1 1 [((48+y % 10:Nat):Int)] true) 0 rfl)) dg_b) (Tryd.underlying38) (Tryd.underlying5) (Tryd.underlying9) (one_str _ (by omega)) ?_|refine opsa (xs:=[UInt8.ofNat (48+y % 10)]) (ys:=tl) (by rfl) (by rfl) (by rfl) (by show (1:Int)≤_; omega) (by omega) ?_|refine En.back ⟨(y / 10,[UInt8.ofNat (48+y % 10)]++tl),he2,by show y / 10≤v; omega⟩ (wkd ?_) ?_|refine fin_s ?_|refine fin_r ?_ ?_|refine fin_e ?_ ?_)
  all_goals first | (show y / 10 < y; omega)|skip
  all_goals (repeat' (first | exact trivial | rfl | ((conv=>whnf); refine And.intro ?_ ?_)))
theorem decT (n:Int) (h:n64 n) (w:World):Calls Tryd.prog 31 #[.int .i64 n] w fun e w'=>e=.returned (.string ⟨(Lib.itoa n).toArray⟩)∧Since w w':=by
 unfold n64 at h
 have hl:=Lib.itoa_length_le n h.1 h.2
 rcases Int.lt_trichotomy n 0 with h0 | h0 | h0
 ·have e:n = -((n.natAbs:Nat):Int):=by omega
  rw [itoa_n h0] at hl ⊢
  have:=decN n.natAbs (by omega) (by omega) (by simp only [List.length_cons] at hl; omega) w
  rw [← e] at this
  exact this
 ·subst h0
  rw [itoa_0]
  exact decZ w
 ·have e:n=((n.toNat:Nat):Int):=by omega
  rw [itoa_p h0] at hl ⊢
  have:=decP n.toNat (by omega) (by omega) hl w
  rw [← e] at this
  exact this
end Gw
namespace En
open Go.RowKit Ba Mem
structure QuVC (X:Cx) (o:Oper) (s:St) (K:SV→Prop):Prop where
 out:∃ v,okV s.m.length v=true∧(∀ a:Act,FrOk s.m a.tmps s.fr→∀ w,Hold X s.m s.ob w→(execOp a.eval o).run X.P w=.ok (.value (den s.m v)) w)∧K v
def exQ (X:Cx) (ops:List Oper):Pl→St→(St→Prop)→Prop
 | .done,s,K=>K s
 | .tk i r,s,K=>match ops[i]? with
  | none=>False
  | some o=>wantK ops o.guard s.fr
    (pe X.tab o.op s.fr (fun v=>put X.n o.dst v s fun s=>exQ X ops r s K) (QuVC X o s fun v=>put X.n o.dst v s fun s=>exQ X ops r s K))
    (put X.n o.dst (.v undef) s fun s=>exQ X ops r s K)
 | _,_,_=>False
section
variable {X:Cx} {s:St} {o:Oper}
theorem quP {K:SV→Prop} (h:PuVC X o s K):QuVC X o s K :=
 have ⟨v,h1,h2,h3⟩:=h.out
 ⟨⟨v,h1,fun a hf w _=>h2 a hf w,h3⟩⟩
theorem exQ_of {K:St→Prop} (hX:X.Ok) {ops:Array Oper} {m0:List Row} {ob0:List Asr} {Q:Exit→Act→World→Prop} (hs:Region.noSelect ops=true) (hQ:∀ a w s,Rel X s a w→K s→Q .normal a w) (hP:∀ c a w,¬ Q (.panic c) a w) :
  ∀ {pl:Pl} {n:Nat} {L:Array Bool} {s:St} {a:Act} {w:World},chk ops n L pl=true→Clo ops L→Rel X s a w→s.m=m0→s.ob=ob0→exQ X ops.toList pl s K→AnyL X.P ops Q (fun _ w=>Hold X m0 ob0 w) n L a w
 | .done,n,L,s,a,w,hc,hcl,hR,hm,hb,h=>by
  cases n with
  | zero=>simp only [chk] at hc; exact ⟨eq_of_beq hc,hQ a w s hR h⟩
  | succ n=>simp only [chk] at hc; exact ⟨fun _=>hQ a w s hR h,by rw [eq_of_beq hc]; simp⟩
 | .tk i r,0,L,s,a,w,hc,_,_,_,_,h=>by simp [chk] at hc
 | .ef i r,n,L,s,a,w,_,_,_,_,_,h=>h.elim
 | .fk i j r q,n,L,s,a,w,_,_,_,_,_,h=>h.elim
 | .f3 i j k r q t,n,L,s,a,w,_,_,_,_,_,h=>h.elim
 | .tk i r,n+1,L,s,a,w,hc,hcl,hR,hm,hb,h=>by
  simp only [chk,Bool.and_eq_true] at hc
  obtain ⟨⟨c1,c2⟩,c3⟩:=hc
  have c2:i∈Region.ready .any ops L:=by simpa using c2
  unfold exQ at h
  have hidx:ops.toList[i]?=ops[i]?:=by simp
  rw [hidx] at h
  cases ho:ops[i]? with
  | none=>rw [ho] at h; exact h.elim
  | some o =>
   simp only [ho] at h
   subst hm hb
   have fin:∀ (v:SV),okV s.m.length v=true→YieldsIf X.P ops (fun w=>Hold X s.m s.ob w) o (den s.m v) a→(put X.n o.dst v s fun s=>exQ X ops.toList r s K)→AnyL X.P ops Q (fun _ w=>Hold X s.m s.ob w) (n+1) L a w:=fun v hv hy h=>by
    obtain ⟨s',r1,r2,r3,r4⟩:=put_of hR.ds hR.sz hR.fr hR.h hv h
    have hn:=exQ_of hX hs hQ hP c3 (hcl.set c2) r1 r2 r3 r4
    exact AnyL.first (P:=X.P) (S:=fun _ w=>Hold X s.m s.ob w) (T:=fun w=>Hold X s.m s.ob w) ho hs hP (fun L w _ _ h=>h) (fun L w h=>h) (fun L w h=>h) hcl c1 c2 hy hR.h hn
   rcases want_of hR.fr h with ⟨hw,h⟩ | ⟨hw,h⟩
   ·rcases pe_of (o:=o) (a:=a) (m:=s.m) hX.tab hR.fr rfl h with h | ⟨v,h1,h2,h3⟩
    ·obtain ⟨v,h1,h2,h3⟩:=h.out
     exact fin v h1 (.inl ⟨hw,fun w' hH=>h2 a hR.fr w' hH⟩) h3
    ·exact fin v h1 (.inl ⟨hw,fun w' _=>h2 w'⟩) h3
   ·exact fin (.v undef) rfl (.inr ⟨hw,rfl⟩) h
theorem quxc {K:SV→Prop} {t:TypeId} {x:Operand} {g off:Nat} {ad:Addr} (v:SV) (hr:∀ w,Hold X s.m s.ob w→w.rangeAt g off [den s.m v]) (hX:X.Ok) (ho:o.op=.load t x) (hx:evO x s.fr=some (.v (.pointer (some ad)))) (had:ad=⟨g,off,none⟩) (h:K v)
  (hn:(match tyO t X.tab with | some y=>!y.row | none=>false)=true:=by rfl) (hv:okV s.m.length v=true:=by rfl):QuVC X o s K:=by
 subst had
 refine ⟨⟨v,hv,fun a hf w hH=>?_,h⟩⟩
 cases hy:tyO t X.tab with
 | none=>simp [hy] at hn
 | some y =>
  simp only [hy,Bool.not_eq_true'] at hn
  obtain ⟨d,i,T⟩:=(hX.tab _ _ hy).out
  have he:=(evO_of hf hx).2
  have hc:w.cell? ⟨g,off,none⟩=some (den s.m v):=hr w hH 0 _ rfl
  have hrow:=T.row
  rw [hn] at hrow
  have hagg:(isAgg t).run X.P w=.ok false w:=by
   unfold isAgg
   rw [Sem.run_bind,run_underlying T.un w]
   cases d <;> simp_all [TypeDesc.isRow]
  unfold execOp
  simp only [ho,he,den,Instr.loadAt,Instr.sureAddr,Sem.run_bind,Sem.run_pure,Result.andThen_ok]
  simp [loadVar,Sem.run_bind,hagg,hc]
theorem drQ (hX:X.Ok) {id:Nat} {ops:Array Oper} {K:Exit→St→Prop}
  (h:exQ X ops.toList (planOf [] ops.toList) s (K .normal)) (hm:X.P.follows .mixedOrders=true:=by kernel_rfl)
  (hc:(Region.noSelect ops && chk ops ops.size (Array.replicate ops.size false) (planOf [] ops.toList))=true:=by kernel_rfl):Sm X (.region id ops true) s K:=by
 refine ⟨?_⟩
 intro a w hR
 simp only [Bool.and_eq_true] at hc
 have hR':Rel X s a w.drew:=⟨hR.ds,hR.sz,hR.fr,hR.h.drew⟩
 have hcl:Clo ops (Array.replicate ops.size false):=fun k o ho hk=>by
  have hlt:=(Array.getElem?_eq_some_iff.1 ho).1
  simp [hlt] at hk
 have hA:=exQ_of (K:=K .normal) (Q:=Qof X K) hX hc.1 (fun a w s hR h=>(⟨s,hR,h⟩:Qof X K .normal a w)) (fun c a w h=>h) hc.2 hcl hR' rfl rfl h
 exact wp_region_any hm hA.out
end
end En
namespace Sx
open Go.Lib (atoiAll parseUint10 parseMag itoa decDigits nDigits decDigits_one decDigits_length)
def dgs (acc:Nat):List UInt8→Option Nat
 | []=>some acc
 | c::r=>if 48≤c.toNat∧c.toNat≤57 then dgs (acc*10+(c.toNat - 48)) r else none
theorem dgs_ge:∀ (l:List UInt8) (acc u:Nat),dgs acc l=some u→acc≤u
 | [],acc,u,h=>by injection h with h; omega
 | c::r,acc,u,h=>by
  unfold dgs at h
  split at h
  ·have:=dgs_ge r _ u h; omega
  ·cases h
theorem dgs_app:∀ (l:List UInt8) (acc:Nat) (c:UInt8),dgs acc (l++[c])=(dgs acc l).bind fun u=>dgs u [c]
 | [],acc,c=>rfl
 | x::r,acc,c=>by
  show dgs acc (x::(r++[c]))=(dgs acc (x::r)).bind _
  unfold dgs
  split
  ·exact dgs_app r _ c
  ·rfl
theorem dgs_parse:∀ (l:List UInt8) (acc u:Nat),u < 18446744073709551616→dgs acc l=some u→parseUint10 acc l=.ok u
 | [],acc,u,_,h=>by injection h with h; subst h; rfl
 | c::r,acc,u,hu,h=>by
  unfold dgs at h
  split at h
  ·rename_i hc
   have h1:=dgs_ge r _ u h
   unfold parseUint10
   rw [if_pos hc,if_neg (by omega),if_neg (by omega)]
   exact dgs_parse r _ u hu h
  ·cases h
theorem of48 {d:Nat} (h:d < 10):(UInt8.ofNat (48+d)).toNat=48+d:=by
 rw [UInt8.toNat_ofNat']; omega
theorem dgs_dec (u:Nat):dgs 0 (decDigits u)=some u:=by
 induction u using Nat.strongRecOn with
 | _ u ih =>
  by_cases h:u < 10
  ·rw [decDigits_one h]
   unfold dgs
   rw [of48 h,if_pos (by omega)]
   unfold dgs
   congr 1; omega
  ·rw [decDigits,dif_neg h,dgs_app,ih (u / 10) (by omega)]
   show dgs (u / 10) [UInt8.ofNat (48+u % 10)]=_
   unfold dgs
   rw [of48 (Nat.mod_lt _ (by decide)),if_pos (by omega)]
   unfold dgs
   congr 1; omega
theorem dec_ne (u:Nat):decDigits u≠[]:=by
 intro h
 have h1:=decDigits_length u
 rw [h] at h1
 have:=Lib.nDigits_pos u
 simp at h1; omega
theorem dec_head (u:Nat) (h:0 < u):(decDigits u).head?≠some 48:=by
 induction u using Nat.strongRecOn with
 | _ u ih =>
  by_cases h1:u < 10
  ·rw [decDigits_one h1]
   intro e
   injection e with e
   have:=congrArg UInt8.toNat e
   rw [of48 h1] at this
   have h48:(48:UInt8).toNat=48:=rfl
   omega
  ·rw [decDigits,dif_neg h1,List.head?_append]
   have:=ih (u / 10) (by omega) (by omega)
   cases e:(decDigits (u / 10)).head? with
   | none=>rw [List.head?_eq_none_iff] at e; exact absurd e (dec_ne _)
   | some c=>rw [e] at this; exact this
theorem dec_of:∀ (n:Nat) (l:List UInt8) (u:Nat),l.length≤n→l≠[]→(l.head?=some 48→l=[48])→dgs 0 l=some u→decDigits u=l
 | 0,l,u,hn,h0,_,_=>absurd (List.length_eq_zero_iff.1 (by omega)) h0
 | n+1,l,u,hn,h0,h48,h=>by
  obtain ⟨r,c,rfl⟩:∃ r c,l=r++[c]:=⟨l.dropLast,l.getLast h0,(List.dropLast_concat_getLast h0).symm⟩
  rw [dgs_app] at h
  cases hr:dgs 0 r with
  | none=>rw [hr] at h; cases h
  | some v =>
   rw [hr] at h
   have h:dgs v [c]=some u:=h
   unfold dgs at h
   split at h
   ·rename_i hc
    have h:dgs (v*10+(c.toNat - 48)) []=some u:=h
    unfold dgs at h
    injection h with h
    have ec:UInt8.ofNat (48+(c.toNat - 48))=c:=by
     apply UInt8.toNat_inj.1
     rw [of48 (by omega)]; omega
    by_cases hr0:r=[]
    ·subst hr0
     injection hr with hr
     subst hr
     have hu:u < 10:=by omega
     rw [decDigits_one hu,show u=c.toNat - 48 by omega,ec]
     rfl
    ·have hh:r.head?=(r++[c]).head?:=by rw [List.head?_append]; cases e:r.head? with | none=>rw [List.head?_eq_none_iff] at e; exact absurd e hr0 | some x=>rfl
     have hz:r.head?≠some 48:=fun e=>by
      have:=h48 (by rw [← hh]; exact e)
      have:=congrArg List.length this
      simp at this
      exact hr0 this
     have hxd:=dec_of n r v (by simp at hn; omega) hr0 (fun e=>absurd e hz) hr
     have hv:0 < v:=by
      rcases Nat.eq_zero_or_pos v with rfl | h1
      ·rw [decDigits_one (by decide)] at hxd
       rw [← hxd] at hz
       exact absurd rfl hz
      ·exact h1
     rw [decDigits,dif_neg (by omega),show u / 10=v by omega,hxd,show u % 10=c.toNat - 48 by omega,ec]
   ·cases h
def numV (s:List UInt8):Option Int:=match atoiAll s with
 | .ok n=>if itoa n=s then some n else none
 | _=>none
def mostN (neg:Bool):Nat:=if neg=true then 9223372036854775808 else 9223372036854775807
def negB (s:List UInt8):Bool:=s.head? == some 45
def tailB (s:List UInt8):List UInt8:=if negB s=true then s.drop 1 else s
def numR (s:List UInt8):Option Int :=
 if tailB s=[]∨19 < (tailB s).length∨((tailB s).head?=some 48∧s≠[48]) then none
 else match dgs 0 (tailB s) with
  | none=>none
  | some u=>if mostN (negB s) < u then none else some (if negB s=true then -(u:Int) else (u:Int))
theorem dec_len {u:Nat} (h:u≤9223372036854775808):(decDigits u).length≤19:=by
 rw [decDigits_length]
 rcases Nat.lt_or_ge 19 (nDigits u) with h1 | h1
 ·exfalso
  have key:∀ (k u:Nat),10 ^ (k+1) > u→nDigits u≤k+1:=by
   intro k
   induction k with
   | zero=>intro u hu; rw [Lib.nDigits_small (by omega)]; omega
   | succ k ih =>
    intro u hu
    by_cases hs:u < 10
    ·rw [Lib.nDigits_small hs]; omega
    ·rw [Lib.nDigits_big hs]
     have:=ih (u / 10) (by rw [Nat.pow_succ] at hu; omega)
     omega
  have:=key 18 u (by omega)
  omega
 ·exact h1
theorem dec_not45 (u:Nat):(decDigits u).head?≠some 45:=by
 intro h
 have h1:=dgs_dec u
 cases e:decDigits u with
 | nil=>exact dec_ne u e
 | cons c r =>
  rw [e] at h h1
  injection h with h
  subst h
  unfold dgs at h1
  rw [if_neg (by decide)] at h1
  cases h1
theorem numR_itoa {n:Int} (h0 : -9223372036854775808≤n) (h1:n≤9223372036854775807):numR (itoa n)=some n:=by
 unfold itoa
 by_cases hn:n < 0
 ·rw [if_pos hn]
  have hb:negB (45::decDigits n.natAbs)=true:=rfl
  have ht:tailB (45::decDigits n.natAbs)=decDigits n.natAbs:=by unfold tailB; rw [if_pos hb]; rfl
  unfold numR
  rw [ht,hb,dgs_dec,if_neg]
  ·simp only [mostN,if_true]
   rw [if_neg (by omega)]
   congr 1; omega
  ·rintro (h | h | h)
   ·exact dec_ne _ h
   ·have:=dec_len (u:=n.natAbs) (by omega); omega
   ·exact dec_head n.natAbs (by omega) h.1
 ·rw [if_neg hn]
  have hb:negB (decDigits n.toNat)=false:=by
   unfold negB
   exact beq_eq_false_iff_ne.2 (dec_not45 _)
  have ht:tailB (decDigits n.toNat)=decDigits n.toNat:=by unfold tailB; rw [hb]; rfl
  unfold numR
  rw [ht,hb,dgs_dec,if_neg]
  ·simp only [mostN,Bool.false_eq_true,if_false]
   rw [if_neg (by omega)]
   congr 1; omega
  ·rintro (h | h | h)
   ·exact dec_ne _ h
   ·have:=dec_len (u:=n.toNat) (by omega); omega
   ·rcases Nat.eq_zero_or_pos n.toNat with h3 | h3
    ·exact h.2 (by rw [h3,decDigits_one (by decide)]; rfl)
    ·exact dec_head _ h3 h.1
theorem numR_is {s:List UInt8} {n:Int} (h:numR s=some n):s=itoa n ∧ -9223372036854775808≤n∧n≤9223372036854775807:=by
  unfold numR at h
  split at h
  · cases h
  rename_i hc
  have hc1:tailB s≠[]:=fun e=>hc (.inl e)
  have hc3:¬ ((tailB s).head?=some 48∧s≠[48]):=fun e=>hc (.inr (.inr e))
  cases hxd:dgs 0 (tailB s) with
  | none=>rw [hxd] at h; cases h
  | some u =>
    rw [hxd] at h
    simp only [] at h
    split at h
    · cases h
    rename_i hm
    injection h with h
    cases hb:negB s with
    | true =>
      have ht:tailB s=s.drop 1:=by unfold tailB; rw [if_pos hb]
      have hs:s=45::s.drop 1:=by
        unfold negB at hb
        cases s with
        | nil=>cases hb
        | cons c r => have : c = 45 := by simpa using hb
                      subst this; rfl
      have hdec:=dec_of _ (tailB s) u (Nat.le_refl _) hc1 (fun e=>absurd ⟨e,fun e2=>by rw [e2] at hb; cases hb⟩ hc3) hxd
      have hu:0 < u:=by
        rcases Nat.eq_zero_or_pos u with h3 | h3
        · rw [h3,decDigits_one (by decide)] at hdec
          exact absurd ⟨by rw [← hdec]; rfl,fun e2=>by rw [e2] at hb; cases hb⟩ hc3
        · exact h3
      rw [hb] at h hm
      simp only [if_true,mostN] at h hm
      refine ⟨?_,by omega,by omega⟩
      rw [← h,Lib.itoa_neg u (by omega),hdec,ht]; exact hs
    | false =>
      have ht:tailB s=s:=by unfold tailB; rw [hb]; rfl
      rw [ht] at hc1 hc3 hxd
      have hdec:=dec_of _ s u (Nat.le_refl _) hc1 (fun e=>Classical.byContradiction fun e2=>hc3 ⟨e,e2⟩) hxd
      rw [hb] at h hm
      simp only [Bool.false_eq_true,if_false,mostN] at h hm
      refine ⟨?_,by omega,by omega⟩
      rw [← h,Lib.itoa_nonneg u,hdec]
theorem atoi_itoa {n:Int} (h0 : -9223372036854775808≤n) (h1:n≤9223372036854775807):atoiAll (itoa n)=.ok n:=by
 unfold itoa
 by_cases hn:n < 0
 ·rw [if_pos hn]
  unfold atoiAll
  simp only []
  rw [if_pos (.inr (by decide))]
  unfold parseMag
  rw [if_neg (dec_ne _),dgs_parse _ 0 n.natAbs (by omega) (dgs_dec _)]
  simp only []
  rw [if_neg (fun h=>h.1 (by decide)),if_neg (fun h=>by omega),if_pos (by decide)]
  congr 1; omega
 ·rw [if_neg hn]
  cases e:decDigits n.toNat with
  | nil=>exact absurd e (dec_ne _)
  | cons c r =>
   have hxd:=dgs_dec n.toNat
   rw [e] at hxd
   have hc:48≤c.toNat∧c.toNat≤57:=by
    unfold dgs at hxd
    split at hxd
    ·assumption
    ·cases hxd
   unfold atoiAll
   simp only []
   rw [if_neg (by omega)]
   unfold parseMag
   rw [if_neg (by simp),dgs_parse _ 0 n.toNat (by omega) hxd]
   simp only []
   rw [if_neg (by omega),if_neg (by omega),if_neg (by omega)]
   congr 1; omega
theorem numV_itoa {n:Int} (h0 : -9223372036854775808≤n) (h1:n≤9223372036854775807):numV (itoa n)=some n:=by
 unfold numV; rw [atoi_itoa h0 h1]; simp
theorem atoi_bd {s:List UInt8} {n:Int} (h:atoiAll s=.ok n) : -9223372036854775808≤n∧n≤9223372036854775807:=by
 unfold atoiAll at h
 cases s with
 | nil=>cases h
 | cons c r =>
  simp only [] at h
  cases hp:parseMag (if c.toNat=43∨c.toNat=45 then r else c::r) with
  | ok u =>
   rw [hp] at h
   simp only [] at h
   split at h
   ·cases h
   ·split at h
    ·cases h
    ·rename_i h2 h3
     injection h with h
     by_cases h45:c.toNat=45
     ·rw [if_pos h45] at h; omega
     ·rw [if_neg h45] at h; omega
  | _ => rw [hp] at h; cases h
theorem num_same (s:List UInt8):numV s=numR s:=by
 cases h:numR s with
 | some n =>
  obtain ⟨h1,h2,h3⟩:=numR_is h
  rw [h1]; exact numV_itoa h2 h3
 | none =>
  unfold numV
  cases e:atoiAll s with
  | ok n =>
   simp only []
   by_cases hi:itoa n=s
   ·have:=numR_itoa (atoi_bd e).1 (atoi_bd e).2
    rw [hi,h] at this; cases this
   ·rw [if_neg hi]
  | _ => rfl
theorem itoa_chars (n:Int):∀ c∈itoa n,c=45∨(48≤c.toNat∧c.toNat≤57):=by
 have dd:∀ u:Nat,∀ c∈decDigits u,48≤c.toNat∧c.toNat≤57:=by
  intro u
  have key:∀ (l:List UInt8) (acc v:Nat),dgs acc l=some v→∀ c∈l,48≤c.toNat∧c.toNat≤57:=by
   intro l
   induction l with
   | nil=>intro _ _ _ c hc; cases hc
   | cons x r ih =>
    intro acc v h c hc
    unfold dgs at h
    split at h
    ·rename_i hx
     rcases List.mem_cons.1 hc with rfl | hc
     ·exact hx
     ·exact ih _ _ h c hc
    ·cases h
  exact key _ 0 u (dgs_dec u)
 unfold itoa
 split
 ·intro c hc
  rcases List.mem_cons.1 hc with rfl | hc
  ·exact .inl rfl
  ·exact .inr (dd _ c hc)
 ·intro c hc
  exact .inr (dd _ c hc)
end Sx
namespace Sx
open Go.Lib (itoa)
def spl:List UInt8→List (List UInt8)
 | []=>[[]]
 | c::r=>if c=32 then []::spl r else match spl r with
  | []=>[[c]]
  | w::ws=>(c::w)::ws
theorem spl_c (c:UInt8) (r:List UInt8):spl (c::r)=if c=32 then []::spl r else match spl r with
  | []=>[[c]]
  | w::ws=>(c::w)::ws:=rfl
theorem spl_blank (w r:List UInt8) (h:∀ c∈w,c≠32):spl (w++32::r)=w::spl r:=by
 induction w with
 | nil=>show spl (32::r)=_; rw [spl_c,if_pos rfl]
 | cons c w ih =>
  show spl (c::(w++32::r))=_
  rw [spl_c,if_neg (h c (List.mem_cons_self ..)),ih (fun c hc=>h c (List.mem_cons_of_mem _ hc))]
theorem spl_one (w:List UInt8) (h:∀ c∈w,c≠32):spl w=[w]:=by
 induction w with
 | nil=>rfl
 | cons c w ih =>
  rw [spl_c,if_neg (h c (List.mem_cons_self ..)),ih (fun c hc=>h c (List.mem_cons_of_mem _ hc))]
def hx (c:UInt8):Option Nat:=if 48≤c.toNat∧c.toNat≤57 then some (c.toNat - 48) else if 97≤c.toNat∧c.toNat≤102 then some (c.toNat - 87) else none
def hxd (d:Nat):UInt8:=if d < 10 then UInt8.ofNat (48+d) else UInt8.ofNat (87+d)
theorem hx_lt {c:UInt8} {d:Nat} (h:hx c=some d):d < 16:=by
 unfold hx at h
 split at h
 ·injection h with h; omega
 ·split at h
  ·injection h with h; omega
  ·cases h
theorem hx_hd:∀ d:Fin 16,hx (hxd d.val)=some d.val:=by decide
theorem hx_hd' {d:Nat} (h:d < 16):hx (hxd d)=some d:=hx_hd ⟨d,h⟩
theorem hd_no:∀ d:Fin 16,hxd d.val≠32∧hxd d.val≠10:=by decide
def hexL (bs:List Nat):List UInt8:=bs.flatMap fun b=>[hxd (b / 16),hxd (b % 16)]
def hexV:List UInt8→Option (List Nat)
 | []=>some []
 | [_]=>none
 | a::b::r=>match hx a,hx b with
  | some x,some y=>(hexV r).map fun l=>(x*16+y)::l
  | _,_=>none
theorem hexV_hexL:∀ (bs:List Nat),(∀ b∈bs,b < 256)→hexV (hexL bs)=some bs
 | [],_=>rfl
 | b::r,h=>by
  have hb:=h b (List.mem_cons_self ..)
  show hexV (hxd (b / 16)::hxd (b % 16)::hexL r)=_
  unfold hexV
  rw [hx_hd' (by omega),hx_hd' (Nat.mod_lt _ (by decide)),hexV_hexL r (fun b hb=>h b (List.mem_cons_of_mem _ hb))]
  simp only [Option.map_some]
  congr 2; omega
theorem hexL_no (bs:List Nat) (h:∀ b∈bs,b < 256):∀ c∈hexL bs,c≠32∧c≠10:=by
 intro c hc
 obtain ⟨b,hb,hc⟩:=List.mem_flatMap.1 hc
 have:=h b hb
 simp only [List.mem_cons,List.not_mem_nil,or_false] at hc
 rcases hc with rfl | rfl
 ·exact hd_no ⟨b / 16,by omega⟩
 ·exact hd_no ⟨b % 16,Nat.mod_lt _ (by decide)⟩
theorem hexL_len (bs:List Nat):(hexL bs).length=2*bs.length:=by
 unfold hexL
 induction bs with
 | nil=>rfl
 | cons b r ih=>rw [List.flatMap_cons,List.length_append,ih]; simp; omega
def datV (w:List UInt8):Option (List Nat):=match w with
 | []=>none
 | c::r=>if c=120 then hexV r else none
structure SP where
 k:Int
 a:Int
 b:Int
 d:List Nat
structure SPok (x:SP):Prop where
 k : -9223372036854775808≤x.k∧x.k≤9223372036854775807
 a : -9223372036854775808≤x.a∧x.a≤9223372036854775807
 b : -9223372036854775808≤x.b∧x.b≤9223372036854775807
 d:∀ z∈x.d,z < 256
def lineP (x:SP):List UInt8:=itoa x.k++32::(itoa x.a++32::(itoa x.b++32::120::hexL x.d))
def printP (l:List SP):List UInt8:=l.flatMap fun x=>lineP x++[10]
def lineW:List (List UInt8)→Option SP
 | [p,q,r,t]=>match numV p,numV q,numV r,datV t with
  | some k,some a,some b,some d=>some ⟨k,a,b,d⟩
  | _,_,_,_=>none
 | _=>none
theorem lineW_4 (p q r t:List UInt8):lineW [p,q,r,t]=match numV p,numV q,numV r,datV t with
  | some k,some a,some b,some d=>some ⟨k,a,b,d⟩
  | _,_,_,_=>none:=rfl
theorem datV_x (r:List UInt8):datV (120::r)=hexV r:=rfl
def lineV (s:List UInt8):Option SP:=lineW (spl s)
theorem itoa_no (n:Int):∀ c∈itoa n,c≠32∧c≠10:=by
 intro c hc
 rcases itoa_chars n c hc with rfl | h
 ·decide
 ·refine ⟨fun e=>?_,fun e=>?_⟩ <;> (subst e; revert h; decide)
theorem spl_line {x:SP} (h:SPok x):spl (lineP x)=[itoa x.k,itoa x.a,itoa x.b,120::hexL x.d]:=by
 unfold lineP
 rw [spl_blank _ _ (fun c hc=>(itoa_no _ c hc).1),spl_blank _ _ (fun c hc=>(itoa_no _ c hc).1),spl_blank _ _ (fun c hc=>(itoa_no _ c hc).1),spl_one]
 intro c hc
 rcases List.mem_cons.1 hc with rfl | hc
 ·decide
 ·exact (hexL_no _ h.d c hc).1
theorem line_line {x:SP} (h:SPok x):lineV (lineP x)=some x:=by
 unfold lineV
 rw [spl_line h]
 rw [lineW_4,numV_itoa h.k.1 h.k.2,numV_itoa h.a.1 h.a.2,numV_itoa h.b.1 h.b.2,datV_x,hexV_hexL _ h.d]
theorem line_no {x:SP} (h:SPok x):∀ c∈lineP x,c≠10:=by
 intro c hc
 unfold lineP at hc
 simp only [List.mem_append,List.mem_cons] at hc
 rcases hc with hc | rfl | hc | rfl | hc | rfl | rfl | hc
 ·exact (itoa_no _ c hc).2
 ·decide
 ·exact (itoa_no _ c hc).2
 ·decide
 ·exact (itoa_no _ c hc).2
 ·decide
 ·decide
 ·exact (hexL_no _ h.d c hc).2
def nl (s:List UInt8):Option Nat:=s.findIdx? (· == 10)
def rdT (n:Nat) (acc:List SP) (s:List UInt8):List SP×Nat :=
 if hs:s=[] then (acc,0) else match h:nl s with
 | none=>([],n+1)
 | some i=>match lineV (s.take i) with
  | none=>([],n+1)
  | some x=>rdT (n+1) (acc++[x]) (s.drop (i+1))
termination_by s.length
decreasing_by
 have hi:=(List.findIdx?_eq_some_iff_getElem.1 h).1
 rw [List.length_drop]; omega
theorem rdT_nil (n:Nat) (acc:List SP):rdT n acc []=(acc,0):=by rw [rdT,dif_pos rfl]
theorem rdT_none {n:Nat} {acc:List SP} {s:List UInt8} (hs:s≠[]) (h:nl s=none):rdT n acc s=([],n+1):=by
 rw [rdT,dif_neg hs]
 split
 ·rfl
 ·rename_i i hi; rw [h] at hi; cases hi
theorem rdT_bad {n i:Nat} {acc:List SP} {s:List UInt8} (h:nl s=some i) (hl:lineV (s.take i)=none):rdT n acc s=([],n+1):=by
 rw [rdT,dif_neg (fun e=>by rw [e] at h; cases h)]
 split
 ·rfl
 ·rename_i j hj
  rw [h] at hj; injection hj with hj; subst hj
  rw [hl]
theorem rdT_ok {n i:Nat} {acc:List SP} {s:List UInt8} {x:SP} (h:nl s=some i) (hl:lineV (s.take i)=some x):rdT n acc s=rdT (n+1) (acc++[x]) (s.drop (i+1)):=by
 rw [rdT,dif_neg (fun e=>by rw [e] at h; cases h)]
 split
 ·rename_i hj; rw [h] at hj; cases hj
 ·rename_i j hj
  rw [h] at hj; injection hj with hj; subst hj
  rw [hl]
theorem nl_at (l r:List UInt8) (h:∀ c∈l,c≠10):nl (l++10::r)=some l.length:=by
 refine List.findIdx?_eq_some_iff_getElem.2 ⟨by simp,by simp,fun j hj=>?_⟩
 rw [List.getElem_append_left hj]
 simpa using h _ (List.getElem_mem hj)
theorem nl_no (l:List UInt8) (h:∀ c∈l,c≠10):nl l=none :=
 List.findIdx?_eq_none_iff.2 fun c hc=>by simpa using h c hc
theorem rdT_line {n:Nat} {acc:List SP} {l r:List UInt8} (h:∀ c∈l,c≠10):rdT n acc (l++10::r)=match lineV l with
  | none=>([],n+1)
  | some x=>rdT (n+1) (acc++[x]) r:=by
 have h1:=nl_at l r h
 have h2:(l++10::r).take l.length=l:=List.take_left' rfl
 have h3:(l++10::r).drop (l.length+1)=r:=by rw [show l++10::r=(l++[10])++r by simp]; exact List.drop_left' (by simp)
 cases e:lineV l with
 | none=>exact rdT_bad h1 (by rw [h2]; exact e)
 | some x=>rw [rdT_ok h1 (x:=x) (by rw [h2]; exact e),h3]
theorem rdT_print:∀ (l:List SP) (n:Nat) (acc:List SP) (r:List UInt8),(∀ x∈l,SPok x)→rdT n acc (printP l++r)=rdT (n+l.length) (acc++l) r
 | [],n,acc,r,_=>by simp [printP]
 | x::l,n,acc,r,h=>by
  have hx:=h x (List.mem_cons_self ..)
  have e:printP (x::l)++r=lineP x++10::(printP l++r):=by simp [printP]
  rw [e,rdT_line (line_no hx),line_line hx]
  simp only []
  rw [rdT_print l (n+1) (acc++[x]) r (fun y hy=>h y (List.mem_cons_of_mem _ hy))]
  simp [Nat.add_assoc,Nat.add_comm 1]
def numsV:List (List UInt8)→Option (List Int)
 | []=>some []
 | w::r=>match numV w,numsV r with
  | some n,some l=>some (n::l)
  | _,_=>none
def setV (s:List UInt8):Option (List Int):=if s.getLast?=some 10 then (if (spl s.dropLast).length=18 then numsV (spl s.dropLast) else none) else none
def numsL:List Int→List UInt8
 | []=>[]
 | [n]=>itoa n
 | n::m::r=>itoa n++32::numsL (m::r)
def setL (l:List Int):List UInt8:=numsL l++[10]
theorem spl_nums:∀ (l:List Int),l≠[]→spl (numsL l)=l.map itoa
 | [],h=>absurd rfl h
 | [n],_=>spl_one _ (fun c hc=>(itoa_no _ c hc).1)
 | n::m::r,_=>by
  show spl (itoa n++32::numsL (m::r))=_
  rw [spl_blank _ _ (fun c hc=>(itoa_no _ c hc).1),spl_nums (m::r) (by simp)]
  rfl
theorem numsV_itoa:∀ (l:List Int),(∀ n∈l,-9223372036854775808≤n∧n≤9223372036854775807)→numsV (l.map itoa)=some l
 | [],_=>rfl
 | n::r,h=>by
  have hn:=h n (List.mem_cons_self ..)
  show numsV (itoa n::r.map itoa)=_
  unfold numsV
  rw [numV_itoa hn.1 hn.2,numsV_itoa r (fun m hm=>h m (List.mem_cons_of_mem _ hm))]
theorem set_setL {l:List Int} (h18:l.length=18) (h:∀ n∈l,-9223372036854775808≤n∧n≤9223372036854775807):setV (setL l)=some l:=by
 have hne:l≠[]:=fun e=>by rw [e] at h18; cases h18
 unfold setV setL
 rw [if_pos (by simp),List.dropLast_concat,spl_nums l hne,if_pos (by rw [List.length_map]; exact h18)]
 exact numsV_itoa l h
end Sx
namespace Sx
open Go.Lib (itoa index indexByte)
theorem ib_nl (c:UInt8):∀ s:List UInt8,indexByte s c=match s.findIdx? (· == c) with
    | none => -1
    | some i=>(i:Int)
  | []=>rfl
  | b::r=>by
    rw [indexByte,List.findIdx?_cons]
    by_cases h:(b == c)=true
    · rw [if_pos h,if_pos h]; rfl
    · rw [if_neg h,if_neg h,ib_nl c r]
      cases r.findIdx? (· == c) with
      | none=>rfl
      | some i =>
        show (if (i:Int) == -1 then (-1:Int) else (i:Int)+1)=((i+1:Nat):Int)
        rw [if_neg (by intro e; have:=eq_of_beq e; omega)]; omega
theorem ib_none {c:UInt8} {s:List UInt8} (h:s.findIdx? (· == c)=none):indexByte s c = -1:=by rw [ib_nl,h]
theorem ib_some {c:UInt8} {s:List UInt8} {i:Nat} (h:s.findIdx? (· == c)=some i):indexByte s c=(i:Int):=by rw [ib_nl,h]
theorem cut_at {c:UInt8} {s:List UInt8} {i:Nat} (h:s.findIdx? (· == c)=some i):i < s.length∧s=s.take i++c::s.drop (i+1)∧∀ x∈s.take i,x≠c:=by
  obtain ⟨h1,h2,h3⟩:=List.findIdx?_eq_some_iff_getElem.1 h
  refine ⟨h1, ?_, ?_⟩
  · have e:s[i]=c:=by simpa using h2
    rw [← e]
    conv=>lhs; rw [← List.take_append_drop i s]
    rw [List.drop_eq_getElem_cons h1]
  · intro x hx e
    obtain ⟨j,hj,hx⟩:=List.mem_iff_getElem.1 hx
    rw [List.length_take] at hj
    rw [List.getElem_take] at hx
    exact h3 j (by omega) (by rw [hx,e]; simp)
theorem split_spl:∀ (n:Nat) (s:List UInt8),s.length≤n→Lib.split s [32]=spl s∧Lib.count s [32]+1=(spl s).length
  | n,s,hn=>by
    unfold Lib.split
    cases h:s.findIdx? (· == (32:UInt8)) with
    | none =>
      have e:index s [32] = -1:=by rw [Lib.index_one,ib_none h]
      rw [Lib.count_miss e,spl_one s (fun c hc e=>by have:=List.findIdx?_eq_none_iff.1 h c hc; simp [e] at this)]
      exact ⟨rfl,rfl⟩
    | some i =>
      obtain ⟨h1,h2,h3⟩:=cut_at h
      have e:index s [32]=(i:Int):=by rw [Lib.index_one,ib_some h]
      obtain ⟨i1,i2⟩:=split_spl (n - 1) (s.drop (i+1)) (by rw [List.length_drop]; omega)
      have ec:Lib.count s [32]=Lib.count (s.drop (i+1)) [32]+1:=by rw [Lib.count_hit (by simp) e]; show 1+Lib.count (s.drop (i+1)) [32]=_; omega
      have es:spl s=s.take i::spl (s.drop (i+1)):=by conv=>lhs; rw [h2,spl_blank _ _ h3]
      rw [ec,es]
      refine ⟨?_,by rw [List.length_cons,← i2]⟩
      unfold Lib.splitK
      rw [e,if_neg (by intro e; have:=eq_of_beq e; omega)]
      show s.take (i+0)::Lib.splitK [32] 0 _ (s.drop (i+1))=_
      rw [← i1]; rfl
termination_by n s=>s.length
theorem sp32:(⟨#[32]⟩:ByteArray).data.toList=[32]:=rfl
theorem splitB_len (s:List UInt8):Lib.countB ⟨s.toArray⟩ ⟨#[32]⟩+1=(spl s).length:=by
 unfold Lib.countB
 rw [sp32]
 exact (split_spl _ s (Nat.le_refl _)).2
theorem of_data {l:List ByteArray} {m:List (List UInt8)} (h:l.map (·.data.toList)=m):l=m.map fun w=>⟨w.toArray⟩:=by
 subst h
 rw [List.map_map]
 conv=>lhs; rw [← List.map_id l]
 refine List.map_congr_left fun b _=>?_
 simp
theorem splitB_spl (s:List UInt8):Lib.splitB ⟨#[32]⟩ 0 (Lib.countB ⟨s.toArray⟩ ⟨#[32]⟩) ⟨s.toArray⟩=(spl s).map fun w=>⟨w.toArray⟩:=by
 refine of_data ?_
 rw [Lib.splitB_data]
 unfold Lib.countB
 rw [sp32]
 exact (split_spl _ s (Nat.le_refl _)).1
theorem spl_total (s:List UInt8):(spl s).length≤s.length+1:=by
 induction s with
 | nil=>simp [spl]
 | cons c r ih =>
  rw [spl_c]
  split
  ·simp; omega
  ·split
   ·simp
   ·rename_i h; rw [h] at ih; simp at ih ⊢; omega
end Sx
namespace Sx
open Go.Lib (itoa)
def prs:List Nat→List Nat
 | []=>[]
 | [a]=>[a]
 | a::b::r=>(a*16+b)::prs r
theorem prs_len:∀ ds:List Nat,(prs ds).length=(ds.length+1) / 2
 | []=>rfl
 | [a]=>by show 1=(0+1+1) / 2; omega
 | a::b::r=>by
  show (prs r).length+1=(r.length+2+1) / 2
  rw [prs_len r]; omega
def fillH (k:Nat) (ds:List Nat):List Int:=(prs ds).map Int.ofNat++List.replicate (k - (prs ds).length) 0
theorem fill_len {k:Nat} {ds:List Nat} (h:ds.length≤2*k):(fillH k ds).length=k:=by
 unfold fillH
 rw [List.length_append,List.length_map,List.length_replicate,prs_len]; omega
theorem fill_nil (k:Nat):fillH k []=List.replicate k 0:=rfl
theorem fill_two {k:Nat} {a b:Nat} {r:List Nat}:fillH (k+1) (a::b::r)=((a*16+b:Nat):Int)::fillH k r:=by
 unfold fillH
 show (((a*16+b)::prs r).map Int.ofNat)++List.replicate (k+1 - ((prs r).length+1)) 0=_
 rw [Nat.add_sub_add_right]; rfl
theorem fill_add:∀ (k:Nat) (ds:List Nat) (d:Nat),ds.length < 2*k→(fillH k ds).set (ds.length / 2) ((fillH k ds).getD (ds.length / 2) 0*16+(d:Int))=fillH k (ds++[d])
 | 0,ds,d,h=>by omega
 | k+1,[],d,h=>by
  show (0::List.replicate k 0).set 0 ((0:Int)*16+d)=((d:Int)::List.replicate k 0)
  simp
 | k+1,[a],d,h=>by
  have e1:fillH (k+1) [a]=(a:Int)::List.replicate k 0:=by unfold fillH prs; simp
  have e2:fillH (k+1) ([a]++[d])=((a*16+d:Nat):Int)::List.replicate k 0:=by
   show fillH (k+1) [a,d]=_
   rw [fill_two,fill_nil]
  rw [e1,e2]
  rw [show [a].length / 2=0 by simp]
  simp
 | k+1,a::b::r,d,h=>by
  have e:(a::b::r).length / 2=r.length / 2+1:=by simp only [List.length_cons]; omega
  show (fillH (k+1) (a::b::r)).set _ _=fillH (k+1) (a::b::(r++[d]))
  rw [fill_two,fill_two,e,← fill_add k r d (by simp only [List.length_cons] at h; omega)]
  rfl
def digs:List UInt8→Option (List Nat)
 | []=>some []
 | c::r=>match hx c with
  | none=>none
  | some d=>(digs r).map fun l=>d::l
theorem digs_c (c:UInt8) (r:List UInt8):digs (c::r)=match hx c with
  | none=>none
  | some d=>(digs r).map fun l=>d::l:=rfl
theorem hexV_digs:∀ s:List UInt8,hexV s=if s.length % 2=0 then (digs s).map prs else none
 | []=>rfl
 | [c]=>rfl
 | a::b::r=>by
  have e:(a::b::r).length % 2=r.length % 2:=by simp only [List.length_cons]; omega
  rw [e]
  unfold hexV
  rw [hexV_digs r,digs_c a,digs_c b]
  cases hx a with
  | none=>simp
  | some x =>
   cases hx b with
   | none=>simp
   | some y =>
    by_cases h:r.length % 2=0
    ·rw [if_pos h,if_pos h]
     cases digs r with
     | none=>rfl
     | some l=>rfl
    ·rw [if_neg h,if_neg h]; rfl
theorem digs_len:∀ {s:List UInt8} {l:List Nat},digs s=some l→l.length=s.length
 | [],l,h=>by injection h with h; subst h; rfl
 | c::r,l,h=>by
  rw [digs_c] at h
  cases e:hx c with
  | none=>rw [e] at h; cases h
  | some d =>
   rw [e] at h
   simp only [] at h
   cases e2:digs r with
   | none=>rw [e2] at h; cases h
   | some l' =>
    rw [e2] at h
    injection h with h; subst h
    rw [List.length_cons,digs_len e2]; rfl
theorem digs_add:∀ {s:List UInt8} {l:List Nat} {c:UInt8},digs s=some l→digs (s++[c])=(hx c).map fun d=>l++[d]
 | [],l,c,h=>by
  injection h with h; subst h
  show digs [c]=_
  rw [digs_c]
  cases hx c <;> rfl
 | a::r,l,c,h=>by
  rw [digs_c] at h
  cases e:hx a with
  | none=>rw [e] at h; cases h
  | some d =>
   rw [e] at h
   simp only [] at h
   cases e2:digs r with
   | none=>rw [e2] at h; cases h
   | some l' =>
    rw [e2] at h
    injection h with h; subst h
    show digs (a::(r++[c]))=_
    conv=>lhs; unfold digs
    rw [e]
    simp only []
    rw [digs_add e2]
    cases hx c <;> rfl
theorem digs_bad:∀ {s r:List UInt8} {c:UInt8},hx c=none→digs (s++c::r)=none
 | [],r,c,h=>by
  show digs (c::r)=_
  rw [digs_c,h]
 | a::s,r,c,h=>by
  show digs (a::(s++c::r))=_
  rw [digs_c,digs_bad h]
  cases hx a <;> rfl
theorem digs_lt:∀ {s:List UInt8} {l:List Nat},digs s=some l→∀ d∈l,d < 16
 | [],l,h=>by injection h with h; subst h; intro d hxd; cases hxd
 | c::r,l,h=>by
  rw [digs_c] at h
  cases e:hx c with
  | none=>rw [e] at h; cases h
  | some d =>
   rw [e] at h
   simp only [] at h
   cases e2:digs r with
   | none=>rw [e2] at h; cases h
   | some l' =>
    rw [e2] at h
    injection h with h; subst h
    intro x hx'
    rcases List.mem_cons.1 hx' with rfl | hx'
    ·exact hx_lt e
    ·exact digs_lt e2 x hx'
theorem prs_lt:∀ {l:List Nat},(∀ d∈l,d < 16)→∀ b∈prs l,b < 256
 | [],_,b,hb=>by cases hb
 | [a],h,b,hb=>by
  have:=h a (List.mem_cons_self ..)
  rw [List.mem_singleton.1 hb]; omega
 | a::c::r,h,b,hb=>by
  have h1:=h a (List.mem_cons_self ..)
  have h2:=h c (List.mem_cons_of_mem _ (List.mem_cons_self ..))
  rcases List.mem_cons.1 hb with rfl | hb
  ·omega
  ·exact prs_lt (fun d hxd=>h d (List.mem_cons_of_mem _ (List.mem_cons_of_mem _ hxd))) b hb
theorem hexV_ok {s:List UInt8} {l:List Nat} (h:hexV s=some l):(∀ b∈l,b < 256)∧2*l.length=s.length:=by
 rw [hexV_digs] at h
 split at h
 ·rename_i h2
  cases e:digs s with
  | none=>rw [e] at h; cases h
  | some d =>
   rw [e] at h
   injection h with h; subst h
   refine ⟨prs_lt (digs_lt e), ?_⟩
   rw [prs_len,digs_len e]; omega
 ·cases h
theorem datV_ok {s:List UInt8} {l:List Nat} (h:datV s=some l):(∀ b∈l,b < 256)∧2*l.length+1=s.length:=by
 unfold datV at h
 cases s with
 | nil=>cases h
 | cons c r =>
  simp only [] at h
  split at h
  ·obtain ⟨h1,h2⟩:=hexV_ok h
   exact ⟨h1,by rw [List.length_cons]; omega⟩
  ·cases h
theorem rdT_two (a b:List SP) (ha:∀ x∈a,SPok x) (hb:∀ x∈b,SPok x):rdT 0 [] (printP a++printP b)=(a++b,0):=by
 rw [rdT_print a 0 [] _ ha]
 have:=rdT_print b (0+a.length) ([]++a) [] hb
 rw [List.append_nil] at this
 rw [this,rdT_nil,List.nil_append]
theorem rdT_one (a:List SP) (ha:∀ x∈a,SPok x):rdT 0 [] (printP a)=(a,0):=by
 have:=rdT_two a [] ha (by intro x hx; cases hx)
 simpa [printP] using this
theorem rdT_mid (a b:List SP) (s:List UInt8) (ha:∀ x∈a,SPok x) (hs:∀ c∈s,c≠10) (hl:lineV s=none):rdT 0 [] (printP a++s++[10]++printP b)=([],a.length+1):=by
 rw [List.append_assoc,List.append_assoc,rdT_print a 0 [] _ ha]
 show rdT _ _ (s++10::printP b)=_
 rw [rdT_line hs,hl,Nat.zero_add]
theorem numV_bd {s:List UInt8} {n:Int} (h:numV s=some n) : -9223372036854775808≤n∧n≤9223372036854775807:=by
 rw [num_same] at h
 exact ⟨(numR_is h).2.1,(numR_is h).2.2⟩
theorem lineW_ok:∀ {ws:List (List UInt8)} {x:SP},lineW ws=some x→SPok x
 | [p,q,r,t],x,h=>by
  rw [lineW_4] at h
  cases e1:numV p with
  | none=>rw [e1] at h; simp at h
  | some k =>
   cases e2:numV q with
   | none=>rw [e1,e2] at h; simp at h
   | some a =>
    cases e3:numV r with
    | none=>rw [e1,e2,e3] at h; simp at h
    | some b =>
     cases e4:datV t with
     | none=>rw [e1,e2,e3,e4] at h; simp at h
     | some d =>
      rw [e1,e2,e3,e4] at h
      injection h with h; subst h
      exact ⟨numV_bd e1,numV_bd e2,numV_bd e3,(datV_ok e4).1⟩
 | [],_,h=>by cases h
 | [_],_,h=>by cases h
 | [_,_],_,h=>by cases h
 | [_,_,_],_,h=>by cases h
 | _::_::_::_::_::_,_,h=>by cases h
end Sx
namespace Sx
open Go.Lib (itoa decDigits)
theorem itoa_small {n:Nat} (h:n < 10):itoa (n:Int)=[UInt8.ofNat (48+n)]:=by
 unfold itoa
 rw [if_neg (by omega),show ((n:Int)).toNat=n by omega]
 exact Lib.decDigits_one h
theorem itoa_neg {n:Nat} (h:n < 10) (h0:0 < n):itoa (-(n:Int))=[45,UInt8.ofNat (48+n)]:=by
 unfold itoa
 rw [if_pos (by omega),show (-(n:Int)).natAbs=n by omega,Lib.decDigits_one h]
def stA:SP:=⟨2,-5,0,[97]⟩
theorem stA_ok:SPok stA:=⟨by decide,by decide,by decide,by decide⟩
theorem stA_text:printP [stA]=[50,32,45,53,32,48,32,120,54,49,10]:=by
 show lineP stA++[10]++[]=_
 unfold lineP stA
 have e1:itoa 2=[50]:=itoa_small (n:=2) (by decide)
 have e2:itoa (-5)=[45,53]:=itoa_neg (n:=5) (by decide) (by decide)
 have e3:itoa 0=[48]:=itoa_small (n:=0) (by decide)
 rw [e1,e2,e3]
 rfl
theorem rd_123:rdT 0 [] [49,32,50,32,51,10]=([],1):=by
 have h:∀ c∈([49,32,50,32,51]:List UInt8),c≠10:=by decide
 have:=rdT_line (n:=0) (acc:=[]) (r:=[]) h
 have e:lineV [49,32,50,32,51]=none:=by
  unfold lineV
  have:spl [49,32,50,32,51]=[[49],[50],[51]]:=by decide
  rw [this]; rfl
 rw [e] at this
 exact this
theorem hex_16:hexL [16]=[49,48]:=by decide
def cfgA:List Int:=[3,0,0,0,0,0,0,0,0,0,0,0,0,0,0,0,0,9]
theorem cfgA_set:setV (setL cfgA)=some cfgA:=set_setL rfl (by decide)
end Sx
namespace Sx
open Go.Lib (itoa)
theorem drop_at {s:List UInt8} {i:Nat} {c:UInt8} (h:s[i]?=some c):s.drop i=c::s.drop (i+1):=by
 obtain ⟨hl,e⟩:=List.getElem?_eq_some_iff.1 h
 rw [List.drop_eq_getElem_cons hl,e]
theorem cut_mid {s:List UInt8} {a i:Nat} {c:UInt8} (ha:a≤i) (h:s[i]?=some c):s.drop a=(s.take i).drop a++c::s.drop (i+1):=by
 have h1:s.take i++s.drop i=s:=List.take_append_drop i s
 have hl:i < s.length:=(List.getElem?_eq_some_iff.1 h).1
 conv=>lhs; rw [← h1]
 rw [List.drop_append_of_le_length (by rw [List.length_take]; omega),drop_at h]
def NoB (b:UInt8) (s:List UInt8) (a i:Nat):Prop:=∀ c∈(s.take i).drop a,c≠b
theorem NoB.nil {b:UInt8} {s:List UInt8} {a:Nat}:NoB b s a a:=fun c hc=>by
 rw [List.drop_eq_nil_of_le (by rw [List.length_take]; omega)] at hc; cases hc
theorem NoB.next {b c:UInt8} {s:List UInt8} {a i:Nat} (h:NoB b s a i) (ha:a≤i) (hc:s[i]?=some c) (hb:c≠b):NoB b s a (i+1):=fun x hx=>by
 have hl:i < s.length:=(List.getElem?_eq_some_iff.1 hc).1
 rw [List.take_add_one,hc,List.drop_append_of_le_length (by rw [List.length_take]; omega)] at hx
 rcases List.mem_append.1 hx with hx | hx
 ·exact h x hx
 ·rw [List.mem_singleton.1 hx]; exact hb
theorem take_len (s:List UInt8):s.take s.length=s:=List.take_length
theorem cut_b {s:List UInt8} {a i:Nat} (ha:a≤i) (hn:NoB 32 s a i) (h:s[i]?=some 32):spl (s.drop a)=(s.take i).drop a::spl (s.drop (i+1)):=by
 rw [cut_mid ha h,spl_blank _ _ hn]
theorem cut_e {s:List UInt8} {a:Nat} (hn:NoB 32 s a s.length):spl (s.drop a)=[s.drop a]:=by
 unfold NoB at hn
 rw [take_len] at hn
 exact spl_one _ hn
theorem rd_bad {s:List UInt8} {a i n:Nat} {acc:List SP} (ha:a≤i) (hn:NoB 10 s a i) (h:s[i]?=some 10) (hl:lineV ((s.take i).drop a)=none):rdT n acc (s.drop a)=([],n+1):=by
 rw [cut_mid ha h,rdT_line hn,hl]
theorem rd_ok {s:List UInt8} {a i n:Nat} {acc:List SP} {x:SP} (ha:a≤i) (hn:NoB 10 s a i) (h:s[i]?=some 10) (hl:lineV ((s.take i).drop a)=some x):rdT n acc (s.drop a)=rdT (n+1) (acc++[x]) (s.drop (i+1)):=by
 rw [cut_mid ha h,rdT_line hn,hl]
theorem rd_left {s:List UInt8} {a n:Nat} {acc:List SP} (hn:NoB 10 s a s.length) (h:a < s.length):rdT n acc (s.drop a)=([],n+1):=by
 unfold NoB at hn
 rw [take_len] at hn
 exact rdT_none (fun e=>by have:=congrArg List.length e; rw [List.length_drop] at this; simp at this; omega) (nl_no _ hn)
theorem rd_all {s:List UInt8} {a n:Nat} {acc:List SP} (h:s.length≤a):rdT n acc (s.drop a)=(acc,0):=by
 rw [List.drop_eq_nil_of_le h,rdT_nil]
theorem dgs_step {s:List UInt8} {i n:Nat} {c:UInt8} (h:s[i]?=some c):dgs n (s.drop i)=if 48≤c.toNat∧c.toNat≤57 then dgs (n*10+(c.toNat - 48)) (s.drop (i+1)) else none:=by
 rw [drop_at h]; rfl
theorem dgs_end {s:List UInt8} {i n:Nat} (h:s.length≤i):dgs n (s.drop i)=some n:=by
 rw [List.drop_eq_nil_of_le h]; rfl
theorem pow_step {n k d:Nat} (h:n < 10 ^ k) (hxd:d≤9):n*10+d < 10 ^ (k+1):=by
 rw [Nat.pow_succ]; omega
def dig16:List UInt8:=[48,49,50,51,52,53,54,55,56,57,97,98,99,100,101,102]
theorem hx_at:∀ (k:Fin 16) (c:Fin 256),dig16[k.val]?=some (UInt8.ofNat c.val)→hx (UInt8.ofNat c.val)=some k.val:=by decide +kernel
theorem hx_at' {k:Nat} {c:UInt8} (h:dig16[k]?=some c):hx c=some k:=by
 have hk:k < 16:=(List.getElem?_eq_some_iff.1 h).1
 have hc:=c.toNat_lt
 have:=hx_at ⟨k,hk⟩ ⟨c.toNat,hc⟩
 simp only [UInt8.ofNat_toNat] at this
 exact this h
theorem hx_some {c:UInt8} {k:Nat} (h:hx c=some k):dig16[k]?=some c:=by
 have:=(by decide +kernel:∀ (c:Fin 256) (k:Fin 16),hx (UInt8.ofNat c.val)=some k.val→dig16[k.val]?=some (UInt8.ofNat c.val)) ⟨c.toNat,c.toNat_lt⟩ ⟨k,hx_lt h⟩
 simp only [UInt8.ofNat_toNat] at this
 exact this h
theorem hx_none {c:UInt8} (h:∀ k,k < 16→dig16[k]?≠some c):hx c=none:=by
 cases e:hx c with
 | none=>rfl
 | some k=>exact absurd (hx_some e) (h k (hx_lt e))
theorem hd_dig:∀ k:Fin 16,dig16[k.val]?=some (hxd k.val):=by decide
theorem hd_dig' {k:Nat} (h:k < 16):dig16[k]?=some (hxd k):=hd_dig ⟨k,h⟩
theorem hexV_two (a b:UInt8) (r:List UInt8):hexV (a::b::r)=match hx a,hx b with
  | some x,some y=>(hexV r).map fun l=>(x*16+y)::l
  | _,_=>none:=rfl
theorem hex_step {s:List UInt8} {i x y:Nat} {a b:UInt8} (ha:s[i]?=some a) (hb:s[i+1]?=some b) (hx1:hx a=some x) (hy1:hx b=some y):hexV (s.drop i)=(hexV (s.drop (i+2))).map fun l=>(x*16+y)::l:=by
 rw [drop_at ha,drop_at hb,hexV_two,hx1,hy1]
theorem hex_bad {s:List UInt8} {i:Nat} {a b:UInt8} (ha:s[i]?=some a) (hb:s[i+1]?=some b) (h:hx a=none∨hx b=none):hexV (s.drop i)=none:=by
 rw [drop_at ha,drop_at hb,hexV_two]
 rcases h with h | h
 ·rw [h]
 ·rw [h]; cases hx a <;> rfl
theorem hex_end {s:List UInt8} {i:Nat} (h:s.length≤i):hexV (s.drop i)=some []:=by
 rw [List.drop_eq_nil_of_le h]; rfl
theorem hexL_add (l:List Nat) (b:Nat):hexL (l++[b])=hexL l++[hxd (b / 16),hxd (b % 16)]:=by
 unfold hexL; simp
theorem numsV_c (w:List UInt8) (r:List (List UInt8)):numsV (w::r)=match numV w,numsV r with
  | some n,some l=>some (n::l)
  | _,_=>none:=rfl
theorem numsV_step {ws:List (List UInt8)} {i:Nat} {w:List UInt8} (h:ws[i]?=some w):numsV (ws.drop i)=match numV w with
  | some n=>(numsV (ws.drop (i+1))).map fun l=>n::l
  | none=>none:=by
 obtain ⟨hl,e⟩:=List.getElem?_eq_some_iff.1 h
 rw [List.drop_eq_getElem_cons hl,e,numsV_c]
 cases numV w with
 | none=>rfl
 | some n=>cases numsV (ws.drop (i+1)) <;> rfl
theorem numsL_add (l:List Int) (n:Int):numsL (l++[n])=(if l=[] then [] else numsL l++[32])++itoa n:=by
 induction l with
 | nil=>rfl
 | cons a r ih =>
  rw [if_neg (by simp)]
  cases r with
  | nil=>simp [numsL]
  | cons b r =>
   show itoa a++32::numsL (b::r++[n])=(itoa a++32::numsL (b::r))++[32]++itoa n
   rw [ih,if_neg (by simp)]
   simp
theorem join_cons (x y:List UInt8) (r:List (List UInt8)):Lib.join (x::y::r) [32]=x++32::Lib.join (y::r) [32]:=by
 simp [Lib.join,List.intercalate]
theorem join_one (x:List UInt8):Lib.join [x] [32]=x:=by simp [Lib.join,List.intercalate]
theorem join_nums:∀ l:List Int,Lib.join (l.map itoa) [32]=numsL l
 | []=>rfl
 | [n]=>join_one _
 | n::m::r=>by
  show Lib.join (itoa n::itoa m::r.map itoa) [32]=itoa n++32::numsL (m::r)
  rw [join_cons,← join_nums (m::r)]; rfl
theorem join_line (x:SP):Lib.join [itoa x.k,itoa x.a,itoa x.b,120::hexL x.d] [32]=lineP x:=by
 rw [join_cons,join_cons,join_cons,join_one]; rfl
end Sx
namespace Sx
def cutN (s:List UInt8):Nat:=match nl s with
 | none=>s.length
 | some i=>i+1
theorem nl_lt {s:List UInt8} {i:Nat} (h:nl s=some i):i < s.length:=(List.findIdx?_eq_some_iff_getElem.1 h).1
theorem cutN_pos {s:List UInt8} (h:s≠[]):0 < cutN s:=by
 unfold cutN
 cases nl s with
 | none=>exact List.length_pos_iff.2 h
 | some i=>exact Nat.succ_pos i
theorem cutN_le (s:List UInt8):cutN s≤s.length:=by
 unfold cutN
 cases h:nl s with
 | none=>exact Nat.le_refl _
 | some i=>exact nl_lt h
def lnE (s:List UInt8):List (List UInt8):=if h:s=[] then [] else s.take (cutN s)::lnE (s.drop (cutN s))
termination_by s.length
decreasing_by
 have:=cutN_pos h
 have:0 < s.length:=List.length_pos_iff.2 h
 rw [List.length_drop]; omega
theorem lnE_nil:lnE []=[]:=by rw [lnE,dif_pos rfl]
theorem lnE_cons {s:List UInt8} (h:s≠[]):lnE s=s.take (cutN s)::lnE (s.drop (cutN s)):=by rw [lnE,dif_neg h]
def lineQ (l:List UInt8):Option SP:=if l.getLast?=some 10 then lineV l.dropLast else none
def goE:Nat→List SP→List (List UInt8)→List SP×Nat
 | _,acc,[]=>(acc,0)
 | n,acc,l::r=>match lineQ l with
  | none=>([],n+1)
  | some x=>goE (n+1) (acc++[x]) r
theorem goE_c (n:Nat) (acc:List SP) (l:List UInt8) (r:List (List UInt8)):goE n acc (l::r)=match lineQ l with
  | none=>([],n+1)
  | some x=>goE (n+1) (acc++[x]) r:=rfl
theorem rd_goE:∀ (k:Nat) (s:List UInt8) (n:Nat) (acc:List SP),s.length≤k→rdT n acc s=goE n acc (lnE s)
 | k,[],n,acc,_=>by rw [rdT_nil,lnE_nil]; rfl
 | 0,c::s,n,acc,h=>by simp at h
 | k+1,c::s,n,acc,h=>by
  have hne:c::s≠[]:=by simp
  rw [lnE_cons hne,goE_c]
  have hcl:=cutN_pos hne
  cases e:nl (c::s) with
  | none =>
   have e1:cutN (c::s)=(c::s).length:=by unfold cutN; rw [e]
   have hno:∀ x∈c::s,x≠10:=fun x hx=>by
    have:=List.findIdx?_eq_none_iff.1 e x hx
    simpa using this
   have e2:lineQ ((c::s).take (cutN (c::s)))=none:=by
    rw [e1,take_len]
    unfold lineQ
    refine if_neg fun h=>?_
    exact hno 10 (List.mem_of_getLast? h) rfl
   rw [e2,rdT_none hne e]
  | some i =>
   have e1:cutN (c::s)=i+1:=by unfold cutN; rw [e]
   obtain ⟨h1,h2,h3⟩:=cut_at (c:=10) e
   have e4:(c::s).take (i+1)=(c::s).take i++[10]:=by
    rw [List.take_add_one]
    have:(c::s)[i]?=some 10:=by
     obtain ⟨p1,p2,_⟩:=List.findIdx?_eq_some_iff_getElem.1 e
     rw [List.getElem?_eq_getElem p1]
     simpa using p2
    rw [this]; rfl
   have e2:lineQ ((c::s).take (cutN (c::s)))=lineV ((c::s).take i):=by
    rw [e1,e4]
    unfold lineQ
    rw [if_pos (by simp),List.dropLast_concat]
   rw [e2]
   cases e3:lineV ((c::s).take i) with
   | none=>rw [rdT_bad e e3]
   | some x =>
    rw [rdT_ok e e3,e1]
    exact rd_goE k _ _ _ (by rw [List.length_drop]; omega)
theorem rd_is (s:List UInt8):rdT 0 [] s=goE 0 [] (lnE s):=rd_goE _ s 0 [] (Nat.le_refl _)
theorem lnE_sum:∀ (k:Nat) (s:List UInt8),s.length≤k→(lnE s).length≤s.length∧∀ l∈lnE s,l.length≤s.length
 | k,[],_=>by rw [lnE_nil]; exact ⟨Nat.le_refl _,by intro l hl; cases hl⟩
 | 0,c::s,h=>by simp at h
 | k+1,c::s,h=>by
  have hne:c::s≠[]:=by simp
  have hcl:=cutN_pos hne
  have hle:=cutN_le (c::s)
  obtain ⟨i1,i2⟩:=lnE_sum k ((c::s).drop (cutN (c::s))) (by rw [List.length_drop]; omega)
  rw [List.length_drop] at i1 i2
  rw [lnE_cons hne]
  refine ⟨by rw [List.length_cons]; omega,fun l hl=>?_⟩
  rcases List.mem_cons.1 hl with rfl | hl
  ·rw [List.length_take]; omega
  ·have:=i2 l hl; omega
theorem lineQ_ok {l:List UInt8} {x:SP} (h:lineQ l=some x):l.getLast?=some 10∧lineW (spl l.dropLast)=some x:=by
 unfold lineQ at h
 split at h
 ·rename_i h1; exact ⟨h1,h⟩
 ·cases h
end Sx
namespace Sx
theorem suf_is (s:List UInt8):Lib.hasSuffix s [10]=decide (s.getLast?=some 10):=by
 unfold Lib.hasSuffix
 rw [Bool.eq_iff_iff,List.isSuffixOf_iff_suffix,decide_eq_true_iff]
 constructor
 ·rintro ⟨t,rfl⟩; simp
 ·intro h
  obtain ⟨ys,rfl⟩:=List.getLast?_eq_some_iff.1 h
  exact ⟨ys,rfl⟩
theorem suf_yes {s:List UInt8} (h:s.getLast?=some 10):Lib.trimSuffix s [10]=s.dropLast:=by
 unfold Lib.trimSuffix
 rw [suf_is,if_pos (by rw [decide_eq_true_iff]; exact h)]
 show s.take (s.length - 1)=_
 rw [List.dropLast_eq_take]
theorem pre_is (s:List UInt8):Lib.hasPrefix s [120]=decide (s.head?=some 120):=by
 unfold Lib.hasPrefix
 cases s with
 | nil=>rfl
 | cons c r =>
  by_cases h:c=120
  ·subst h; simp [List.isPrefixOf]
  ·have h':(120 == c)=false:=beq_eq_false_iff_ne.2 (Ne.symm h)
   simp [List.isPrefixOf,h',h]
theorem pre_yes {s:List UInt8} (h:s.head?=some 120):Lib.trimPrefix s [120]=s.drop 1:=by
 unfold Lib.trimPrefix
 rw [pre_is,if_pos (by rw [decide_eq_true_iff]; exact h)]; rfl
theorem datV_is (w:List UInt8):datV w=if w.head?=some 120 then hexV (w.drop 1) else none:=by
 cases w with
 | nil=>rfl
 | cons c r =>
  unfold datV
  by_cases h:c=120
  ·subst h; rfl
  ·simp [h]
inductive Wd where
 | n (z:Int)
 | d (l:List Nat)
def wdV (k:Bool) (w:List UInt8):Option Wd:=match k with
 | true=>(numV w).map .n
 | false=>(datV w).map .d
def wdsV:List Bool→List (List UInt8)→Option (List Wd)
 | k::ks,w::ws=>match wdV k w,wdsV ks ws with
  | some x,some l=>some (x::l)
  | _,_=>none
 | _,_=>some []
theorem wdsV_c (k:Bool) (ks:List Bool) (w:List UInt8) (ws:List (List UInt8)):wdsV (k::ks) (w::ws)=match wdV k w,wdsV ks ws with
  | some x,some l=>some (x::l)
  | _,_=>none:=rfl
theorem wdsV_n (ks:List Bool):wdsV ks []=some []:=by cases ks <;> rfl
theorem wdsV_step {ks:List Bool} {ws:List (List UInt8)} {i:Nat} {k:Bool} {w:List UInt8} (hk:ks[i]?=some k) (hw:ws[i]?=some w):wdsV (ks.drop i) (ws.drop i)=match wdV k w with
  | some x=>(wdsV (ks.drop (i+1)) (ws.drop (i+1))).map fun l=>x::l
  | none=>none:=by
 obtain ⟨hl,e⟩:=List.getElem?_eq_some_iff.1 hk
 obtain ⟨hl2,e2⟩:=List.getElem?_eq_some_iff.1 hw
 rw [List.drop_eq_getElem_cons hl,List.drop_eq_getElem_cons hl2,e,e2,wdsV_c]
 cases wdV k w with
 | none=>rfl
 | some x=>cases wdsV (ks.drop (i+1)) (ws.drop (i+1)) <;> rfl
theorem wds_more {ks:List Bool} {ws:List (List UInt8)} {i:Nat} {k:Bool} {w:List UInt8} {xs:List Wd} {x:Wd} (hk:ks[i]?=some k) (hw:ws[i]?=some w) (h:wdsV ks ws=(wdsV (ks.drop i) (ws.drop i)).map fun l=>xs++l) (hx:wdV k w=some x):wdsV ks ws=(wdsV (ks.drop (i+1)) (ws.drop (i+1))).map fun l=>(xs++[x])++l:=by
 rw [h,wdsV_step hk hw,hx]
 cases wdsV (ks.drop (i+1)) (ws.drop (i+1)) with
 | none=>rfl
 | some l=>simp
theorem wds_bad {ks:List Bool} {ws:List (List UInt8)} {i:Nat} {k:Bool} {w:List UInt8} {xs:List Wd} (hk:ks[i]?=some k) (hw:ws[i]?=some w) (h:wdsV ks ws=(wdsV (ks.drop i) (ws.drop i)).map fun l=>xs++l) (hx:wdV k w=none):wdsV ks ws=none:=by
 rw [h,wdsV_step hk hw,hx]; rfl
theorem wds_end {ks:List Bool} {ws:List (List UInt8)} {xs:List Wd} (h:wdsV ks ws=(wdsV (ks.drop ks.length) (ws.drop ks.length)).map fun l=>xs++l):wdsV ks ws=some xs:=by
 rw [h,List.drop_length]
 show (wdsV [] _).map _=_
 have:∀ l,wdsV [] l=some []:=fun l=>by cases l <;> rfl
 rw [this]; simp
def readV (ks:List Bool) (s:List UInt8):Option (List Wd):=if s.getLast?=some 10∧(spl s.dropLast).length=ks.length then wdsV ks (spl s.dropLast) else none
def kS:List Bool:=[true,true,true,false]
def GoodS (xs:Option (List Wd)) (y:Option SP):Prop:=match xs with
 | none=>y=none
 | some xs=>∃ x:SP,xs=[.n x.k,.n x.a,.n x.b,.d x.d]∧y=some x
theorem goodS:∀ ws:List (List UInt8),GoodS (if ws.length=4 then wdsV kS ws else none) (lineW ws)
 | []=>rfl
 | [_]=>rfl
 | [_,_]=>rfl
 | [_,_,_]=>rfl
 | _::_::_::_::_::_=>by
  rw [if_neg (by simp)]; rfl
 | [p,q,r,t]=>by
  rw [if_pos (by simp),lineW_4]
  unfold kS
  rw [wdsV_c,wdsV_c,wdsV_c,wdsV_c,wdsV_n]
  unfold wdV
  cases numV p with
  | none=>rfl
  | some k=>cases numV q with
   | none=>rfl
   | some a=>cases numV r with
    | none=>rfl
    | some b=>cases datV t with
     | none=>rfl
     | some d=>exact ⟨⟨k,a,b,d⟩,rfl,rfl⟩
theorem readS (s:List UInt8):GoodS (readV kS s) (lineQ s):=by
 unfold readV lineQ lineV
 by_cases h:s.getLast?=some 10
 ·rw [if_pos h]
  have:=goodS (spl s.dropLast)
  by_cases h2:(spl s.dropLast).length=4
  ·rw [if_pos h2] at this
   rw [if_pos ⟨h,h2⟩]; exact this
  ·rw [if_neg h2] at this
   rw [if_neg (fun h3=>h2 h3.2)]; exact this
 ·rw [if_neg h,if_neg (fun h2=>h h2.1)]; rfl
def kC:List Bool:=List.replicate 18 true
theorem wds_nums:∀ (n:Nat) (ws:List (List UInt8)),ws.length=n→wdsV (List.replicate n true) ws=(numsV ws).map fun l=>l.map Wd.n
 | 0,[],_=>rfl
 | 0,_::_,h=>by simp at h
 | n+1,[],h=>by simp at h
 | n+1,w::ws,h=>by
  show wdsV (true::List.replicate n true) (w::ws)=_
  rw [wdsV_c,wds_nums n ws (by simpa using h),numsV_c]
  unfold wdV
  cases numV w with
  | none=>rfl
  | some z=>cases numsV ws <;> rfl
theorem readC (s:List UInt8):readV kC s=(setV s).map fun l=>l.map Wd.n:=by
 unfold readV setV kC
 rw [List.length_replicate]
 by_cases h:s.getLast?=some 10
 ·by_cases h2:(spl s.dropLast).length=18
  ·rw [if_pos ⟨h,h2⟩,if_pos h,if_pos h2]
   exact wds_nums 18 _ h2
  ·rw [if_neg (fun h3=>h2 h3.2),if_pos h,if_neg h2]; rfl
 ·rw [if_neg (fun h3=>h h3.1),if_neg h]; rfl
end Sx
namespace Sw
open Go.RowKit Ba Mem En Go.Proofs.YtjghelofdfolbaaDoor.Ty Gw
open Co (Hold.ob)
open Sx
set_option maxRecDepth 100000
def strE:Ek (List UInt8):=⟨9,1,fun x=>[.string ⟨x.toArray⟩],fun _=>rfl,fun a u hu=>by rw [List.mem_singleton] at hu; subst hu; rfl⟩
def piece (s:List UInt8) (a i:Nat):List UInt8:=(s.drop a).take (i - a)
theorem piece_is (s:List UInt8) (a i:Nat):piece s a i=(s.take i).drop a:=by unfold piece; rw [List.drop_take]
theorem piece_len (s:List UInt8) (a i:Nat):(piece s a i).length≤s.length:=by unfold piece; rw [List.length_take,List.length_drop]; omega
theorem pvPc {X:Cx} {s:St} {o:Oper} {t:TypeId} {x lo hi:Operand} {k k':IntKind} {I J:Int} {xs:List UInt8} (i j:Nat) (ho:o.op=.slice t x (some lo) (some hi) none) (hx:evO x s.fr=some (tx xs)) (h1:evO lo s.fr=some (.i k I)) (h2:evO hi s.fr=some (.i k' J)) (hb:(I=(i:Int)∧J=(j:Int))∧i≤j∧j≤xs.length) (ht:X.P.underlying t=some .string):PV X o s (tx (piece xs i j)):=pvSl i j ho hx h1 h2 hb ht
structure CutI (s:List UInt8) (i a:Nat) (out:List (List UInt8)):Prop where
 n:out.length≤i
 le:i≤s.length+1
 go:i≤s.length→a≤i∧NoB 32 s a i∧spl s=out++spl (s.drop a)
 no:s.length < i→spl s=out
theorem CutI.z (s:List UInt8):CutI s 0 0 []:=⟨Nat.le_refl _,by omega,fun _=>⟨Nat.le_refl _,NoB.nil,rfl⟩,fun h=>by omega⟩
theorem CutI.blank {s:List UInt8} {i a:Nat} {out:List (List UInt8)} (h:CutI s i a out) (hc:s[i]?=some 32):CutI s (i+1) (i+1) (out++[piece s a i]):=by
 have hl:i < s.length:=(List.getElem?_eq_some_iff.1 hc).1
 obtain ⟨h1,h2,h3⟩:=h.go (by omega)
 refine ⟨by have:=h.n; rw [List.length_append]; simp; omega,by omega,fun _=>⟨Nat.le_refl _,NoB.nil, ?_⟩,fun h=>by omega⟩
 rw [h3,cut_b h1 h2 hc,piece_is,List.append_assoc]; rfl
theorem CutI.more {s:List UInt8} {i a:Nat} {out:List (List UInt8)} {c:UInt8} (h:CutI s i a out) (hc:s[i]?=some c) (hb:c≠32):CutI s (i+1) a out:=by
 have hl:i < s.length:=(List.getElem?_eq_some_iff.1 hc).1
 obtain ⟨h1,h2,h3⟩:=h.go (by omega)
 exact ⟨by have:=h.n; omega,by omega,fun _=>⟨by omega,h2.next h1 hc hb,h3⟩,fun h=>by omega⟩
theorem CutI.end_ {s:List UInt8} {i a:Nat} {out:List (List UInt8)} (h:CutI s i a out) (hi:i=s.length):CutI s (i+1) (i+1) (out++[piece s a i]):=by
 obtain ⟨h1,h2,h3⟩:=h.go (by omega)
 refine ⟨by have:=h.n; rw [List.length_append]; simp; omega,by omega,fun h=>by omega,fun _=>?_⟩
 subst hi
 rw [h3,cut_e h2,piece_is,List.take_length]
attribute [local irreducible] Go.Calls spl piece
set_option maxHeartbeats 4000000 in
theorem cutR (s:List UInt8) (hs:s.length≤900000) (w:World):Calls Tryd.prog 28 #[.string ⟨s.toArray⟩] w fun e w'=>∃ y:Option Addr×Nat,e=.returned (.slice y.1 (spl s).length y.2)∧strE.At w.heap.size y.1 (spl s).length y.2 (spl s) w'∧Since w w':=by
 refine entH tab_ok (Hold.addObj (Hold.nil _ tab [] _ w) (rwO strE w.heap.size none 0 0 [] true) (Ek.nil _ _ _) (by intro _ g hg; cases hg) (by intro r hr; cases hr) (by intro A hA; cases hA)) [tx s] Tryd.func28 Tryd.ntmps28 rfl rfl ?_
 repeat' ((conv=>whnf); first | refine sgo ⟨tab_ok⟩ ?_|refine br_not ?_|refine br_t rfl ?_|refine br_f rfl ?_|refine br_t (by assumption) ?_|refine br_f (by assumption) ?_|refine br_t (decide_eq_true (by assumption)) ?_|refine br_f (decide_eq_false (by assumption)) ?_|refine br_t (beq_iff_eq.2 (by assumption)) ?_|refine br_f (beq_eq_false_iff_ne.2 (by assumption)) ?_|refine br_t (decide_eq_true (by omega)) ?_|refine br_f (decide_eq_false (by omega)) ?_|refine fin_s ?_|refine fin_r ?_ ?_|refine fin_e ?_ ?_)
 conv=>whnf
 refine lp ⟨tab_ok⟩ (ι:={y:Nat×Nat×Option Addr×Nat×List (List UInt8) // CutI s y.1 y.2.1 y.2.2.2.2}) (fun y=>match y with | ⟨(i,a,B,cb,out),_⟩=>⟨[(0,tx s),(3,.v (.slice B out.length cb)),(4,.i .i64 (a:Int)),(5,.i .i64 (i:Int))],[],[rwO strE w.heap.size B out.length cb out true]⟩) (fun y=>s.length+1 - y.1.1) ⟨(0,0,none,0,[]),CutI.z s⟩ (wk ?_) ?_
 ·repeat' (first | exact trivial | rfl | ((conv=>whnf); refine And.intro ?_ ?_))
 rintro ⟨⟨i,a,B,cb,out⟩,hI⟩
 have hI:CutI s i a out:=hI
 have hn:=hI.n
 have hle:=hI.le
 by_cases hlt:i < s.length
 ·obtain ⟨c,hc⟩:∃ c,s[i]?=some c:=⟨_,List.getElem?_eq_getElem hlt⟩
  obtain ⟨ha,_,_⟩:=hI.go (by omega)
  by_cases h32:c=32
  ·subst h32
   repeat' ((conv=>whnf); first | refine sgo ⟨tab_ok⟩ ?_|refine br_not ?_|refine br_t rfl ?_|refine br_f rfl ?_|refine br_t (by assumption) ?_|refine br_f (by assumption) ?_|refine br_t (decide_eq_true (by assumption)) ?_|refine br_f (decide_eq_false (by assumption)) ?_|refine br_t (beq_iff_eq.2 (by assumption)) ?_|refine br_f (beq_eq_false_iff_ne.2 (by assumption)) ?_|refine drA ⟨tab_ok⟩ [] ?_|refine kpt ?_|refine br_t (decide_eq_true (by omega)) ?_|refine br_f (decide_eq_false (by omega)) ?_|refine wr_i ?_|refine br_ne (fun hx=>?_) (fun hx=>?_)|refine opP (pvLen (xs:=s) (by rfl) (by rfl) Tryd.underlying9) ?_|refine opP (pvIdx (xs:=s) (j:=i) (by rfl) (by rfl) (by rfl) rfl hc Tryd.underlying9) ?_|refine opP (pvPc (xs:=s) a i (by rfl) (by rfl) (by rfl) (by rfl) ⟨⟨rfl,rfl⟩,ha,by omega⟩ Tryd.underlying9) ?_|refine opbi (e:=9) ⟨tab_ok⟩ (tx (piece s a i)) (by rfl) (by rfl) ?_|intro gb | refine opap 0 0 (e:=9) (lo:=w.heap.size) (size:=1) (bytes:=16) (z:=.string ByteArray.empty) (A:=rwO strE w.heap.size B out.length cb out true) (vals:=rowsOf strE.c out) (cells:=[.string ⟨(piece s a i).toArray⟩]) (zs:=rowsOf strE.c (out++[piece s a i])) (n2:=(out++[piece s a i]).length) (fun A2 c2=>rwO strE w.heap.size A2 (out++[piece s a i]).length c2 (out++[piece s a i]) true) (by rfl) (by rfl) (by rfl) (by rfl) rfl rfl (fun w h=>h) (fun A' c' w h=>h) (fun _ _=>rfl) (by rfl) (by rfl) (by rfl) (by rfl) Tryd.underlying63 (by kernel_rfl) rfl (by decide) (by decide) (by intro u hu; simp at hu; rcases hu with rfl; rfl) (by omega) (fun w hH=>hH.upd.size) (by rw [List.length_append]; rfl) (by rw [rowsOf_append]; rfl) (fun A2 c2=>?_)|refine En.back ⟨(i+1,i+1,A2,c2,out++[piece s a i]),hI.blank hc⟩ (wkd ?_) ?_|refine fin_s ?_|refine fin_r ?_ ?_|refine fin_e ?_ ?_)
   all_goals first | (show s.length+1 - (i+1) < s.length+1 - i; omega)|skip
   all_goals (repeat' (first | exact trivial | rfl | ((conv=>whnf); refine And.intro ?_ ?_)))
  ·have hne:((c.toNat:Int) == 32)=false:=beq_eq_false_iff_ne.2 (fun h=>h32 (UInt8.toNat_inj.1 (by show c.toNat=32; omega)))
   repeat' ((conv=>whnf); first | refine sgo ⟨tab_ok⟩ ?_|refine br_not ?_|refine br_t rfl ?_|refine br_f rfl ?_|refine br_t (by assumption) ?_|refine br_f (by assumption) ?_|refine br_t (decide_eq_true (by assumption)) ?_|refine br_f (decide_eq_false (by assumption)) ?_|refine br_t (beq_iff_eq.2 (by assumption)) ?_|refine br_f (beq_eq_false_iff_ne.2 (by assumption)) ?_|refine drA ⟨tab_ok⟩ [] ?_|refine kpt ?_|refine br_t (decide_eq_true (by omega)) ?_|refine br_f (decide_eq_false (by omega)) ?_|refine wr_i ?_|refine br_f hne ?_|refine br_ne (fun hx=>?_) (fun hx=>?_)|refine opP (pvLen (xs:=s) (by rfl) (by rfl) Tryd.underlying9) ?_|refine opP (pvIdx (xs:=s) (j:=i) (by rfl) (by rfl) (by rfl) rfl hc Tryd.underlying9) ?_|refine En.back ⟨(i+1,a,B,cb,out),hI.more hc h32⟩ (wkd ?_) ?_|refine fin_s ?_|refine fin_r ?_ ?_|refine fin_e ?_ ?_)
   all_goals first | (show s.length+1 - (i+1) < s.length+1 - i; omega)|skip
   all_goals (repeat' (first | exact trivial | rfl | ((conv=>whnf); refine And.intro ?_ ?_)))
 ·by_cases he:i=s.length
  ·obtain ⟨ha,_,_⟩:=hI.go (by omega)
   repeat' ((conv=>whnf); first | refine sgo ⟨tab_ok⟩ ?_|refine br_not ?_|refine br_t rfl ?_|refine br_f rfl ?_|refine br_t (by assumption) ?_|refine br_f (by assumption) ?_|refine br_t (decide_eq_true (by assumption)) ?_|refine br_f (decide_eq_false (by assumption)) ?_|refine br_t (beq_iff_eq.2 (by assumption)) ?_|refine br_f (beq_eq_false_iff_ne.2 (by assumption)) ?_|refine drA ⟨tab_ok⟩ [] ?_|refine kpt ?_|refine br_t (decide_eq_true (by omega)) ?_|refine br_f (decide_eq_false (by omega)) ?_|refine wr_i ?_|refine br_ne (fun hx=>?_) (fun hx=>?_)|refine opP (pvLen (xs:=s) (by rfl) (by rfl) Tryd.underlying9) ?_|refine opP (pvPc (xs:=s) a i (by rfl) (by rfl) (by rfl) (by rfl) ⟨⟨rfl,rfl⟩,ha,by omega⟩ Tryd.underlying9) ?_|refine opbi (e:=9) ⟨tab_ok⟩ (tx (piece s a i)) (by rfl) (by rfl) ?_|intro gb | refine opap 0 0 (e:=9) (lo:=w.heap.size) (size:=1) (bytes:=16) (z:=.string ByteArray.empty) (A:=rwO strE w.heap.size B out.length cb out true) (vals:=rowsOf strE.c out) (cells:=[.string ⟨(piece s a i).toArray⟩]) (zs:=rowsOf strE.c (out++[piece s a i])) (n2:=(out++[piece s a i]).length) (fun A2 c2=>rwO strE w.heap.size A2 (out++[piece s a i]).length c2 (out++[piece s a i]) true) (by rfl) (by rfl) (by rfl) (by rfl) rfl rfl (fun w h=>h) (fun A' c' w h=>h) (fun _ _=>rfl) (by rfl) (by rfl) (by rfl) (by rfl) Tryd.underlying63 (by kernel_rfl) rfl (by decide) (by decide) (by intro u hu; simp at hu; rcases hu with rfl; rfl) (by omega) (fun w hH=>hH.upd.size) (by rw [List.length_append]; rfl) (by rw [rowsOf_append]; rfl) (fun A2 c2=>?_)|refine En.back ⟨(i+1,i+1,A2,c2,out++[piece s a i]),hI.end_ he⟩ (wkd ?_) ?_|refine fin_s ?_|refine fin_r ?_ ?_|refine fin_e ?_ ?_)
   all_goals first | (show s.length+1 - (i+1) < s.length+1 - i; omega)|skip
   all_goals (repeat' (first | exact trivial | rfl | ((conv=>whnf); refine And.intro ?_ ?_)))
  ·have e0:=hI.no (by omega)
   repeat' ((conv=>whnf); first | refine sgo ⟨tab_ok⟩ ?_|refine br_not ?_|refine br_t rfl ?_|refine br_f rfl ?_|refine br_t (by assumption) ?_|refine br_f (by assumption) ?_|refine br_t (decide_eq_true (by assumption)) ?_|refine br_f (decide_eq_false (by assumption)) ?_|refine br_t (beq_iff_eq.2 (by assumption)) ?_|refine br_f (beq_eq_false_iff_ne.2 (by assumption)) ?_|refine drA ⟨tab_ok⟩ [] ?_|refine kpt ?_|refine br_t (decide_eq_true (by omega)) ?_|refine br_f (decide_eq_false (by omega)) ?_|refine opP (pvLen (xs:=s) (by rfl) (by rfl) Tryd.underlying9) ?_|refine fin fun w' hH=>⟨(B,cb),by rw [e0]; rfl,by rw [e0]; exact Hold.ob hH (A:=rwO strE w.heap.size B out.length cb out true) 0 rfl,hH.upd.since⟩|refine fin_s ?_|refine fin_r ?_ ?_|refine fin_e ?_ ?_)
end Sw
end Go.Proofs.YtjghelofdfolbaaDoor
