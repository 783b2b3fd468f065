/-
  Wanted: part 2.
  No condition.
-/
import Derived.Test.YtnoehplnmdajnaaGreatDoorPH1
import Derived.Great.BuildSlice
import Derived.Great.FillDense
import Derived.Test.YtnoehplnmdajnaaGreatDoorProg
import Derived.Lib.FrozenHead2
import Derived.Shelf.Strings.BuilderK
set_option linter.all false
namespace Go.Proofs.YtnoehplnmdajnaaGreatDoor
namespace En
open Go.RowKit Ba Mem
section
variable {X:Cx} {m m':List Row} {ob:List Asr} {w w':World} {s:St} {a:Act} {o:Oper} {K:St→Prop} {F:Prop}
theorem rowA_ext (h:Ext m m') {r:Row} (hk:okL m.length r.cs=true):rowA m' r=rowA m r:=by unfold rowA; rw [denL_ext h _ hk]
theorem Hold.since (h:Hold X m ob w) (k:Since w w'):Hold X m ob w' :=
 ⟨h.upd.trans k,fun j r hj hl=>keep_blk k (h.row j r hj hl),h.wf,h.ne,fun A hA=>A.up (T:=[]) (Upd.of_since k) (fun _ _ h=>by cases h) (h.obj A hA),h.far,h.own,h.dis⟩
theorem Hold.drew (h:Hold X m ob w):Hold X m ob w.drew:=h.since ((Since.refl w).drew)
theorem getElem?_snoc {α:Type} {l:List α} {x y:α} {j:Nat} (h:(l++[x])[j]?=some y):l[j]?=some y∨(j=l.length∧y=x):=by
 rcases Nat.lt_or_ge j l.length with hl | hl
 ·rw [List.getElem?_append_left hl] at h; exact .inl h
 ·rw [List.getElem?_append_right hl] at h
  have:j - l.length=0:=by
   have:=(List.getElem?_eq_some_iff.1 h).1
   simp at this; omega
  rw [this] at h; simp at h
  exact .inr ⟨by omega,h.symm⟩
theorem Hold.new (h:Hold X m ob w) {t:TypeId} {cs:List SV} (hc:okL m.length cs=true):Hold X (m++[⟨w.heap.size,t,true,0,[],cs,[],true⟩]) ob (w.alloc (.cells (denL m cs).toArray t)):=by
 have k:Since w (w.alloc (.cells (denL m cs).toArray t)):=(Since.refl w).alloc _
 have h2:=h.since k
 have hE:=Ext.app m [⟨w.heap.size,t,true,0,[],cs,[],true⟩]
 have hlen:(m++[(⟨w.heap.size,t,true,0,[],cs,[],true⟩:Row)]).length=m.length+1:=by simp
 have hrow:rowA (m++[⟨w.heap.size,t,true,0,[],cs,[],true⟩]) ⟨w.heap.size,t,true,0,[],cs,[],true⟩=(denL m cs).toArray:=by
  rw [rowA_ext hE hc]; simp [rowA,el]
 refine ⟨h2.upd,fun j r hj hl=>?_,fun j r hj hl=>?_,fun i j r q hi hj hr hq hne=>?_,h2.obj,fun A hA j r hj hl=>?_,h2.own,h2.dis⟩
 ·rcases getElem?_snoc hj with hj | ⟨_,rfl⟩
  ·rw [rowA_ext hE (h.wf j r hj hl).1]; exact h2.row j r hj hl
  ·rw [hrow]; exact Blk.new w t _
 ·rcases getElem?_snoc hj with hj | ⟨_,rfl⟩
  ·obtain ⟨h3,h4,h5⟩:=h.wf j r hj hl
   exact ⟨okL_mono (by rw [hlen]; omega) _ h3,h4,h5⟩
  ·exact ⟨okL_mono (by rw [hlen]; omega) _ hc,rfl,fun _=>.inr h.upd.size⟩
 ·have lt:∀ (j:Nat) (r:Row),m[j]?=some r→r.live=true→r.g < w.heap.size:=fun j r hj hl=>(h.row j r hj hl).lt
  rcases getElem?_snoc hi with hi | ⟨rfl,rfl⟩ <;> rcases getElem?_snoc hj with hj | ⟨rfl,rfl⟩
  ·exact h.ne i j r q hi hj hr hq hne
  ·have:=lt i r hi hr; exact Nat.ne_of_lt this
  ·have:=lt j q hj hq; exact Nat.ne_of_gt this
  ·exact absurd rfl hne
 ·rcases getElem?_snoc hj with hj | ⟨_,rfl⟩
  ·exact h.far A hA j r hj hl
  ·intro hm; have:=A.lt (h.obj A hA) _ hm; simp at this
theorem getElem?_set_or {α:Type} {l:List α} {x y:α} {i j:Nat} (h:(l.set i x)[j]?=some y):(i=j∧y=x)∨(i≠j∧l[j]?=some y):=by
 by_cases e:i=j
 ·subst e
  rw [List.getElem?_set] at h
  simp at h
  exact .inl ⟨rfl,h.2.symm⟩
 ·rw [List.getElem?_set_ne e] at h; exact .inr ⟨e,h⟩
theorem Hold.set (h:Hold X m ob w) {j:Nat} {r:Row} (hj:m[j]?=some r) (hl:r.live=true) (hrw:r.rw=true) {cs:List SV} (hc:okL m.length cs=true) :
  Hold X (m.set j { r with cs:=cs }) ob (w.setRow r.g (rowA m { r with cs:=cs })):=by
 have hE:=Ext.set hj cs
 have hB:=h.row j r hj hl
 have hr:∀ (q:Row),okL m.length q.cs=true→rowA (m.set j { r with cs:=cs }) q=rowA m q:=fun q hq=>rowA_ext hE hq
 obtain ⟨w1,w2,w3⟩:=h.wf j r hj hl
 have hup:Upd [r.g] w (w.setRow r.g (rowA m { r with cs:=cs })):=(Upd.refl _ w).setRow (.inl (by simp)) _
 refine ⟨h.upd.setRow (w3 hrw) _,fun i q hi hq=>?_,fun i q hi hq=>?_,fun i k q q' hi hk hq hq' hne=>?_,fun A hA=>A.up hup (fun g hg hgr=>h.far A hA j r hj hl (by rw [List.mem_singleton] at hgr; exact hgr ▸ hg)) (h.obj A hA),fun A hA i q hi hq=>?_,h.own,h.dis⟩
 ·rcases getElem?_set_or hi with ⟨rfl,rfl⟩ | ⟨hne,hi⟩
  ·rw [hr _ hc]; exact Blk.row hB _
  ·rw [hr _ (h.wf i q hi hq).1]; exact Blk.row_far (h.row i q hi hq) (h.ne i j q r hi hj hq hl (Ne.symm hne)) _
 ·rw [List.length_set]
  rcases getElem?_set_or hi with ⟨rfl,rfl⟩ | ⟨hne,hi⟩
  ·exact ⟨hc,w2,w3⟩
  ·exact h.wf i q hi hq
 ·rcases getElem?_set_or hi with ⟨rfl,rfl⟩ | ⟨hn1,hi⟩ <;> rcases getElem?_set_or hk with ⟨rfl,rfl⟩ | ⟨hn2,hk⟩
  ·exact absurd rfl hne
  ·exact h.ne j k r q' hj hk hl hq' hne
  ·exact h.ne i j q r hi hj hq hl hne
  ·exact h.ne i k q q' hi hk hq hq' hne
 ·rcases getElem?_set_or hi with ⟨rfl,rfl⟩ | ⟨hne,hi⟩
  ·exact h.far A hA j r hj hl
  ·exact h.far A hA i q hi hq
theorem FrOk.ext {tm:Array Value} {fr:List (Nat×SV)} (h:FrOk m tm fr) (hE:Ext m m'):FrOk m' tm fr:=fun k v hv=>by
 obtain ⟨h1,h2⟩:=h k v hv
 exact ⟨okV_mono hE.len _ h1,by rw [den_ext hE _ h1]; exact h2⟩
theorem put_of {d:Option Tmp} {v:SV} (hd:a.defers=X.ds) (hz:a.tmps.size=X.n) (hf:FrOk s.m a.tmps s.fr) (hH:Hold X s.m s.ob w) (hv:okV s.m.length v=true) (h:put X.n d v s K) :
  ∃ s',Rel X s' (a.put d (den s.m v)) w∧s'.m=s.m∧s'.ob=s.ob∧K s':=by
 unfold put at h
 cases d with
 | none=>exact ⟨s,⟨hd,hz,hf,hH⟩,rfl,rfl,h⟩
 | some d =>
  simp only at h
  cases hb:Nat.blt d X.n with
  | false=>rw [hb] at h; exact h.elim
  | true =>
   rw [hb] at h
   have hlt:d < X.n:=by simpa [Nat.blt_eq] using hb
   refine ⟨{ s with fr:=(d,v)::s.fr },⟨hd,by simp [Act.put,hz],fun k u hu=>?_,hH⟩,rfl,rfl,h⟩
   simp only [lkO] at hu
   cases hk:Nat.beq d k with
   | true =>
    rw [hk] at hu
    have:=Nat.eq_of_beq_eq_true hk
    subst this
    cases hu
    exact ⟨hv,by simp [Act.put,hz,hlt]⟩
   | false =>
    rw [hk] at hu
    obtain ⟨h1,h2⟩:=hf k u hu
    refine ⟨h1, ?_⟩
    have hne:d≠k:=fun e=>by subst e; simp at hk
    simpa [Act.put,Array.getElem?_setIfInBounds_ne hne] using h2
theorem putAt_lay:∀ (vs:List SV) (l:List SV) (q:Nat),q+vs.length≤l.length→putAt (denL m l).toArray q (denL m vs)=(denL m (lay q vs l)).toArray
 | [],l,q,_=>by simp [denL,putAt,lay]
 | v::vs,l,q,h=>by
  simp only [List.length_cons] at h
  have hset:(denL m l).toArray.setIfInBounds q (den m v)=(denL m (l.set q v)).toArray:=by
   rw [List.setIfInBounds_toArray]
   congr 1
   apply List.ext_getElem?
   intro i
   rw [denL_get,List.getElem?_set,List.getElem?_set,denL_get]
   by_cases hi:q=i
   ·subst hi; simp [denL_len]
   ·simp [hi]
  show putAt ((denL m l).toArray.setIfInBounds q (den m v)) (q+1) (denL m vs)=_
  rw [hset,putAt_lay vs (l.set q v) (q+1) (by simp; omega)]
  congr 2
  unfold lay
  rw [List.length_cons,List.take_succ_eq_append_getElem (by simp; omega),List.take_set_of_le (Nat.le_refl _)]
  simp only [List.getElem_set_self,List.append_assoc,List.cons_append,List.nil_append]
  rw [List.drop_set_of_lt (by omega),show q+1+vs.length=q+(vs.length+1) from by omega]
theorem oneS_den {v:SV} (hk:okV m.length v=true) (h:oneS v=true):(den m v).oneCell'=true:=by
 cases v with
 | v x=>exact h
 | p j o =>
  have hj:j < m.length:=by simpa [okV] using hk
  simp only [den,List.getElem?_eq_getElem hj]; rfl
 | s j o n c =>
  have hj:j < m.length:=by simpa [okV] using hk
  simp only [den,List.getElem?_eq_getElem hj]; rfl
 | a _=>cases h
 | t _=>cases h
 | _=>rfl
theorem lay_ok {n q:Nat} {vs l:List SV} (h:okL n l=true) (k:okL n vs=true):okL n (lay q vs l)=true :=
 okL_app (okL_app (okL_sub h fun v hv=>List.mem_of_mem_take hv) k) (okL_sub h fun v hv=>List.mem_of_mem_drop hv)
structure KI (keep:List Nat) (m0 m:List Row):Prop where
 ext:Ext m0 m
 at_:∀ j∈keep,∃ r,m0[j]?=some r∧m[j]?=some r
structure Cx.Ok (X:Cx):Prop where
 tab:TabOk X.P X.tab
theorem cellsS_ok {n:Nat} {v:SV} (h:okV n v=true):okL n (cellsS v)=true:=by
 cases v <;> first | exact h | (simp only [cellsS,okL,Bool.and_true]; exact h)
theorem cellsS_den {v:SV} (hk:okV m.length v=true) (hv:∀ x,v=.v x→x.oneCell'=true):(den m v).cells=(denL m (cellsS v)).toArray:=by
 cases v with
 | v x=>have:=hv x rfl; cases x <;> first | rfl | cases this
 | p j o =>
  have hj:j < m.length:=by simpa [okV] using hk
  simp only [den,cellsS,denL,List.getElem?_eq_getElem hj]; rfl
 | s j o n c =>
  have hj:j < m.length:=by simpa [okV] using hk
  simp only [den,cellsS,denL,List.getElem?_eq_getElem hj]; rfl
 | _=>rfl
variable {keep:List Nat} {m0:List Row}
theorem nw_of {t:TypeId} {cs:List SV} {K:Nat→St→Prop} (h:nw s t cs K) (g:Nat):K s.m.length { s with m:=s.m++[⟨g,t,true,0,[],cs,[],true⟩] }:=by
 have h1:=lenR_of (h g)
 have h2:=appR_of h1
 simpa using h2
theorem KI.app (h:KI keep m0 m) (l:List Row):KI keep m0 (m++l):=⟨h.ext.trans (Ext.app _ _),fun j hj=>by
 obtain ⟨r,h1,h2⟩:=h.at_ j hj
 exact ⟨r,h1,by rw [List.getElem?_append_left (List.getElem?_eq_some_iff.1 h2).1]; exact h2⟩⟩
theorem KI.set (h:KI keep m0 m) {j:Nat} {r:Row} (hj:m[j]?=some r) (hk:keep.elem j=false) (cs:List SV):KI keep m0 (m.set j { r with cs:=cs }):=⟨h.ext.trans (Ext.set hj cs),fun i hi=>by
 obtain ⟨q,h1,h2⟩:=h.at_ i hi
 have hne:j≠i:=fun e=>by subst e; simp at hk; exact hk hi
 exact ⟨q,h1,by rw [List.getElem?_set_ne hne]; exact h2⟩⟩
def Ac (X:Cx) (keep:List Nat) (m0:List Row) (o:Oper) (a:Act) (w:World) (K:St→Prop):Prop:=∀ Q,o.wp X.P a w (fun a' w'=>∃ s',Rel X s' a' w'∧KI keep m0 s'.m∧K s') Q
theorem new_act (hR:Rel X s a w) (hki:KI keep m0 s.m) {t:TypeId} {cs:List SV} (hc:okL s.m.length cs=true)
  (he:(execOp a.eval o).run X.P w=.ok (.value (.pointer (some ⟨w.heap.size,0,none⟩))) (w.alloc (.cells (denL s.m cs).toArray t)))
  (h:nw s t cs fun j s=>put X.n o.dst (.p j 0) s K):Ac X keep m0 o a w K:=fun Q=>by
 have h1:=nw_of h w.heap.size
 have hH:=hR.h.new (t:=t) hc
 have hE:=Ext.app s.m [⟨w.heap.size,t,true,0,[],cs,[],true⟩]
 have hg:(s.m++[(⟨w.heap.size,t,true,0,[],cs,[],true⟩:Row)])[s.m.length]?=some ⟨w.heap.size,t,true,0,[],cs,[],true⟩:=by simp
 obtain ⟨s',r1,r2,r3,r4⟩:=put_of (a:=a) (s:={ s with m:=s.m++[⟨w.heap.size,t,true,0,[],cs,[],true⟩] }) (v:=.p s.m.length 0) hR.ds hR.sz (hR.fr.ext hE) hH (by simp [okV]) h1
 unfold Oper.wp
 rw [he]
 refine ⟨s', ?_,by rw [r2]; exact hki.app _,r4⟩
 have:den (s.m++[⟨w.heap.size,t,true,0,[],cs,[],true⟩]) (.p s.m.length 0)=.pointer (some ⟨w.heap.size,0,none⟩):=by simp only [den,hg]
 rw [← this]; exact r1
theorem q_act (hR:Rel X s a w) (hki:KI keep m0 s.m) {v:SV} (hv:okV s.m.length v=true) (he:(execOp a.eval o).run X.P w=.ok (.value (den s.m v)) w) (h:put X.n o.dst v s K):Ac X keep m0 o a w K:=fun Q=>by
 obtain ⟨s',r1,r2,r3,r4⟩:=put_of hR.ds hR.sz hR.fr hR.h hv h
 exact wp_q _ he ⟨s',r1,by rw [r2]; exact hki,r4⟩
theorem stv_of {tab:Tab} {t:TypeId} {v:SV} {K:List SV→Prop} (h:stv tab t v K F):F∨∃ y vs,tyO t tab=some y∧((v=.a vs∧y.row=true∧vs.length=y.size∧∀ u∈vs,oneS u=true)∨(vs=[v]∧y.row=false∧oneS v=true))∧K vs:=by
 obtain ⟨y,hy,h⟩:=tyK_of h
 have other:(match y.row with | true=>F | false=>match oneS v with | true=>K [v]|false=>F)→F∨∃ y vs,tyO t tab=some y∧((v=.a vs∧y.row=true∧vs.length=y.size∧∀ u∈vs,oneS u=true)∨(vs=[v]∧y.row=false∧oneS v=true))∧K vs:=fun h=>by
  cases hr:y.row with
  | true=>rw [hr] at h; exact .inl h
  | false =>
   rw [hr] at h
   cases ho:oneS v with
   | false=>simp only [ho] at h; exact .inl h
   | true=>simp only [ho] at h; exact .inr ⟨y,[v],hy,.inr ⟨rfl,hr,by first | rfl | exact ho⟩,h⟩
 cases v with
 | a l =>
  simp only at h
  cases hr:y.row with
  | false=>simp only [hr] at h; exact .inl h
  | true =>
   simp only [hr] at h
   cases hb:Nat.beq l.length y.size && l.all oneS with
   | false=>simp only [hb] at h; exact .inl h
   | true =>
    simp only [hb] at h
    simp only [Bool.and_eq_true,List.all_eq_true] at hb
    exact .inr ⟨y,l,hy,.inl ⟨rfl,hr,Nat.eq_of_beq_eq_true hb.1,hb.2⟩,h⟩
 | _=>exact other h
theorem me_of (hX:X.Ok) (hR:Rel X s a w) (hki:KI keep m0 s.m) (h:me X.tab X.n keep o s K F):F∨Ac X keep m0 o a w K:=by
 unfold me at h
 split at h
 ·rename_i t x ho
  rcases ld_of (o:=o) (a:=a) hX.tab hR.fr ho h with h | ⟨j,r,v,h1,h2,h3,h4,h5⟩
  ·exact .inl h
  ·obtain ⟨w1,w2,w3⟩:=hR.h.wf j r h1 h2
   exact .inr (q_act hR hki (h3 w1) (h4 w w2 (hR.h.row j r h1 h2)) h5)
 ·rename_i t x y ho
  obtain ⟨p,h1,h2,h⟩:=ev_of hR.fr h
  obtain ⟨v,k1,k2,h⟩:=ev_of hR.fr h
  cases p with
  | p j q =>
   simp only at h
   cases hk:keep.elem j with
   | true=>rw [hk] at h; exact h.elim
   | false =>
    rw [hk] at h
    rcases stv_of h with h | ⟨ty,vs0,hy,hwhat,hs9⟩
    ·exact .inl h
    clear h
    obtain ⟨d,i,T⟩:=(hX.tab _ _ hy).out
    have key:∀ vs:List SV,okL s.m.length vs=true→(∀ (r:Row) (cs:List SV),s.m[j]?=some r→r.live=true→q+vs.length≤r.cs.length→okL s.m.length cs=true→cs=lay q vs r.cs→(∀ K:Act→World→Prop,(∀ w',w'=w.setRow r.g (rowA s.m { r with cs:=cs })→K (a.put o.dst undef) w')→∀ Q,o.wp X.P a w K Q)) →
      setR j (fun r K=>match r.live with | true=>(match r.rw with | true=>setN q vs r.cs fun cs=>K { r with cs:=cs }|false=>False)|false=>False) s.m (fun m=>put X.n o.dst (.v undef) { s with m:=m } K)→Ac X keep m0 o a w K:=by
     intro vs hvs hst hs
     obtain ⟨r,hr,hs⟩:=setR_of hs
     cases hl:r.live with
     | false=>simp only [hl] at hs
     | true =>
      simp only [hl] at hs
      cases hrw:r.rw with
      | false=>simp only [hrw] at hs
      | true =>
      simp only [hrw] at hs
      obtain ⟨hlen,hs⟩:=setN_of hs
      obtain ⟨w1,w2,w3⟩:=hR.h.wf j r hr hl
      have hok:okL s.m.length (lay q vs r.cs)=true:=lay_ok w1 hvs
      have hH:=hR.h.set hr hl hrw hok
      have hE:=Ext.set hr (lay q vs r.cs)
      intro Q
      refine hst r _ hr hl hlen hok rfl _ (fun w' hw'=>?_) Q
      have hs2:put X.n o.dst (.v undef) { s with m:=s.m.set j { r with cs:=lay q vs r.cs } } K:=by simpa [hl,hrw] using hs
      obtain ⟨s',r1,r2,r3,r4⟩:=put_of (a:=a) (s:={ s with m:=s.m.set j { r with cs:=lay q vs r.cs } }) hR.ds hR.sz (hR.fr.ext hE) hH (v:=.v undef) rfl hs2
      subst hw'
      exact ⟨s',r1,by rw [r2]; exact hki.set hr hk _,r4⟩
    have hpart:∀ (r:Row) (vs:List SV),s.m[j]?=some r→r.live=true→q+vs.length≤r.cs.length→putAt (rowA s.m r) (r.off+q) (denL s.m vs)=rowA s.m { r with cs:=lay q vs r.cs }:=fun r vs hr hl hlen=>by
     obtain ⟨w1,w2,w3⟩:=hR.h.wf j r hr hl
     exact el_put w2 (by simp [denL_len]; exact hlen) (putAt_lay vs r.cs q hlen)
    have haddr:∀ r:Row,s.m[j]?=some r→a.eval x=.pointer (some ⟨r.g,r.off+q,none⟩):=fun r hr=>by rw [h2]; simp only [den,hr]
    rcases hwhat with ⟨rfl,hrow,hll,hb⟩ | ⟨rfl,hrow,hone⟩
    ·refine .inr (key vs0 k1 (fun r cs hr hl hlen hok hcs K hK Q=>?_) hs9)
     subst hcs
     obtain ⟨w1,w2,w3⟩:=hR.h.wf j r hr hl
     refine wp_st_part t x y ho (rowA s.m { r with cs:=lay q vs0 r.cs }) (denL s.m vs0).toArray (haddr r hr) k2 (hR.h.row j r hr hl) ?_ (hpart r vs0 hr hl hlen) ?_ (by rw [T.inf]; simp [T.size,denL_len,hll]) (fun w' hw'=>hK w' hw')
     ·rw [List.size_toArray]; exact el_le w2 (by simp [denL_len]; exact hlen)
     ·simp only [List.all_toArray,List.all_eq_true]
      intro u hu
      obtain ⟨k,hk⟩:=List.mem_iff_getElem?.1 hu
      rw [denL_get] at hk
      cases hq:vs0[k]? with
      | none=>rw [hq] at hk; cases hk
      | some v =>
       rw [hq] at hk; cases hk
       exact oneS_den (okL_at k1 hq) (hb v (List.mem_of_getElem? hq))
    ·refine .inr (key [v] (by simp [okL,k1]) (fun r cs hr hl hlen hok hcs K hK Q=>?_) hs9)
     subst hcs
     obtain ⟨w1,w2,w3⟩:=hR.h.wf j r hr hl
     refine wp_st_cell t x y ho (rowA s.m { r with cs:=lay q [v] r.cs }) (den s.m v) (haddr r hr) k2 (hR.h.row j r hr hl) ?_ ?_ (oneS_den k1 hone) (by rw [T.inf]; simp [T.size,T.one hrow]) (fun w' hw'=>hK w' hw')
     ·exact el_lt w2 (by simp [denL_len]; simp at hlen; omega)
     ·simpa [denL,putAt] using hpart r [v] hr hl hlen
  | _=>exact .inl h
 ·rename_i t ho
  obtain ⟨y,hy,h⟩:=tyK_of h
  obtain ⟨d,i,T⟩:=(hX.tab _ _ hy).out
  have hz:okL s.m.length y.zero=true:=okL_mono (Nat.zero_le _) _ T.zok
  refine .inr (new_act hR hki hz ?_ h)
  have hzc:(zeroV y).cells=(denL s.m y.zero).toArray:=by
   rw [denL0 T.zok]
   unfold zeroV
   cases hr:y.row with
   | true=>rfl
   | false =>
    have h1:=T.one hr
    have h2:=T.zlen
    match hyz:y.zero with
    | []=>rw [hyz] at h2; simp at h2; omega
    | [v] =>
     have h3:=T.zone hr v (by rw [hyz]; rfl)
     rw [cellsS_den (m:=[]) (okL_at T.zok (k:=0) (by rw [hyz]; rfl)) (fun x hx=>by subst hx; exact h3)]
     cases v <;> first | rfl | cases h3
    | _::_::_=>rw [hyz] at h2; simp at h2; omega
  unfold execOp
  simp [ho,Instr.alloc,zeroValue,typeInfo,T.inf,T.zero,newVar,newRow,hzc]
 ·rename_i t x ho
  obtain ⟨v,k1,k2,h⟩:=ev_of hR.fr h
  split at h
  ·rename_i x1
   cases hone:x1.oneCell' with
   | false=>simp only [hone] at h; exact .inl h
   | true =>
    simp only [hone] at h
    refine .inr (new_act hR hki (cellsS_ok k1) ?_ h)
    unfold execOp
    simp [ho,Instr.box,newVar,newRow,k2,cellsS_den k1 (fun x hx=>by cases hx; exact hone)]
  ·rename_i hnv
   refine .inr (new_act hR hki (cellsS_ok k1) ?_ h)
   unfold execOp
   simp [ho,Instr.box,newVar,newRow,k2,cellsS_den k1 (fun x hx=>absurd hx (hnv x))]
 ·exact .inl h
end
end En
namespace En
open Go.RowKit Ba Mem
section
variable {X:Cx} {m m':List Row} {ob:List Asr} {w w':World} {s:St} {a:Act} {o:Oper} {K:St→Prop} {F:Prop} {keep:List Nat} {m0:List Row}
theorem KI.nil (h:Ext m0 m):KI [] m0 m:=⟨h,fun _ h=>by cases h⟩
theorem KI.kpt (h:KI keep m0 m) (hE:Ext m m') {A:Prop} (k:Kpt keep m0 m' A):KI keep m0 m'∧A:=by
 replace k:=k.out
 refine ⟨⟨h.ext.trans hE,fun j hj=>?_⟩,k.2⟩
 obtain ⟨r,h1,h2⟩:=h.at_ j hj
 have:=(List.map_inj_left.1 k.1) j hj
 exact ⟨r,h1,by rw [← this,h1]⟩
def endK (keep:List Nat) (m0:List Row) (K:St→Prop):St→Prop:=fun s=>match keep with
 | []=>K s
 | _::_=>Kpt keep m0 s.m (K s)
theorem endK_of (h:KI keep m0 m) (hE:Ext m s.m) (k:endK keep m0 K s):KI keep m0 s.m∧K s:=by
 unfold endK at k
 cases keep with
 | nil=>exact ⟨⟨h.ext.trans hE,fun _ h=>by cases h⟩,k⟩
 | cons j r=>exact h.kpt hE k
theorem opvc_of (hR:Rel X s a w) (hki:KI keep m0 s.m) (h:OpVC X o s (endK keep m0 K)):Ac X keep m0 o a w K:=fun Q=>by
 replace h:=h.out
 refine Oper.wp_mono (fun a' w' ⟨s',r1,r2,r3⟩=>?_) (h a w Q hR)
 obtain ⟨h1,h2⟩:=endK_of hki r2 r3
 exact ⟨s',r1,h1,h2⟩
theorem hd_of (hR:Rel X s a w) (hki:KI keep m0 s.m) (h:hd X o s (endK keep m0 K)):Ac X keep m0 o a w K:=by
 unfold hd at h
 split at h
 ·rename_i c ho
  obtain ⟨callee,args,ats⟩:=c
  cases callee with
  | value f =>
   simp only at h
   obtain ⟨v,h1,h2,h⟩:=ev_of hR.fr h
   cases v with
   | f fid cs =>
    obtain ⟨vs,k1,k2,h⟩:=evL_of hR.fr h
    have h:=appS_of h
    intro Q
    replace h:=h.out
    obtain ⟨he,hc⟩:=h
    unfold Oper.wp execOp
    have hargs:(args.map a.eval++(denL s.m cs).toArray)=(denL s.m (vs++cs)).toArray:=by
     rw [denL_app,← k2]; simp
    simp only [ho,resolve,h2,den,Deferred.ofValue,Sem.run_bind,Sem.run_pure,Result.andThen_ok,invoke,he]
    rw [show (#[]++args.map a.eval)++(denL s.m cs).toArray=(denL s.m (vs++cs)).toArray by simpa using hargs]
    refine Calls.mono (hc w hR.h) ?_
    rintro e w' ⟨v,m',ob',rfl,hv,hE,hH,hp⟩
    obtain ⟨s',r1,r2,r3,r4⟩:=put_of (a:=a) (s:={ fr:=s.fr,m:=m',ob:=ob' }) hR.ds hR.sz (hR.fr.ext hE) hH hv hp
    obtain ⟨q1,q2⟩:=endK_of hki (by rw [r2]; exact hE) r4
    exact ⟨s',r1,q1,q2⟩
   | _=>exact opvc_of hR hki h
  | _=>exact opvc_of hR hki h
 ·exact opvc_of hR hki h
theorem exW_of (hX:X.Ok) (hR:Rel X s a w) (hki:KI keep m0 s.m) (h:exW X keep m0 o s K):Ac X keep m0 o a w K:=by
 unfold exW at h
 rcases pe_of (o:=o) (a:=a) (m:=s.m) hX.tab hR.fr rfl h with h | ⟨v,h1,h2,h3⟩
 ·rcases me_of hX hR hki h with h | h
  ·exact hd_of hR hki h
  ·exact h
 ·exact q_act hR hki h1 (h2 w) h3
theorem want_of {ops:Array Oper} {Y N:Prop} (hf:FrOk s.m a.tmps s.fr) (h:wantK ops.toList o.guard s.fr Y N):(Region.wanted o (yielded ops a.tmps)=true∧Y)∨(Region.wanted o (yielded ops a.tmps)=false∧N):=by
 unfold wantK at h
 cases hg:o.guard with
 | none=>simp only [hg] at h; exact .inl ⟨by simp [Region.wanted,hg],h⟩
 | some q =>
  obtain ⟨j,b⟩:=q
  simp only [hg] at h
  have hidx:ops.toList[j]?=ops[j]?:=by simp
  rw [hidx] at h
  have hno:yielded ops a.tmps j=none→Region.wanted o (yielded ops a.tmps)=false:=fun hy=>by simp [Region.wanted,hg,hy]
  cases ho:ops[j]? with
  | none=>rw [ho] at h; exact .inr ⟨hno (by simp [yielded,ho]),h⟩
  | some oj =>
   simp only [ho] at h
   cases hd:oj.dst with
   | none=>simp only [hd] at h; exact .inr ⟨hno (by simp [yielded,ho,hd]),h⟩
   | some d =>
    simp only [hd] at h
    obtain ⟨v,hv,h⟩:=lk_of h
    obtain ⟨k1,k2⟩:=hf d v hv
    cases v with
    | b t =>
     have hy:yielded ops a.tmps j=some t:=by simp [yielded,ho,hd,k2,den]
     cases b <;> cases t <;> replace h:=h.out
     ·exact .inl ⟨by simp [Region.wanted,hg,hy],h.2 rfl⟩
     ·exact .inr ⟨by simp [Region.wanted,hg,hy],h.1 rfl⟩
     ·exact .inr ⟨by simp [Region.wanted,hg,hy],h.2 rfl⟩
     ·exact .inl ⟨by simp [Region.wanted,hg,hy],h.1 rfl⟩
    | v x =>
     cases x with
     | tuple vs=>exact .inr ⟨hno (by simp [yielded,ho,hd,k2,den]),h⟩
     | _=>exact h.elim
    | _=>exact h.elim
theorem steps_of (hX:X.Ok) {ops:Array Oper} {Q:Exit→Act→World→Prop} (hQ:∀ a w s,Rel X s a w→K s→Q .normal a w):∀ {l:List Oper} {s:St} {a:Act} {w:World},Rel X s a w→steps X ops.toList l s K→wpList X.P ops Q l a w
 | [],s,a,w,hR,h=>hQ a w s hR h
 | o::r,s,a,w,hR,h=>by
  unfold steps at h
  refine wpList_step fun K' hK'=>?_
  rcases want_of hR.fr h with ⟨hw,h⟩ | ⟨hw,h⟩
  ·rw [if_pos hw]
   refine Oper.wp_mono (fun a' w' ⟨s',r1,r2,r3⟩=>hK' _ _ (steps_of hX hQ r1 r3)) (exW_of (keep:=[]) (m0:=s.m) hX hR (KI.nil (Ext.refl _)) (show exW X [] s.m o s _ from h) Q)
  ·rw [if_neg (by rw [hw]; decide)]
   obtain ⟨s',r1,r2,r3,r4⟩:=put_of (v:=.v undef) hR.ds hR.sz hR.fr hR.h rfl h
   exact hK' _ _ (steps_of hX hQ r1 r4)
def SKeep (sts:List (Nat×Nat)) (m0:List Row) (L:Array Bool) (w:World):Prop :=
 ∀ (j:Nat) (r:Row),m0[j]?=some r→r.live=true→(∀ q∈sts,q.2=j→L.getD q.1 false=false)→Blk w r.g r.t (rowA m0 r)
def W0 (m0:List Row):Prop:=∀ (j:Nat) (r:Row),m0[j]?=some r→r.live=true→okL m0.length r.cs=true∧r.pre.length=r.off
def AnyL (P:Program) (ops:Array Oper) (Q:Exit→Act→World→Prop) (S:Array Bool→World→Prop):Nat→Array Bool→Act→World→Prop
 | 0,L,a,w=>Region.ready .any ops L=[]∧Q .normal a w
 | n+1,L,a,w=>(Region.ready .any ops L=[]→Q .normal a w)∧∀ i∈Region.ready .any ops L,wpOp P ops Q i (fun a' w'=>S (L.setIfInBounds i true) w'∧AnyL P ops Q S n (L.setIfInBounds i true) a' w') a w
theorem AnyL.out {P:Program} {ops:Array Oper} {Q:Exit→Act→World→Prop} {S:Array Bool→World→Prop}:∀ {n:Nat} {L:Array Bool} {a:Act} {w:World},AnyL P ops Q S n L a w→wpAny P .any ops Q n L a w
 | 0,_,_,_,h=>h
 | n+1,_,_,_,h=>⟨h.1,fun i hi=>wpOp_mono (fun a' w' k=>k.2.out) (h.2 i hi)⟩
def Clo (ops:Array Oper) (L:Array Bool):Prop:=∀ (k:Nat) (o:Oper),ops[k]?=some o→L.getD k false=true→∀ e∈o.after,Region.binds .any e=true→L.getD e.on false=true
theorem getD_set_self {L:Array Bool} {i:Nat} (h:L.getD i true=false):(L.setIfInBounds i true).getD i false=true:=by
 have hlt:i < L.size:=by
  rcases Nat.lt_or_ge i L.size with q | q
  ·exact q
  ·simp [Array.getElem?_eq_none q] at h
 simp [hlt]
theorem Clo.set {ops:Array Oper} {L:Array Bool} (h:Clo ops L) {i:Nat} (hi:i∈Region.ready .any ops L):Clo ops (L.setIfInBounds i true):=fun k o ho hk e he hb=>by
 obtain ⟨h0,oi,hoi,hall⟩:=mem_ready.1 hi
 by_cases hik:i=k
 ·subst hik
  rw [ho] at hoi; cases hoi
  exact getD_set_true (hall e he hb)
 ·rw [getD_set_ne false hik] at hk
  exact getD_set_true (h k o ho hk e he hb)
theorem AnyL.first {P:Program} {ops:Array Oper} {Q:Exit→Act→World→Prop} {S:Array Bool→World→Prop} {T:World→Prop} {i:Nat} {oi:Oper} {v:Value} (hi:ops[i]?=some oi) (hs:Region.noSelect ops=true)
  (hP:∀ c a w,¬ Q (.panic c) a w) (hST:∀ L w,Clo ops L→L.getD i true=false→S L w→T w) (hS1:∀ L w,S (L.setIfInBounds i true) w→S L w) (hS0:∀ L w,S L w→S (L.setIfInBounds i true) w) :
  ∀ {n:Nat} {L:Array Bool} {a:Act} {w:World},Clo ops L→Region.free .any ops L i=true→i∈Region.ready .any ops L→YieldsIf P ops T oi v a→S L w→AnyL P ops Q S n (L.setIfInBounds i true) (a.put oi.dst v) w→AnyL P ops Q S (n+1) L a w:=by
 have hsel:=Region.noSelect_spec hs
 have hq:∀ c a w,Q (.panic c) (a.put oi.dst v) w→Q (.panic c) a w:=fun c a w h=>(hP _ _ _ h).elim
 have fr:∀ (L:Array Bool) (j:Nat),Region.free .any ops L i=true→Region.free .any ops (L.setIfInBounds j true) i=true:=fun L j hf=>by
  simp only [Region.free,hi,List.all_eq_true,List.mem_range] at hf ⊢
  intro k hk
  have h1:=hf k hk
  simp only [Bool.or_eq_true] at h1 ⊢
  rcases h1 with (h1 | h1)|h1
  ·exact .inl (.inl h1)
  ·refine .inl (.inr ?_)
   by_cases hjk:j=k
   ·subst hjk
    rcases Nat.lt_or_ge j L.size with q | q
    ·simp [q]
    ·simp [Array.getElem?_eq_none q]
   ·rw [getD_set_ne true hjk]; exact h1
  ·exact .inr h1
 intro n
 induction n with
 | zero =>
  intro L a w hc hf hr hy hSw H
  have hT:=hST L w hc (mem_ready.1 hr).1 hSw
  refine ⟨fun h=>(by rw [h] at hr; cases hr),fun j hj=>?_⟩
  by_cases hji:j=i
  ·subst hji
   exact hy.wpOp hi hT (K:=fun a' w'=>S (L.setIfInBounds j true) w'∧AnyL P ops Q S 0 (L.setIfInBounds j true) a' w') ⟨hS0 _ _ hSw,H⟩
  ·have:=ready_mono hj hji
   rw [H.1] at this; cases this
 | succ n ih =>
  intro L a w hc hf hr hy hSw H
  have hT:=hST L w hc (mem_ready.1 hr).1 hSw
  refine ⟨fun h=>(by rw [h] at hr; cases hr),fun j hj=>?_⟩
  by_cases hji:j=i
  ·subst hji
   exact hy.wpOp hi hT (K:=fun a' w'=>S (L.setIfInBounds j true) w'∧AnyL P ops Q S (n+1) (L.setIfInBounds j true) a' w') ⟨hS0 _ _ hSw,H⟩
  ·have h1:=H.2 j (ready_mono hj hji)
   obtain ⟨hjun,oj,hoj,hall⟩:=mem_ready.1 hj
   have hnot:∀ e∈oj.after,Region.binds .any e=true→e.on≠i:=fun e he hb heq=>by
    have k1:=hall e he hb
    have k0:=(mem_ready.1 hr).1
    rw [heq] at k1
    rcases Nat.lt_or_ge i L.size with q | q
    ·simp [q] at k0 k1; rw [k0] at k1; cases k1
    ·simp [Array.getElem?_eq_none q] at k1
   have h2:=wpOp_putIf hoj (Region.free_spec hi hf j oj hoj hji hjun hnot) (fun cs b=>hsel i oi cs b hi) (fun cs b=>hsel j oj cs b hoj) hq hy h1
   refine wpOp_mono (fun a' w' h3=>?_) h2
   obtain ⟨y1,y2,y3⟩:=h3
   rw [Array.setIfInBounds_comm _ _ (Ne.symm hji)] at y2 y3
   have y2':=hS1 _ _ y2
   exact ⟨y2',ih (hc.set hj) (fr L j hf) (ready_mono hr (Ne.symm hji)) y1 y2' y3⟩
theorem skeep_set {sts:List (Nat×Nat)} {L:Array Bool} {i:Nat} (h:SKeep sts m0 L w):SKeep sts m0 (L.setIfInBounds i true) w:=fun j r hr hl hq=>h j r hr hl fun q hq1 hq2=>by
 have:=hq q hq1 hq2
 cases hb:L.getD q.1 false with
 | false=>rfl
 | true=>rw [getD_set_true hb] at this; cases this
structure KJ (don:List Nat) (m0 m:List Row):Prop where
 ext:Ext m0 m
 at_:∀ (j:Nat) (r:Row),m0[j]?=some r→don.elem j=false→m[j]?=some r
theorem subK_of {don:List Nat}:∀ {l:List Nat} {K:List Nat→Prop},subK don l K→∃ k,K k∧(∀ j,j∈k↔(j∈l∧don.elem j=false))
 | [],K,h=>⟨[],h,by simp⟩
 | j::r,K,h=>by
  unfold subK at h
  cases hd:don.elem j with
  | true =>
   rw [hd] at h
   obtain ⟨k,h1,h2⟩:=subK_of (l:=r) h
   refine ⟨k,h1,fun i=>?_⟩
   rw [h2]
   constructor
   ·exact fun ⟨a,b⟩=>⟨List.mem_cons_of_mem _ a,b⟩
   ·rintro ⟨a,b⟩
    rcases List.mem_cons.1 a with rfl | a
    ·rw [hd] at b; cases b
    ·exact ⟨a,b⟩
  | false =>
   rw [hd] at h
   obtain ⟨k,h1,h2⟩:=subK_of (l:=r) h
   refine ⟨j::k,h1,fun i=>?_⟩
   rw [List.mem_cons,List.mem_cons,h2]
   constructor
   ·rintro (rfl | ⟨a,b⟩)
    ·exact ⟨.inl rfl,hd⟩
    ·exact ⟨.inr a,b⟩
   ·rintro ⟨rfl | a,b⟩
    ·exact .inl rfl
    ·exact .inr ⟨a,b⟩
def All (all:List Nat) (m0:List Row):Prop:=∀ j,j∈all↔j < m0.length
theorem KJ.ki {don keep all:List Nat} {m0 m:List Row} (h:KJ don m0 m) (ha:All all m0) (hk:∀ j,j∈keep↔(j∈all∧don.elem j=false)):KI keep m0 m:=⟨h.ext,fun j hj=>by
 obtain ⟨h1,h2⟩:=(hk j).1 hj
 have hlt:=(ha j).1 h1
 exact ⟨m0[j],List.getElem?_eq_getElem hlt,h.at_ j _ (List.getElem?_eq_getElem hlt) h2⟩⟩
theorem KI.kj {don keep all:List Nat} {m0 m:List Row} (h:KI keep m0 m) (ha:All all m0) (hk:∀ j,j∈keep↔(j∈all∧don.elem j=false)):KJ don m0 m:=⟨h.ext,fun j r hr hd=>by
 have hlt:=(List.getElem?_eq_some_iff.1 hr).1
 obtain ⟨r',h1,h2⟩:=h.at_ j ((hk j).2 ⟨(ha j).2 hlt,hd⟩)
 rw [hr] at h1; cases h1; exact h2⟩
def Dno (sts:List (Nat×Nat)) (don:List Nat) (L:Array Bool):Prop:=∀ j,don.elem j=true→∃ q∈sts,q.2=j∧L.getD q.1 false=true
theorem skeep_of {sts:List (Nat×Nat)} {don:List Nat} {L:Array Bool} (hW:W0 m0) (hH:Hold X s.m s.ob w) (hk:KJ don m0 s.m) (hd:Dno sts don L):SKeep sts m0 L w:=fun j r hr hl hq=>by
 have hdj:don.elem j=false:=by
  cases hb:don.elem j with
  | false=>rfl
  | true=>obtain ⟨q,h1,h2,h3⟩:=hd j hb; rw [hq q h1 h2] at h3; cases h3
 have:=hH.row j r (hk.at_ j r hr hdj) hl
 rwa [rowA_ext hk.ext (hW j r hr hl).1] at this
theorem stoJ_mem {sts:List (Nat×Nat)} {i j:Nat} (h:stoJ sts i=some j):(i,j)∈sts:=by
 induction sts with
 | nil=>cases h
 | cons q r ih =>
  obtain ⟨k,l⟩:=q
  unfold stoJ at h
  cases hb:Nat.beq k i with
  | true=>rw [hb] at h; cases h; rw [Nat.eq_of_beq_eq_true hb]; simp
  | false=>rw [hb] at h; exact List.mem_cons_of_mem _ (ih h)
theorem Qof.block {K:Exit→St→Prop} {id:Nat} (e:Exit) (a:Act) (w:World) (k:Qof X (inB id K) e a w):Exit.inBlock id (Qof X K) e a w:=by
 cases e with
 | exit j =>
  obtain ⟨s,r,k⟩:=k
  simp only [inB] at k
  simp only [Exit.inBlock]
  cases hb:Nat.beq j id with
  | true=>rw [hb] at k; rw [if_pos (Nat.eq_of_beq_eq_true hb)]; exact ⟨s,r,k⟩
  | false=>rw [hb] at k; rw [if_neg (fun e=>by subst e; simp at hb)]; exact ⟨s,r,k⟩
 | normal=>exact k
 | ret=>exact k
 | _=>exact k.elim
theorem Qof.seq {K:Exit→St→Prop} {N:St→Prop} {J:Act→World→Prop} (hJ:∀ s a w,Rel X s a w→N s→J a w) (e:Exit) (a:Act) (w:World) (k:Qof X (sq K N) e a w):Exit.then J (Qof X K) e a w:=by
 cases e with
 | normal=>obtain ⟨s,r,k⟩:=k; exact hJ s a w r k
 | exit id=>exact k
 | ret=>exact k
 | _=>exact k.elim
theorem run_of (hX:X.Ok):∀ {c:Code} {s:St} {K:Exit→St→Prop},run X c s K→Sm X c s K
 | .skip,s,K,h=>by refine ⟨?_⟩; exact fun a w hR=>wp_skip ⟨s,hR,h⟩
 | .exit id,s,K,h=>by refine ⟨?_⟩; exact fun a w hR=>wp_exit ⟨s,hR,h⟩
 | .ret,s,K,h=>by refine ⟨?_⟩; exact fun a w hR=>wp_ret ⟨s,hR,h⟩
 | .region id ops d,s,K,h=>by
  unfold run at h
  cases d with
  | true=>exact h
  | false =>
   refine ⟨?_⟩
   exact fun a w hR=>wp_region_list (steps_of hX (K:=K .normal) (fun a w s hR h=>⟨s,hR,h⟩) hR h)
 | .seq x y,s,K,h=>by
  unfold run at h
  split at h
  ·refine ⟨?_⟩
   intro a w hR
   have h1:=run_of hX h
   replace h1:=h1.out
   refine wp_seq (Code.wp_mono (Qof.seq fun s a w hR hN=>?_) (h1 a w hR))
   have h2:=run_of hX hN
   replace h2:=h2.out
   exact h2 a w hR
  ·exact h
 | .cond c x y,s,K,h=>by
  unfold run at h
  refine ⟨?_⟩
  intro a w hR
  obtain ⟨v,h1,h2,h⟩:=ev_of hR.fr h
  cases v with
  | b t =>
   replace h:=h.out
   refine wp_cond_split (t:=t) (by rw [h2]; rfl) (fun ht=>?_) (fun ht=>?_)
   ·have h3:=run_of hX (h.1 ht); replace h3:=h3.out; exact h3 a w hR
   ·have h3:=run_of hX (h.2 ht); replace h3:=h3.out; exact h3 a w hR
  | _=>exact h.elim
 | .block id c,s,K,h=>by
  unfold run at h
  have h1:=run_of hX h
  replace h1:=h1.out; refine ⟨?_⟩
  exact fun a w hR=>wp_block (Code.wp_mono Qof.block (h1 a w hR))
 | .loop c,s,K,h=>h
 | .rangeFunc f p x y,s,K,h=>h
 | .scope c,s,K,h=>h
 | .label l,s,K,h=>h
 | .goto l,s,K,h=>h
 | .refuse r,s,K,h=>h
theorem sgo (hX:X.Ok) {x y:Code} {K:Exit→St→Prop} (h:run X x s (sq K fun s=>run X y s K)):Sm X (.seq x y) s K:=by
 refine ⟨?_⟩
 intro a w hR
 have h1:=run_of hX h
 replace h1:=h1.out
 refine wp_seq (Code.wp_mono (Qof.seq fun s a w hR hN=>?_) (h1 a w hR))
 have h2:=run_of hX hN
 replace h2:=h2.out
 exact h2 a w hR
theorem allK_of:∀ {m:List Row} {i:Nat} {K:List Nat→Prop},allK m i K→∃ l,K l∧∀ j,j∈l↔(i≤j∧j < i+m.length)
 | [],i,K,h=>⟨[],h,fun j=>by simp⟩
 | r::m,i,K,h=>by
  obtain ⟨l,h1,h2⟩:=allK_of (m:=m) h
  refine ⟨i::l,h1,fun j=>?_⟩
  rw [List.mem_cons,h2,List.length_cons]
  omega
theorem stoK_of {ef:List Nat} {ops:List Oper} {fr:List (Nat×SV)}:∀ {l:List Oper} {i:Nat} {K:List (Nat×Nat)→Prop},stoK ef ops fr i l K→∃ sts,K sts∧∀ q∈sts,∃ k o,q.1=i+k∧l[k]?=some o∧isSt o.op=true
 | [],i,K,h=>⟨[],h,by simp⟩
 | o::r,i,K,h=>by
  have step:∀ {K:List (Nat×Nat)→Prop},stoK ef ops fr (i+1) r K→∃ sts,K sts∧∀ q∈sts,∃ k o',q.1=i+k∧(o::r)[k]?=some o'∧isSt o'.op=true:=fun h=>by
   obtain ⟨sts,h1,h2⟩:=stoK_of (l:=r) h
   refine ⟨sts,h1,fun q hq=>?_⟩
   obtain ⟨k,o',e1,e2,e3⟩:=h2 q hq
   exact ⟨k+1,o',by omega,by simpa using e2,e3⟩
  unfold stoK at h
  split at h
  ·rename_i t k x hop
   split at h
   ·rename_i j hj
    split at h
    ·exact step h
    obtain ⟨sts,h1,h2⟩:=step h
    refine ⟨(i,j)::sts,h1,fun q hq=>?_⟩
    rcases List.mem_cons.1 hq with rfl | hq
    ·exact ⟨0,o,rfl,rfl,by rw [hop]; rfl⟩
    ·exact h2 q hq
   ·exact step h
  ·exact step h
def Sts (ops:Array Oper) (sts:List (Nat×Nat)):Prop:=∀ q∈sts,∃ o,ops[q.1]?=some o∧isSt o.op=true
theorem hasE_of {ops:Array Oper} {k i:Nat} (h:hasE ops.toList k i=true):∃ o,ops[k]?=some o∧∃ e∈o.after,Region.binds .any e=true∧e.on=i:=by
 unfold hasE at h
 rw [show ops.toList[k]?=ops[k]? by simp] at h
 cases ho:ops[k]? with
 | none=>simp [ho] at h
 | some o =>
  simp only [ho,List.any_eq_true,Bool.and_eq_true] at h
  obtain ⟨e,he,hb,hi⟩:=h
  exact ⟨o,rfl,e,by simpa using he,hb,Nat.eq_of_beq_eq_true hi⟩
theorem exE_of (hX:X.Ok) {all:List Nat} (ha:All all m0) {sts:List (Nat×Nat)} {don:List Nat} {i:Nat} {L:Array Bool} {K:List Nat→St→Prop} (hR:Rel X s a w) (hk:KJ don m0 s.m) (hd:Dno sts don L) (hL:L.getD i true=false)
  (h:exE X all m0 sts don i o s K):∀ Q,o.wp X.P a w (fun a' w'=>∃ s' don',Rel X s' a' w'∧KJ don' m0 s'.m∧Dno sts don' (L.setIfInBounds i true)∧K don' s') Q:=by
 intro Q
 have more:Dno sts don (L.setIfInBounds i true):=fun j hj=>by
  obtain ⟨q,h1,h2,h3⟩:=hd j hj
  exact ⟨q,h1,h2,getD_set_true h3⟩
 unfold exE at h
 split at h
 ·rename_i t x y hop
  split at h
  ·obtain ⟨keep,h,hkp⟩:=subK_of h
   exact Oper.wp_mono (fun a' w' ⟨s',r1,r2,r3⟩=>⟨s',don,r1,r2.kj ha hkp,more,r3⟩) (exW_of hX hR (hk.ki ha hkp) h Q)
  ·rename_i j hj
   obtain ⟨keep,h,hkp⟩:=subK_of h
   have hk':KJ (j::don) m0 s.m:=⟨hk.ext,fun i r hr hd=>hk.at_ i r hr (by simp only [List.elem_cons] at hd; split at hd <;> first | cases hd | exact hd)⟩
   rcases me_of hX hR (hk'.ki ha hkp) h with h | h
   ·exact h.elim
   ·refine Oper.wp_mono (fun a' w' ⟨s',r1,r2,r3⟩=>⟨s',j::don,r1,r2.kj ha hkp,fun l hl=>?_,r3⟩) (h Q)
    by_cases e:l=j
    ·subst e
     exact ⟨(i,l),stoJ_mem hj,rfl,getD_set_self hL⟩
    ·obtain ⟨q,h1,h2,h3⟩:=more l (by simp only [List.elem_cons] at hl; split at hl <;> first | (rename_i hb; exact absurd (by simpa using hb) e)|exact hl)
     exact ⟨q,h1,h2,h3⟩
 ·obtain ⟨keep,h,hkp⟩:=subK_of h
  exact Oper.wp_mono (fun a' w' ⟨s',r1,r2,r3⟩=>⟨s',don,r1,r2.kj ha hkp,more,r3⟩) (exW_of hX hR (hk.ki ha hkp) h Q)
theorem effD (hX:X.Ok) (hW:W0 m0) {all:List Nat} (ha:All all m0) {sts:List (Nat×Nat)} {don:List Nat} {ops:Array Oper} {Q:Exit→Act→World→Prop} {i n:Nat} {L:Array Bool} {K2:List Nat→St→Prop} (hL:L.getD i true=false)
  (hR:Rel X s a w) (hk:KJ don m0 s.m) (hd:Dno sts don L) (k:∀ {s':St} {a':Act} {w':World} {don':List Nat},Rel X s' a' w'→KJ don' m0 s'.m→Dno sts don' (L.setIfInBounds i true)→K2 don' s'→AnyL X.P ops Q (SKeep sts m0) n (L.setIfInBounds i true) a' w')
  (h:match ops.toList[i]? with
   | none=>False
   | some o=>wantK ops.toList o.guard s.fr (exE X all m0 sts don i o s K2) (put X.n o.dst (.v undef) s (K2 don))) :
  wpOp X.P ops Q i (fun a' w'=>SKeep sts m0 (L.setIfInBounds i true) w'∧AnyL X.P ops Q (SKeep sts m0) n (L.setIfInBounds i true) a' w') a w:=by
 have hidx:ops.toList[i]?=ops[i]?:=by simp
 rw [hidx] at h
 unfold wpOp
 cases ho:ops[i]? with
 | none=>rw [ho] at h; exact h.elim
 | some o =>
  simp only [ho] at h ⊢
  rcases want_of hR.fr h with ⟨hw,h⟩ | ⟨hw,h⟩
  ·rw [if_pos hw]
   exact .inl (Oper.wp_mono (fun a' w' ⟨s',don',r1,r2,r3,r4⟩=>⟨skeep_of hW r1.h r2 r3,k r1 r2 r3 r4⟩) (exE_of hX ha hR hk hd hL h Q))
  ·rw [if_neg (by rw [hw]; decide)]
   obtain ⟨s',r1,r2,r3,r4⟩:=put_of (v:=.v undef) hR.ds hR.sz hR.fr hR.h rfl h
   have more:Dno sts don (L.setIfInBounds i true):=fun j hj=>by
    obtain ⟨q,h1,h2,h3⟩:=hd j hj
    exact ⟨q,h1,h2,getD_set_true h3⟩
   have hk':KJ don m0 s'.m:=by rw [r2]; exact hk
   exact ⟨skeep_of hW r1.h hk' more,k r1 hk' more r4⟩
theorem exD_of (hX:X.Ok) (hW:W0 m0) {all:List Nat} (ha:All all m0) {sts:List (Nat×Nat)} {ops:Array Oper} (hst:Sts ops sts) {Q:Exit→Act→World→Prop} (hs:Region.noSelect ops=true) (hQ:∀ a w s,Rel X s a w→K s→Q .normal a w) (hP:∀ c a w,¬ Q (.panic c) a w) :
  ∀ {pl:Pl} {n:Nat} {L:Array Bool} {don:List Nat} {s:St} {a:Act} {w:World},chk ops n L pl=true→Clo ops L→Rel X s a w→KJ don m0 s.m→Dno sts don L→exD X ops.toList all m0 sts pl don s K→AnyL X.P ops Q (SKeep sts m0) n L a w
 | .done,n,L,don,s,a,w,hc,hcl,hR,hk,hd,h=>by
  cases n with
  | zero=>simp only [chk] at hc; exact ⟨eq_of_beq hc,hQ a w s hR h⟩
  | succ n=>simp only [chk] at hc; exact ⟨fun _=>hQ a w s hR h,by rw [eq_of_beq hc]; simp⟩
 | .tk i r,0,L,don,s,a,w,hc,_,_,_,_,h=>by simp [chk] at hc
 | .ef i r,0,L,don,s,a,w,hc,_,_,_,_,h=>by simp [chk] at hc
 | .fk i j r q,0,L,don,s,a,w,hc,_,_,_,_,h=>by simp [chk] at hc
 | .f3 i j k r q t,0,L,don,s,a,w,hc,_,_,_,_,h=>by simp [chk] at hc
 | .tk i r,n+1,L,don,s,a,w,hc,hcl,hR,hk,hd,h=>by
  simp only [chk,Bool.and_eq_true] at hc
  obtain ⟨⟨c1,c2⟩,c3⟩:=hc
  have c2:i∈Region.ready .any ops L:=by simpa using c2
  unfold exD at h
  have hidx:ops.toList[i]?=ops[i]?:=by simp
  rw [hidx] at h
  cases ho:ops[i]? with
  | none=>rw [ho] at h; exact h.elim
  | some o =>
   simp only [ho] at h
   cases hso:isSt o.op with
   | true=>simp only [hso] at h
   | false =>
    simp only [hso] at h
    have hS:=skeep_of hW hR.h hk hd
    have more:Dno sts don (L.setIfInBounds i true):=fun j hj=>by
     obtain ⟨q,h1,h2,h3⟩:=hd j hj
     exact ⟨q,h1,h2,getD_set_true h3⟩
    have hns:∀ q∈sts,i≠q.1:=fun q hq e=>by
     obtain ⟨o',h1,h2⟩:=hst q hq
     rw [← e,ho] at h1; cases h1
     rw [hso] at h2; cases h2
    have hS1:∀ (L:Array Bool) (w:World),SKeep sts m0 (L.setIfInBounds i true) w→SKeep sts m0 L w:=fun L w h j r hr hl hq=>h j r hr hl fun q h1 h2=>by rw [getD_set_ne false (hns q h1)]; exact hq q h1 h2
    have fin:∀ (T:World→Prop) (v:SV),(∀ (L:Array Bool) (w:World),Clo ops L→L.getD i true=false→SKeep sts m0 L w→T w)→okV s.m.length v=true→YieldsIf X.P ops T o (den s.m v) a→(put X.n o.dst v s fun s=>exD X ops.toList all m0 sts r don s K)→AnyL X.P ops Q (SKeep sts m0) (n+1) L a w:=fun T v hT hv hy h=>by
     obtain ⟨s',r1,r2,r3,r4⟩:=put_of hR.ds hR.sz hR.fr hR.h hv h
     exact AnyL.first ho hs hP hT hS1 (fun L w h=>skeep_set h) hcl c1 c2 hy hS (exD_of hX hW ha hst hs hQ hP c3 (hcl.set c2) r1 (by rw [r2]; exact hk) more r4)
    rcases want_of hR.fr h with ⟨hw,h⟩ | ⟨hw,h⟩
    ·rcases pe_of (o:=o) (a:=a) (m:=s.m) hX.tab hR.fr rfl h with h | ⟨v,h1,h2,h3⟩
     ·split at h
      ·rename_i t x hop
       rcases ld_of (o:=o) (a:=a) hX.tab hR.fr hop h with h | ⟨j,q,v,h1,h2,h3,h4,h5⟩
       ·exact h.elim
       ·split at h5
        ·rename_i hb
         simp only [Bool.and_eq_true] at hb
         obtain ⟨hb1,hb2⟩:=hb
         unfold mayLd at hb2
         simp only [Bool.and_eq_true,Bool.not_eq_true',List.all_eq_true,Bool.or_eq_true] at hb2
         have hjl:j < m0.length:=by simpa [Nat.blt_eq] using hb1
         have hq0:=hk.at_ j _ (List.getElem?_eq_getElem hjl) hb2.1
         rw [h1] at hq0; cases hq0
         obtain ⟨w1,w2,w3⟩:=hR.h.wf j _ h1 h2
         refine fin (fun w=>Blk w m0[j].g m0[j].t (rowA m0 m0[j])) v (fun L' w' hcl' hi' hS'=>hS' j _ (List.getElem?_eq_getElem hjl) h2 fun q hq1 hq2=>?_) (h3 w1) (.inl ⟨hw,fun w' hB=>h4 w' w2 (by rwa [rowA_ext hk.ext (hW j _ (List.getElem?_eq_getElem hjl) h2).1])⟩) h5
         cases hlq:L'.getD q.1 false with
         | false=>rfl
         | true =>
          rcases hb2.2 q hq1 with hx | hx
          ·rw [hq2] at hx; simp at hx
          ·obtain ⟨oq,e1,e,e2,e3,e4⟩:=hasE_of hx
           have:=hcl' q.1 oq e1 hlq e e2 e3
           rw [e4] at this
           rcases Nat.lt_or_ge i L'.size with z | z
           ·simp [z] at this hi'; rw [this] at hi'; cases hi'
           ·simp [Array.getElem?_eq_none z] at this
        ·exact h5.elim
      ·replace h:=h.out
       obtain ⟨v,h1,h2,h3⟩:=h
       exact fin (fun _=>True) v (fun _ _ _ _ _=>trivial) h1 (.inl ⟨hw,fun w' _=>h2 a hR.fr w'⟩) h3
     ·exact fin (fun _=>True) v (fun _ _ _ _ _=>trivial) h1 (.inl ⟨hw,fun w' _=>h2 w'⟩) h3
    ·exact fin (fun _=>True) (.v undef) (fun _ _ _ _ _=>trivial) rfl (.inr ⟨hw,rfl⟩) h
 | .ef i r,n+1,L,don,s,a,w,hc,hcl,hR,hk,hd,h=>by
  simp only [chk,Bool.and_eq_true] at hc
  obtain ⟨c1,c3⟩:=hc
  have c1:=eq_of_beq c1
  unfold exD at h
  refine ⟨fun e=>(by rw [c1] at e; cases e),fun k hk2=>?_⟩
  have hr:=hk2
  rw [c1,List.mem_singleton] at hk2; subst hk2
  exact effD hX hW ha (mem_ready.1 hr).1 hR hk hd (fun r1 r2 r3 r4=>exD_of hX hW ha hst hs hQ hP c3 (hcl.set hr) r1 r2 r3 r4) h
 | .fk i j r q,n+1,L,don,s,a,w,hc,hcl,hR,hk,hd,h=>by
  simp only [chk,Bool.and_eq_true] at hc
  obtain ⟨⟨c1,c3⟩,c4⟩:=hc
  have c1:=eq_of_beq c1
  unfold exD at h
  refine ⟨fun e=>(by rw [c1] at e; cases e),fun k hk2=>?_⟩
  have hr:=hk2
  rw [c1] at hk2
  rcases List.mem_cons.1 hk2 with rfl | hk2
  ·exact effD hX hW ha (mem_ready.1 hr).1 hR hk hd (fun r1 r2 r3 r4=>exD_of hX hW ha hst hs hQ hP c3 (hcl.set hr) r1 r2 r3 r4) h.1
  ·rw [List.mem_singleton] at hk2; subst hk2
   exact effD hX hW ha (mem_ready.1 hr).1 hR hk hd (fun r1 r2 r3 r4=>exD_of hX hW ha hst hs hQ hP c4 (hcl.set hr) r1 r2 r3 r4) h.2
 | .f3 i j l r q t,n+1,L,don,s,a,w,hc,hcl,hR,hk,hd,h=>by
  simp only [chk,Bool.and_eq_true] at hc
  obtain ⟨⟨⟨c1,c3⟩,c4⟩,c5⟩:=hc
  have c1:=eq_of_beq c1
  unfold exD at h
  refine ⟨fun e=>(by rw [c1] at e; cases e),fun k hk2=>?_⟩
  have hr:=hk2
  rw [c1] at hk2
  rcases List.mem_cons.1 hk2 with rfl | hk2
  ·exact effD hX hW ha (mem_ready.1 hr).1 hR hk hd (fun r1 r2 r3 r4=>exD_of hX hW ha hst hs hQ hP c3 (hcl.set hr) r1 r2 r3 r4) h.1
  rcases List.mem_cons.1 hk2 with rfl | hk2
  ·exact effD hX hW ha (mem_ready.1 hr).1 hR hk hd (fun r1 r2 r3 r4=>exD_of hX hW ha hst hs hQ hP c4 (hcl.set hr) r1 r2 r3 r4) h.2.1
  ·rw [List.mem_singleton] at hk2; subst hk2
   exact effD hX hW ha (mem_ready.1 hr).1 hR hk hd (fun r1 r2 r3 r4=>exD_of hX hW ha hst hs hQ hP c5 (hcl.set hr) r1 r2 r3 r4) h.2.2
theorem drA (hX:X.Ok) (ef:List Nat) {id:Nat} {ops:Array Oper} {K:Exit→St→Prop}
  (h:stoK ef ops.toList s.fr 0 ops.toList fun sts=>allK s.m 0 fun all=>exD X ops.toList all s.m sts (planOf ef ops.toList) [] s (K .normal)) (hm:X.P.follows .mixedOrders=true:=by kernel_rfl)
  (hc:(Region.noSelect ops && chk ops ops.size (Array.replicate ops.size false) (planOf ef ops.toList))=true:=by kernel_rfl):Sm X (.region id ops true) s K:=by
 refine ⟨?_⟩
 intro a w hR
 simp only [Bool.and_eq_true] at hc
 obtain ⟨sts,h,hsts⟩:=stoK_of h
 obtain ⟨all,h,hall⟩:=allK_of h
 have hR':Rel X s a w.drew:=⟨hR.ds,hR.sz,hR.fr,hR.h.drew⟩
 have hW:W0 s.m:=fun j r hj hl=>⟨(hR.h.wf j r hj hl).1,(hR.h.wf j r hj hl).2.1⟩
 have hst:Sts ops sts:=fun q hq=>by
  obtain ⟨k,o,e1,e2,e3⟩:=hsts q hq
  rw [Nat.zero_add] at e1
  exact ⟨o,by rw [e1]; simpa using e2,e3⟩
 have hcl:Clo ops (Array.replicate ops.size false):=fun k o ho hk=>by
  have hlt:=(Array.getElem?_eq_some_iff.1 ho).1
  simp [hlt] at hk
 have hA:=exD_of (K:=K .normal) (Q:=Qof X K) hX hW (fun j=>by rw [hall]; omega) hst hc.1 (fun a w s hR h=>(⟨s,hR,h⟩:Qof X K .normal a w)) (fun c a w h=>h) hc.2 hcl hR' ⟨Ext.refl _,fun j r hr _=>hr⟩ (fun j hj=>by cases hj) h
 exact wp_region_any hm hA.out
def res1 (tab:Tab) (s:St) (r:ResultVar) (K:SV→Prop):Prop :=
 match r with
 | .tmp t=>lk t s.fr K
 | .cell p t=>lk p s.fr fun v=>match v with
  | .p j o=>nthR j s.m fun r=>match r.live with
   | true=>tyK t tab fun y=>match y.row with
    | true=>tkN o y.size r.cs fun l=>K (.a l)
    | false=>nth o r.cs K
   | false=>False
  | _=>False
def resL (tab:Tab) (s:St):List ResultVar→(List SV→Prop)→Prop
 | [],K=>K []
 | r::l,K=>res1 tab s r fun v=>resL tab s l fun vs=>K (v::vs)
structure Fin (X:Cx) (R:Ending→World→Prop) (v:SV) (s:St):Prop where
 out:∀ w,Hold X s.m s.ob w→R (.returned (den s.m v)) w
def finK (X:Cx) (fn:Func) (R:Ending→World→Prop) (e:Exit) (s:St):Prop :=
 match e with
 | .normal=>resL X.tab s fn.results.toList fun vs=>match vs with
  | [v]=>Fin X R v s
  | vs=>Fin X R (.t vs) s
 | .ret=>resL X.tab s fn.results.toList fun vs=>match vs with
  | [v]=>Fin X R v s
  | vs=>Fin X R (.t vs) s
 | _=>False
def numbK (k:Nat):List SV→(List (Nat×SV)→Prop)→Prop
 | [],K=>K []
 | v::r,K=>numbK (k+1) r fun l=>K ((k,v)::l)
def numb (k:Nat):List SV→List (Nat×SV)
 | []=>[]
 | v::r=>(k,v)::numb (k+1) r
end
end En
namespace En
open Go.RowKit Ba Mem
section
variable {X:Cx} {m m':List Row} {ob:List Asr} {w w':World} {s:St} {a:Act}
theorem run_load_row {t:TypeId} {d:TypeDesc} {g i:Nat} {cs:Array Value} {l:List Value} {tt:TypeId} {P:Program} (hB:Blk w g tt cs) (hl:(cs.toList.drop i).take l.length=l) (hu:P.underlying t=some d) (hd:d.isRow=true) (hi:(P.info? t).map (·.size)=some l.length) :
  (loadVar t ⟨g,i,none⟩).run P w=.ok (.agg l.toArray) w:=run_loadVar_mid w g i t l d (range_of hB hl rfl) hu hd hi
theorem run_load_cell {t:TypeId} {d:TypeDesc} {g i:Nat} {cs:Array Value} {v:Value} {tt:TypeId} {P:Program} (hB:Blk w g tt cs) (hv:cs[i]?=some v) (hu:P.underlying t=some d) (hd:d.isRow=false) :
  (loadVar t ⟨g,i,none⟩).run P w=.ok v w:=by
 have hc:w.cell? ⟨g,i,none⟩=some v:=(Blk.cell hB i).trans hv
 have hagg:(isAgg t).run P w=.ok false w:=by cases d <;> simp_all [isAgg,run_underlying hu,TypeDesc.isRow]
 simp [loadVar,Sem.run_bind,hagg,hc]
def resRun (P:Program) (tm:Array Value) (w:World) (r:ResultVar) (v:Value):Prop :=
 match r with
 | .tmp t=>tm.getD t undef=v
 | .cell p t=>(do loadVar t (← asAddr (tm.getD p undef))).run P w=.ok v w
theorem res1_of (hX:X.Ok) (hR:Rel X s a w) {r:ResultVar} {K:SV→Prop} (h:res1 X.tab s r K):∃ v,okV s.m.length v=true∧resRun X.P a.tmps w r (den s.m v)∧K v:=by
 cases r with
 | tmp t =>
  obtain ⟨v,hv,hK⟩:=lk_of h
  obtain ⟨h1,h2⟩:=hR.fr t v hv
  exact ⟨v,h1,by simp [resRun,h2],hK⟩
 | cell p t =>
  obtain ⟨v,hv,h⟩:=lk_of h
  obtain ⟨h1,h2⟩:=hR.fr p v hv
  cases v with
  | p j q =>
   obtain ⟨r,hr,h⟩:=nthR_of h
   cases hl:r.live with
   | false=>simp only [hl] at h
   | true =>
    simp only [hl] at h
    obtain ⟨y,hy,h⟩:=tyK_of h
    obtain ⟨d,i,T⟩:=(hX.tab _ _ hy).out
    obtain ⟨w1,w2,w3⟩:=hR.h.wf j r hr hl
    have hB:=hR.h.row j r hr hl
    have hx:(a.tmps.getD p undef)=.pointer (some ⟨r.g,r.off+q,none⟩):=by simp [h2,den,hr]
    cases hrow:y.row with
    | true =>
     simp only [hrow] at h
     obtain ⟨hlen,h⟩:=tkN_of h
     have hl2:((denL s.m r.cs).toArray.toList.drop q).take y.size=denL s.m ((r.cs.drop q).take y.size):=by rw [denL_drop,denL_take]
     have hn:(denL s.m ((r.cs.drop q).take y.size)).length=y.size:=by rw [denL_len,List.length_take,List.length_drop]; omega
     refine ⟨.a ((r.cs.drop q).take y.size),okL_sub w1 (fun v hv=>List.mem_of_mem_drop (List.mem_of_mem_take hv)), ?_,h⟩
     have:=run_load_row (P:=X.P) (t:=t) hB (i:=r.off+q) (l:=denL s.m ((r.cs.drop q).take y.size)) (by rw [hn]; exact el_part w2 hl2 (by simp [denL_len]; omega)) T.un (by rw [T.row,hrow]) (by rw [T.inf,hn]; simp [T.size])
     simp only [resRun,hx,asAddr,Sem.run_bind,Sem.run_pure,Result.andThen_ok,this,den]
    | false =>
     simp only [hrow] at h
     obtain ⟨v,hv,h⟩:=nth_of h
     refine ⟨v,okL_at w1 hv, ?_,h⟩
     have hg:(denL s.m r.cs).toArray[q]?=some (den s.m v):=by rw [List.getElem?_toArray,denL_get,hv]; rfl
     have:=run_load_cell (P:=X.P) (t:=t) hB (i:=r.off+q) (el_at w2 hg) T.un (by rw [T.row,hrow])
     simp only [resRun,hx,asAddr,Sem.run_bind,Sem.run_pure,Result.andThen_ok,this]
  | _=>exact h.elim
theorem resL_of (hX:X.Ok) (hR:Rel X s a w):∀ {rs:List ResultVar} {K:List SV→Prop},resL X.tab s rs K→∃ vs,okL s.m.length vs=true∧rs.length=vs.length∧(∀ (k:Nat) (r:ResultVar) (v:SV),rs[k]?=some r→vs[k]?=some v→resRun X.P a.tmps w r (den s.m v))∧K vs
 | [],K,h=>⟨[],rfl,rfl,fun k r v h=>by simp at h,h⟩
 | r::rs,K,h=>by
  obtain ⟨v,h1,h2,h⟩:=res1_of hX hR h
  obtain ⟨vs,k1,k2,k3,h⟩:=resL_of hX hR h
  refine ⟨v::vs,by simp [okL,h1,k1],by simp [k2],fun k r' v' hr hv=>?_,h⟩
  cases k with
  | zero=>simp at hr hv; subst hr hv; exact h2
  | succ k=>exact k3 k r' v' (by simpa using hr) (by simpa using hv)
theorem results_of {P:Program} {fn:Func} {tm:Array Value} {vs:List SV} (hlen:fn.results.toList.length=vs.length) (h:∀ (k:Nat) (r:ResultVar) (v:SV),fn.results.toList[k]?=some r→vs[k]?=some v→resRun P tm w r (den m v)) :
  (results fn tm).run P w=.ok (match vs with | [v]=>den m v | vs=>.tuple (denL m vs).toArray) w:=by
 unfold results
 rw [Array.mapM_eq_mapM_toList,Sem.run_bind,Sem.run_map]
 rw [mapM_run (r:=denL m vs) (by rw [denL_len]; exact hlen) (fun k r v hr hv=>by
  rw [denL_get] at hv
  cases hq:vs[k]? with
  | none=>rw [hq] at hv; cases hv
  | some u =>
   rw [hq] at hv; cases hv
   have:=h k r u hr hq
   cases r with
   | tmp t=>simp only [resRun] at this; simp only [Sem.run_pure,this]
   | cell p t=>exact this)]
 match vs with
 | []=>rfl
 | [v]=>rfl
 | _::_::_=>simp [denL]
theorem fin_of (hX:X.Ok) (hds:X.ds=[]) {fn:Func} {R:Ending→World→Prop} (e:Exit) (a:Act) (w:World) (h:Qof X (finK X fn R) e a w):bodyPost X.P fn R e a w:=by
 have key:∀ s,Rel X s a w→(resL X.tab s fn.results.toList fun vs=>match vs with
   | [v]=>Fin X R v s
   | vs=>Fin X R (.t vs) s)→a.defers=[]∧∃ v,(results fn a.tmps).run X.P w=.ok v w∧R (.returned v) w:=fun s hR h=>by
  obtain ⟨vs,h1,h2,h3,h⟩:=resL_of hX hR h
  refine ⟨hR.ds.trans hds,_,results_of h2 h3, ?_⟩
  match vs with
  | []=>replace h:=h.out; exact h w hR.h
  | [v]=>replace h:=h.out; exact h w hR.h
  | _::_::_=>replace h:=h.out; exact h w hR.h
 cases e with
 | normal=>obtain ⟨s,hR,h⟩:=h; exact key s hR h
 | ret=>obtain ⟨s,hR,h⟩:=h; exact key s hR h
 | exit id=>obtain ⟨s,hR,h⟩:=h; exact h.elim
 | _=>exact h.elim
theorem numb_lk:∀ {vs:List SV} {k j:Nat} {v:SV},lkO j (numb k vs)=some v→k≤j∧vs[j - k]?=some v
 | [],_,_,_,h=>by cases h
 | u::r,k,j,v,h=>by
  simp only [numb,lkO] at h
  cases hb:Nat.beq k j with
  | true=>rw [hb] at h; have:=Nat.eq_of_beq_eq_true hb; subst this; cases h; simp
  | false =>
   rw [hb] at h
   obtain ⟨h1,h2⟩:=numb_lk (vs:=r) h
   refine ⟨by omega, ?_⟩
   have:j - k=(j - (k+1))+1:=by omega
   rw [this]; simpa using h2
theorem numbK_of:∀ {vs:List SV} {k:Nat} {K:List (Nat×SV)→Prop},numbK k vs K→K (numb k vs)
 | [],_,_,h=>h
 | v::r,k,K,h=>numbK_of (vs:=r) h
theorem enter (hX:X.Ok) {f:FuncId} {fn:Func} {c:Code} {args:Array Value} {w:World} {R:Ending→World→Prop} (vs:List SV) (m:List Row) (ob:List Asr)
  (hf:X.P.funcs[f]?=some fn) (hH:Hold X m ob w) (hargs:(denL m vs).toArray=args) (h:run X c ⟨numb 0 vs,m,ob⟩ (finK X fn R))
  (hb:fn.body=some c) (hn:Nat.beq fn.ntmps X.n=true:=by kernel_rfl) (hd:X.ds=[]:=by rfl) (hok:(okL m.length vs && Nat.ble vs.length X.n)=true:=by kernel_rfl):Calls X.P f args w R:=by
 simp only [Bool.and_eq_true] at hok
 have hn:=Nat.eq_of_beq_eq_true hn
 have hle:=Nat.le_of_ble_eq_true hok.2
 refine calls_of_wp hf hb ?_
 have h1:=run_of hX h
 replace h1:=h1.out
 refine Code.wp_mono (fin_of hX hd) (h1 _ _ ⟨hd.symm, ?_,fun k v hv=>?_,hH⟩)
 ·subst hargs; simp [denL_len,hn]; omega
 ·obtain ⟨_,h2⟩:=numb_lk hv
  simp only [Nat.sub_zero] at h2
  refine ⟨okL_at hok.1 h2, ?_⟩
  subst hargs
  have hlt:k < (denL m vs).toArray.size:=by simp [denL_len]; exact (List.getElem?_eq_some_iff.1 h2).1
  rw [Array.getElem?_append_left hlt,List.getElem?_toArray,denL_get,h2]; rfl
theorem Hold.nil (P:Program) (tab:Tab) (S:List Nat) (n:Nat) (w:World):Hold ⟨P,tab,S,w,n,[]⟩ [] [] w :=
 ⟨Upd.refl S w,(by intro j r h; simp at h),(by intro j r h; simp at h),(by intro i j r q h; simp at h),(by intro A h; cases h),(by intro A h; cases h),(by intro A h; cases h),List.Pairwise.nil⟩
theorem br_t {t:Bool} {A B:Prop} (e:t=true) (h:A):Br t A B:=by refine ⟨?_⟩; exact ⟨fun _=>h,(by intro k; rw [e] at k; cases k)⟩
theorem br_f {t:Bool} {A B:Prop} (e:t=false) (h:B):Br t A B:=by refine ⟨?_⟩; exact ⟨(by intro k; rw [e] at k; cases k),fun _=>h⟩
theorem br_b {t:Bool} {A B:Prop} (h:t=true→A) (k:t=false→B):Br t A B:=by refine ⟨?_⟩; exact ⟨h,k⟩
theorem br_not {t:Bool} {A B:Prop} (h:Br t B A):Br (!t) A B:=br_b (fun e=>h.out.2 (by simpa using e)) (fun e=>h.out.1 (by simpa using e))
theorem br_dec {p:Prop} [Decidable p] {A B:Prop} (h:p→A) (k:¬ p→B):Br (decide p) A B:=br_b (fun e=>h (of_decide_eq_true e)) (fun e=>k (of_decide_eq_false e))
theorem br_eq {x y:Int} {A B:Prop} (h:x=y→A) (k:x≠y→B):Br (x == y) A B:=br_b (fun e=>h (by simpa using e)) (fun e=>k (by simpa using e))
theorem wr {k:IntKind} {x z:Int} {K:Int→Prop} (e:k.wrap x=z) (h:K z):Wr k x K:=by refine ⟨?_⟩; rw [e]; exact h
theorem wr_lit {k:IntKind} {x:Int} {K:Int→Prop} (h:K (k.wrap x)):Wr k x K:=by refine ⟨?_⟩; exact h
theorem wr_i {x:Int} {K:Int→Prop} (h:K x) (h0 : -9223372036854775808≤x∧x≤9223372036854775807:=by omega):Wr .i64 x K:=wr (wr64 x h0.1 h0.2) h
theorem cd {p A:Prop} (h:p) (k:A):Cd p A:=by refine ⟨?_⟩; exact ⟨h,k⟩
theorem kpt {keep:List Nat} {m0 m:List Row} {A:Prop} (h:A) (e:keep.map (fun j=>m0[j]?)=keep.map (fun j=>m[j]?):=by rfl):Kpt keep m0 m A:=by refine ⟨?_⟩; exact ⟨e,h⟩
def entChk (P:Program) (f:FuncId):Bool:=match P.funcs[f]? with
 | some fn=>fn.body.isSome && !(fn.name == "runtime.NumGoroutine")
 | none=>false
theorem entC {P:Program} {f:FuncId} (h:entChk P f=true):∀ args w,(callFunc f args).run P w=.ok (.enter f args) w:=by
 unfold entChk at h
 cases hf:P.funcs[f]? with
 | none=>simp [hf] at h
 | some fn =>
  simp only [hf,Bool.and_eq_true,Bool.not_eq_true'] at h
  obtain ⟨c,hc⟩:=Option.isSome_iff_exists.1 h.1
  exact enters_of hf h.2 hc
theorem callS {f:FuncId} {vs:List SV} {K:SV→St→Prop} (v:SV) (hc:∀ w,Calls X.P f (denL s.m vs).toArray w fun e w'=>e=.returned (den s.m v)∧Since w w') (h:K v s)
  (he:entChk X.P f=true:=by kernel_rfl) (hv:okV s.m.length v=true:=by rfl):CallVC X f vs s K:=by
 refine ⟨?_⟩
 refine ⟨entC he,fun w hH=>(hc w).mono ?_⟩
 rintro e w' ⟨rfl,hs⟩
 exact ⟨v,s.m,s.ob,rfl,hv,Ext.refl _,hH.since hs,h⟩
theorem callQ {f:FuncId} {vs:List SV} {K:SV→St→Prop} (v:SV) (hc:∀ w,Calls X.P f (denL s.m vs).toArray w fun e w'=>e=.returned (den s.m v)∧w=w') (h:K v s)
  (he:entChk X.P f=true:=by kernel_rfl) (hv:okV s.m.length v=true:=by rfl):CallVC X f vs s K :=
 callS v (fun w=>(hc w).mono (by rintro e w' ⟨rfl,rfl⟩; exact ⟨rfl,Since.refl _⟩)) h he hv
theorem rowA_nil {r:Row} (hp:r.pre=[]) (hs:r.suf=[]):rowA m r=(denL m r.cs).toArray:=by simp [rowA,el,hp,hs]
theorem fin {R:Ending→World→Prop} {v:SV} (h:∀ w,Hold X s.m s.ob w→R (.returned (den s.m v)) w):Fin X R v s:=by refine ⟨?_⟩; exact h
theorem fin_s {v:SV} {V:Value} {P:Program} {T:Tab} {w:World} {n:Nat} {ds:List Deferred} (h:den s.m v=V):Fin ⟨P,T,[],w,n,ds⟩ (fun e w'=>e=.returned V∧Since w w') v s :=
 fin fun w' hH=>⟨by rw [h],hH.upd.since⟩
theorem Hold.out (h:Hold X m ob w) (hS:X.S=[]):Since X.w0 w:=(hS ▸ h.upd).since
theorem ent {P:Program} {T:Tab} (hT:TabOk P T) {f:FuncId} {fn:Func} {c:Code} {n:Nat} {args:Array Value} {w:World} {R:Ending→World→Prop} (vs:List SV)
  (hf:P.funcs[f]?=some fn) (hn:fn.ntmps=n) (hb:fn.body=some c) (hargs:(denL [] vs).toArray=args) (h:numbK 0 vs fun fr=>run ⟨P,T,[],w,n,[]⟩ c ⟨fr,[],[]⟩ (finK ⟨P,T,[],w,n,[]⟩ fn R))
  (hok:(okL 0 vs && Nat.ble vs.length n)=true:=by kernel_rfl):Calls P f args w R :=
 enter (X:=⟨P,T,[],w,n,[]⟩) ⟨hT⟩ vs [] [] hf (Hold.nil P T [] n w) hargs (c:=c) (numbK_of h) hb (by rw [hn]; simp) rfl hok
theorem fin_r {v:SV} {V:Value} {P:Program} {T:Tab} {w:World} {n q:Nat} {t:TypeId} {cells:Array Value} {cs:List SV} {rest:List Row} {fr:List (Nat×SV)} {ob:List Asr} (h:den (⟨q,t,true,0,[],cs,[],true⟩::rest) v=V) (hc:(denL (⟨q,t,true,0,[],cs,[],true⟩::rest) cs).toArray=cells) :
  Fin ⟨P,T,[q],w,n,[]⟩ (fun e w'=>e=.returned V∧Blk w' q t cells∧Upd [q] w w') v ⟨fr,⟨q,t,true,0,[],cs,[],true⟩::rest,ob⟩ :=
 fin fun w' hH=>⟨by rw [← h],by have:=hH.row 0 _ rfl rfl; rw [rowA_nil rfl rfl] at this; subst hc; exact this,hH.upd⟩
end
end En
namespace En
open Go.RowKit Ba Mem
structure Wk (X:Cx) (s s':St):Prop where
 out:∀ (a:Act) (w:World),Rel X s a w→Rel X s' a w
structure Back (X:Cx) {ι:Type} (I:ι→St) (μ:ι→Nat) (x:ι) (s:St):Prop where
 out:∃ y,μ y < μ x∧Wk X s (I y)
def lpK (X:Cx) {ι:Type} (I:ι→St) (μ:ι→Nat) (x:ι) (K:Exit→St→Prop) (e:Exit) (s:St):Prop :=
 match e with
 | .normal=>Back X I μ x s
 | e=>K e s
def frW (s:St) (m':List Row):List (Nat×SV)→Prop
 | []=>True
 | (k,v')::r=>(match lkO k s.fr with | some v=>den s.m v=den m' v'∧okV m'.length v'=true | none=>False)∧frW s m' r
def setO:Nat→Asr→List Asr→(List Asr→Prop)→Prop
 | _,_,[],_=>False
 | 0,B,_::r,K=>K (B::r)
 | i+1,B,A::r,K=>setO i B r fun l=>K (A::l)
def appO:List Asr→Asr→(List Asr→Prop)→Prop
 | [],B,K=>K [B]
 | A::r,B,K=>appO r B fun l=>K (A::l)
section
variable {X:Cx} {m m':List Row} {ob:List Asr} {w w':World} {s:St} {a:Act}
theorem Wk.of_rows {s s':St} (hm:s'.m=s.m.take s'.m.length) (hok:∀ (j:Nat) (r:Row),s'.m[j]?=some r→r.live=true→okL s'.m.length r.cs=true) (hob:s'.ob=s.ob) (hfr:frW s s'.m s'.fr):Wk X s s':=by
 have hlen:s'.m.length≤s.m.length:=by rw [hm,List.length_take]; omega
 have hE:Ext s'.m s.m:=fun j r h=>⟨r,by
  rw [hm] at h
  have hj:=(List.getElem?_eq_some_iff.1 h).1
  rw [List.length_take] at hj
  rwa [List.getElem?_take_of_lt (by omega)] at h,rfl,rfl⟩
 refine ⟨fun a w hR=>⟨hR.ds,hR.sz, ?_, ?_⟩⟩
 ·have key:∀ l:List (Nat×SV),frW s s'.m l→FrOk s'.m a.tmps l:=fun l=>by
   induction l with
   | nil=>intro _ k v hv; cases hv
   | cons q r ih =>
    obtain ⟨k0,v0⟩:=q
    intro h k v hv
    obtain ⟨h1,h2⟩:=h
    simp only [lkO] at hv
    cases hb:Nat.beq k0 k with
    | false=>rw [hb] at hv; exact ih h2 k v hv
    | true =>
     rw [hb] at hv; cases hv
     have:=Nat.eq_of_beq_eq_true hb
     subst this
     cases hl:lkO k0 s.fr with
     | none=>rw [hl] at h1; exact h1.elim
     | some u =>
      rw [hl] at h1
      obtain ⟨_,h4⟩:=hR.fr k0 u hl
      exact ⟨h1.2,by rw [h4,h1.1]⟩
  exact key _ hfr
 ·have hrow:∀ (j:Nat) (r:Row),s'.m[j]?=some r→s.m[j]?=some r:=fun j r h=>by
   rw [hm] at h
   have hj:=(List.getElem?_eq_some_iff.1 h).1
   rw [List.length_take] at hj
   rwa [List.getElem?_take_of_lt (by omega)] at h
  have H:=hR.h
  refine ⟨H.upd,fun j r hj hl=>?_,fun j r hj hl=>?_,fun i j r q hi hj hr hq hne=>H.ne i j r q (hrow i r hi) (hrow j q hj) hr hq hne, ?_, ?_, ?_, ?_⟩
  ·have:=H.row j r (hrow j r hj) hl
   rwa [rowA_ext hE (hok j r hj hl)] at this
  ·obtain ⟨w1,w2,w3⟩:=H.wf j r (hrow j r hj) hl
   exact ⟨hok j r hj hl,w2,w3⟩
  ·rw [hob]; exact H.obj
  ·rw [hob]; exact fun A hA j r hj hl=>H.far A hA j r (hrow j r hj) hl
  ·rw [hob]; exact H.own
  ·rw [hob]; exact H.dis
def rowsOk (n:Nat):List Row→Bool
 | []=>true
 | r::m=>okL n r.cs && rowsOk n m
theorem rowsOk_of {n:Nat}:∀ {l:List Row},rowsOk n l=true→∀ (j:Nat) (r:Row),l[j]?=some r→okL n r.cs=true
 | [],_,j,r,h=>by simp at h
 | x::l,h,0,r,hr=>by simp at hr; subst hr; unfold rowsOk at h; simp only [Bool.and_eq_true] at h; exact h.1
 | x::l,h,j+1,r,hr=>by unfold rowsOk at h; simp only [Bool.and_eq_true] at h; exact rowsOk_of h.2 j r (by simpa using hr)
theorem wk {s s':St} (hfr:frW s s'.m s'.fr) (hm:s'.m=s.m.take s'.m.length:=by rfl) (hok:rowsOk s'.m.length s'.m=true:=by rfl) (hob:s'.ob=s.ob:=by rfl):Wk X s s' :=
 Wk.of_rows hm (fun j r h _=>rowsOk_of hok j r h) hob hfr
theorem lp (hX:X.Ok) {ι:Type} (I:ι→St) (μ:ι→Nat) (x0:ι) {c:Code} {K:Exit→St→Prop} (h0:Wk X s (I x0)) (hr:∀ x,run X c (I x) (lpK X I μ x K)):Sm X (.loop c) s K:=by
 classical
 refine ⟨fun a w hR=>?_⟩
 let p:Act→World→Nat→Prop:=fun a w n=>∃ x,Rel X (I x) a w∧μ x=n
 have least:∀ n,∀ {a:Act} {w:World},p a w n→∃ m,p a w m∧∀ k,p a w k→m≤k:=by
  intro n
  induction n using Nat.strongRecOn with
  | _ n ih =>
   intro a w hn
   by_cases h:∃ k,k < n∧p a w k
   ·obtain ⟨k,hk,hp⟩:=h; exact ih k hk hp
   ·exact ⟨n,hn,fun k hk=>Nat.le_of_not_lt fun hl=>h ⟨k,hl,hk⟩⟩
 refine wp_loop (fun a w=>∃ n,p a w n) (fun a w=>if h:∃ m,p a w m∧∀ k,p a w k→m≤k then h.choose else 0) ⟨_,x0,h0.out a w hR,rfl⟩ ?_
 rintro a w ⟨n1,hp1⟩
 have hm:=least n1 hp1
 obtain ⟨⟨x,hx,hxn⟩,hmin⟩:=hm.choose_spec
 have hs:=(run_of hX (hr x)).out a w hx
 refine Code.wp_mono (fun e a' w' hq=>?_) hs
 cases e with
 | normal =>
  obtain ⟨s',r',hb⟩:=hq
  obtain ⟨y,hlt,hw⟩:=hb.out
  have hy:=hw.out a' w' r'
  refine ⟨⟨μ y,y,hy,rfl⟩, ?_⟩
  have hm':=least (μ y) (show p a' w' (μ y) from ⟨y,hy,rfl⟩)
  rw [dif_pos hm',dif_pos hm]
  have h1:=hm'.choose_spec.2 (μ y) ⟨y,hy,rfl⟩
  omega
 | exit id=>exact hq
 | ret=>exact hq
 | _=>exact hq.elim
theorem back {ι:Type} {I:ι→St} {μ:ι→Nat} {x:ι} (y:ι) (h:Wk X s (I y)) (hm:μ y < μ x:=by omega):Back X I μ x s:=⟨⟨y,hm,h⟩⟩
theorem setO_of {B:Asr}:∀ {i:Nat} {l:List Asr} {K:List Asr→Prop},setO i B l K→K (l.set i B)
 | 0,[],_,h=>False.elim h
 | _+1,[],_,h=>False.elim h
 | 0,_::_,_,h=>h
 | i+1,A::r,K,h=>by have:=setO_of (l:=r) h; simpa using this
theorem appO_of {B:Asr}:∀ {l:List Asr} {K:List Asr→Prop},appO l B K→K (l++[B])
 | [],_,h=>h
 | A::r,K,h=>by have:=appO_of (l:=r) h; simpa using this
theorem callH {f:FuncId} {vs:List SV} {K:SV→St→Prop} (v:SV) (hc:∀ w,Hold X s.m s.ob w→Calls X.P f (denL s.m vs).toArray w fun e w'=>e=.returned (den s.m v)∧Since w w') (h:K v s)
  (he:entChk X.P f=true:=by kernel_rfl) (hv:okV s.m.length v=true:=by rfl):CallVC X f vs s K:=by
 refine ⟨entC he,fun w hH=>(hc w hH).mono ?_⟩
 rintro e w' ⟨rfl,hs⟩
 exact ⟨v,s.m,s.ob,rfl,hv,Ext.refl _,hH.since hs,h⟩
theorem mem_set_or {α:Type} {l:List α} {i:Nat} {x y:α} (h:y∈l.set i x):y=x∨∃ j,j≠i∧l[j]?=some y:=by
 obtain ⟨j,hj⟩:=List.mem_iff_getElem?.1 h
 rcases getElem?_set_or hj with ⟨_,rfl⟩ | ⟨hne,hj⟩
 ·exact .inl rfl
 ·exact .inr ⟨j,fun e=>hne e.symm,hj⟩
theorem pair_at {R:Asr→Asr→Prop} (hR:∀ A B,R A B→R B A) {l:List Asr} (h:l.Pairwise R) {i j:Nat} {A B:Asr} (hi:l[i]?=some A) (hj:l[j]?=some B) (hne:i≠j):R A B:=by
 obtain ⟨h1,rfl⟩:=List.getElem?_eq_some_iff.1 hi
 obtain ⟨h2,rfl⟩:=List.getElem?_eq_some_iff.1 hj
 rcases Nat.lt_or_gt_of_ne hne with hlt | hlt
 ·exact List.pairwise_iff_getElem.1 h i j h1 h2 hlt
 ·exact hR _ _ (List.pairwise_iff_getElem.1 h j i h2 h1 hlt)
def DisR (A B:Asr):Prop:=A.rw=true∨B.rw=true→∀ g∈A.F,g∉B.F
theorem DisR.symm {A B:Asr} (h:DisR A B):DisR B A:=fun k g hg hg'=>h k.symm g hg' hg
theorem pair_of {l:List Asr} (h:∀ (i j:Nat) (A B:Asr),i≠j→l[i]?=some A→l[j]?=some B→DisR A B):l.Pairwise fun A B=>A.rw=true∨B.rw=true→∀ g∈A.F,g∉B.F:=by
 rw [List.pairwise_iff_getElem]
 intro i j hi hj hlt
 exact h i j _ _ (by omega) (List.getElem?_eq_getElem hi) (List.getElem?_eq_getElem hj)
theorem Hold.obj_set (h:Hold X m ob w) {i:Nat} {A B:Asr} (hA:ob[i]?=some A) (hrw:A.rw=true) (hB:B.st w') (hu:Upd A.F w w') (hF:∀ g∈B.F,g∈A.F∨w.heap.size≤g):Hold X m (ob.set i B) w':=by
 have hmem:A∈ob:=List.mem_of_getElem? hA
 have hdis:∀ (j:Nat) (C:Asr),ob[j]?=some C→j≠i→∀ g∈C.F,g∉A.F:=fun j C hC hne=>pair_at (R:=DisR) (fun _ _ h=>h.symm) h.dis hC hA hne (.inr hrw)
 refine ⟨h.upd.comp hu (h.own A hmem hrw),fun j r hj hl=>hu.blk (h.row j r hj hl) (h.far A hmem j r hj hl),h.wf,h.ne,fun C hC=>?_,fun C hC j r hj hl=>?_,fun C hC hr g hg=>?_,pair_of fun j k C D hne hC hD=>?_⟩
 ·rcases mem_set_or hC with rfl | ⟨j,hne,hC⟩
  ·exact hB
  ·exact C.up hu (hdis j C hC hne) (h.obj C (List.mem_of_getElem? hC))
 ·rcases mem_set_or hC with rfl | ⟨k,hne,hC⟩
  ·intro hg
   rcases hF _ hg with h1 | h1
   ·exact h.far A hmem j r hj hl h1
   ·have:=(h.row j r hj hl).lt; omega
  ·exact h.far C (List.mem_of_getElem? hC) j r hj hl
 ·rcases mem_set_or hC with rfl | ⟨k,hne,hC⟩
  ·rcases hF _ hg with h1 | h1
   ·exact h.own A hmem hrw g h1
   ·exact .inr (Nat.le_trans h.upd.size h1)
  ·exact h.own C (List.mem_of_getElem? hC) hr g hg
 ·have far:∀ (j:Nat) (C:Asr),ob[j]?=some C→j≠i→∀ g∈C.F,g∉B.F:=fun j C hC hne g hg hgB=>by
   rcases hF g hgB with h1 | h1
   ·exact hdis j C hC hne g hg h1
   ·have:=C.lt (h.obj C (List.mem_of_getElem? hC)) g hg; omega
  rcases getElem?_set_or hC with ⟨rfl,rfl⟩ | ⟨n1,hC2⟩ <;> rcases getElem?_set_or hD with ⟨rfl,rfl⟩ | ⟨n2,hD2⟩
  ·exact absurd rfl hne
  ·exact fun _ g hg hgD=>far k D hD2 (Ne.symm hne) g hgD hg
  ·exact fun _=>far j C hC2 hne
  ·exact pair_at (R:=DisR) (fun _ _ h=>h.symm) h.dis hC2 hD2 hne
theorem callO {ι:Type} {f:FuncId} {vs:List SV} {K:SV→St→Prop} (i:Nat) {A:Asr} (v:ι→SV) (B:ι→Asr)
  (hc:∀ w,Hold X s.m s.ob w→A.st w→Calls X.P f (denL s.m vs).toArray w fun e w'=>∃ x,e=.returned (den s.m (v x))∧(B x).st w'∧Upd A.F w w'∧∀ g∈(B x).F,g∈A.F∨w.heap.size≤g)
  (h:∀ x,setO i (B x) s.ob fun ob=>K (v x) ⟨s.fr,s.m,ob⟩) (hA:s.ob[i]?=some A:=by rfl) (hrw:A.rw=true:=by rfl)
  (he:entChk X.P f=true:=by kernel_rfl) (hv:∀ x,okV s.m.length (v x)=true:=by intro x; rfl):CallVC X f vs s K:=by
 refine ⟨entC he,fun w hH=>(hc w hH (hH.obj A (List.mem_of_getElem? hA))).mono ?_⟩
 rintro e w' ⟨x,rfl,h1,h2,h3⟩
 exact ⟨v x,s.m,s.ob.set i (B x),rfl,hv x,Ext.refl _,hH.obj_set hA hrw h1 h2 h3,setO_of (h x)⟩
theorem Hold.obj_new (h:Hold X m ob w) {B:Asr} (hB:B.st w') (hu:Since w w') (hF:∀ g∈B.F,w.heap.size≤g):Hold X m (ob++[B]) w':=by
 have h2:=h.since hu
 refine ⟨h2.upd,h2.row,h2.wf,h2.ne,fun C hC=>?_,fun C hC j r hj hl=>?_,fun C hC hr g hg=>?_, ?_⟩
 ·rcases List.mem_append.1 hC with hC | hC
  ·exact h2.obj C hC
  ·rw [List.mem_singleton] at hC; subst hC; exact hB
 ·rcases List.mem_append.1 hC with hC | hC
  ·exact h2.far C hC j r hj hl
  ·rw [List.mem_singleton] at hC; subst hC
   intro hg
   have:=(h.row j r hj hl).lt; have:=hF _ hg; omega
 ·rcases List.mem_append.1 hC with hC | hC
  ·exact h2.own C hC hr g hg
  ·rw [List.mem_singleton] at hC; subst hC
   exact .inr (Nat.le_trans h.upd.size (hF _ hg))
 ·rw [List.pairwise_append]
  refine ⟨h.dis,List.pairwise_singleton _ _,fun C hC D hD _ g hg hgD=>?_⟩
  rw [List.mem_singleton] at hD; subst hD
  have:=C.lt (h.obj C hC) g hg; have:=hF _ hgD; omega
theorem callN {ι:Type} {f:FuncId} {vs:List SV} {K:SV→St→Prop} (v:ι→SV) (B:ι→Asr)
  (hc:∀ w,Hold X s.m s.ob w→Calls X.P f (denL s.m vs).toArray w fun e w'=>∃ x,e=.returned (den s.m (v x))∧(B x).st w'∧Since w w'∧∀ g∈(B x).F,w.heap.size≤g)
  (h:∀ x,appO s.ob (B x) fun ob=>K (v x) ⟨s.fr,s.m,ob⟩)
  (he:entChk X.P f=true:=by kernel_rfl) (hv:∀ x,okV s.m.length (v x)=true:=by intro x; rfl):CallVC X f vs s K:=by
 refine ⟨entC he,fun w hH=>(hc w hH).mono ?_⟩
 rintro e w' ⟨x,rfl,h1,h2,h3⟩
 exact ⟨v x,s.m,s.ob++[B x],rfl,hv x,Ext.refl _,hH.obj_new h1 h2 h3,appO_of (h x)⟩
theorem Hold.addRow (h:Hold X m ob w) (r:Row) (hB:Blk w r.g r.t (rowA (m++[r]) r)) (hS:r.rw=true→r.g∈X.S∨X.w0.heap.size≤r.g) (hne:∀ q∈m,q.live=true→q.g≠r.g) (hfar:∀ A∈ob,r.g∉A.F)
  (hok:okL (m.length+1) r.cs=true:=by rfl) (hoff:r.pre.length=r.off:=by rfl):Hold X (m++[r]) ob w:=by
 have hE:=Ext.app m [r]
 have hlen:(m++[r]).length=m.length+1:=by simp
 refine ⟨h.upd,fun j q hj hl=>?_,fun j q hj hl=>?_,fun i j q q' hi hj hq hq' hn=>?_,h.obj,fun A hA j q hj hl=>?_,h.own,h.dis⟩
 ·rcases getElem?_snoc hj with hj | ⟨_,rfl⟩
  ·rw [rowA_ext hE (h.wf j q hj hl).1]; exact h.row j q hj hl
  ·exact hB
 ·rcases getElem?_snoc hj with hj | ⟨_,rfl⟩
  ·obtain ⟨w1,w2,w3⟩:=h.wf j q hj hl
   exact ⟨okL_mono (by rw [hlen]; omega) _ w1,w2,w3⟩
  ·exact ⟨by rw [hlen]; exact hok,hoff,hS⟩
 ·rcases getElem?_snoc hi with hi2 | ⟨rfl,rfl⟩ <;> rcases getElem?_snoc hj with hj2 | ⟨rfl,rfl⟩
  ·exact h.ne i j q q' hi2 hj2 hq hq' hn
  ·exact hne q (List.mem_of_getElem? hi2) hq
  ·exact (hne q' (List.mem_of_getElem? hj2) hq').symm
  ·exact absurd rfl hn
 ·rcases getElem?_snoc hj with hj | ⟨_,rfl⟩
  ·exact h.far A hA j q hj hl
  ·exact hfar A hA
theorem Hold.addObj (h:Hold X m ob w) (B:Asr) (hB:B.st w) (hown:B.rw=true→∀ g∈B.F,g∈X.S∨X.w0.heap.size≤g) (hfar:∀ r∈m,r.live=true→r.g∉B.F) (hdis:∀ A∈ob,DisR A B):Hold X m (ob++[B]) w:=by
 refine ⟨h.upd,h.row,h.wf,h.ne,fun C hC=>?_,fun C hC j r hj hl=>?_,fun C hC hr g hg=>?_, ?_⟩
 ·rcases List.mem_append.1 hC with hC | hC
  ·exact h.obj C hC
  ·rw [List.mem_singleton] at hC; subst hC; exact hB
 ·rcases List.mem_append.1 hC with hC | hC
  ·exact h.far C hC j r hj hl
  ·rw [List.mem_singleton] at hC; subst hC; exact hfar r (List.mem_of_getElem? hj) hl
 ·rcases List.mem_append.1 hC with hC | hC
  ·exact h.own C hC hr g hg
  ·rw [List.mem_singleton] at hC; subst hC; exact hown hr g hg
 ·rw [List.pairwise_append]
  refine ⟨h.dis,List.pairwise_singleton _ _,fun C hC D hD=>?_⟩
  rw [List.mem_singleton] at hD; subst hD
  exact hdis C hC
theorem entH {P:Program} {T:Tab} (hT:TabOk P T) {f:FuncId} {fn:Func} {c:Code} {n:Nat} {args:Array Value} {w:World} {R:Ending→World→Prop} {S:List Nat} {m:List Row} {ob:List Asr} (hH:Hold ⟨P,T,S,w,n,[]⟩ m ob w) (vs:List SV)
  (hf:P.funcs[f]?=some fn) (hn:fn.ntmps=n) (hb:fn.body=some c) (hargs:(denL m vs).toArray=args)
  (h:numbK 0 vs fun fr=>run ⟨P,T,S,w,n,[]⟩ c ⟨fr,m,ob⟩ (finK ⟨P,T,S,w,n,[]⟩ fn R))
  (hok:(okL m.length vs && Nat.ble vs.length n)=true:=by rfl):Calls P f args w R :=
 enter (X:=⟨P,T,S,w,n,[]⟩) ⟨hT⟩ vs m ob hf hH hargs (c:=c) (numbK_of h) hb (by rw [hn]; simp) rfl hok
def evO (x:Operand) (fr:List (Nat×SV)):Option SV :=
 match x with
 | .tmp t=>lkO t fr
 | .const (.int k n)=>some (.i k n)
 | .const (.bool b)=>some (.b b)
 | .const c=>some (.v c)
 | _=>none
theorem evO_of {x:Operand} {fr:List (Nat×SV)} {v:SV} (hf:FrOk m a.tmps fr) (h:evO x fr=some v):okV m.length v=true∧a.eval x=den m v:=by
 unfold evO at h
 split at h
 ·rename_i t
  obtain ⟨h1,h2⟩:=hf t v h
  exact ⟨h1,by simp [Act.eval,h2]⟩
 ·cases h; exact ⟨rfl,rfl⟩
 ·cases h; exact ⟨rfl,rfl⟩
 ·cases h; exact ⟨rfl,rfl⟩
 ·cases h
theorem opq {o:Oper} {K:St→Prop} (v:SV) (he:∀ (a:Act) (w:World),FrOk s.m a.tmps s.fr→Hold X s.m s.ob w→(execOp a.eval o).run X.P w=.ok (.value (den s.m v)) w) (h:put X.n o.dst v s K) (hv:okV s.m.length v=true:=by rfl):OpVC X o s K:=⟨fun a w Q hR=>by
 obtain ⟨s',r1,r2,r3,r4⟩:=put_of hR.ds hR.sz hR.fr hR.h hv h
 exact wp_q _ (he a w hR.fr hR.h) ⟨s',r1,by rw [r2]; exact Ext.refl _,r4⟩⟩
theorem opld {o:Oper} {K:St→Prop} {t:TypeId} {x:Operand} {g off:Nat} (cs:List SV) (hr:∀ w,Hold X s.m s.ob w→w.rangeAt g off (denL s.m cs)) (h:put X.n o.dst (.a cs) s K) (hX:X.Ok)
  (ho:o.op=.load t x:=by rfl) (hx:evO x s.fr=some (.v (.pointer (some ⟨g,off,none⟩))):=by rfl) (hn:(match tyO t X.tab with | some y=>y.row && Nat.beq y.size cs.length | none=>false)=true:=by rfl) (hv:okV s.m.length (.a cs)=true:=by rfl):OpVC X o s K :=
 opq (.a cs) (fun a w hf hH=>by
  cases hy:tyO t X.tab with
  | none=>simp [hy] at hn
  | some y =>
   simp only [hy,Bool.and_eq_true] at hn
   obtain ⟨d,i,T⟩:=(hX.tab _ _ hy).out
   have he:=(evO_of hf hx).2
   have hl:=run_loadVar_mid (P:=X.P) w g off t (denL s.m cs) d (hr w hH) T.un (by rw [T.row,hn.1]) (by rw [T.inf]; simp [T.size,denL_len,Nat.eq_of_beq_eq_true hn.2])
   unfold execOp
   simp only [ho,he,den,Instr.loadAt,Instr.sureAddr,Sem.run_bind,Sem.run_pure,Result.andThen_ok,hl]) h hv
theorem opix {o:Oper} {K:St→Prop} {t:TypeId} {x:Operand} {g off:Nat} {ad:Addr} (cs:List SV) (hr:∀ w,Hold X s.m s.ob w→w.rangeAt g off (denL s.m cs)) (hX:X.Ok) (ho:o.op=.load t x) (hx:evO x s.fr=some (.v (.pointer (some ad)))) (had:ad=⟨g,off,none⟩) (h:put X.n o.dst (.a cs) s K)
  (hn:(match tyO t X.tab with | some y=>y.row && Nat.beq y.size cs.length | none=>false)=true:=by rfl) (hv:okV s.m.length (.a cs)=true:=by rfl):OpVC X o s K:=by
 subst had
 exact opld cs hr h hX ho hx hn hv
theorem fin_e {v:SV} {V:Value} {P:Program} {T:Tab} {w:World} {n g off:Nat} {t:TypeId} {pre suf:List Value} {cells:Array Value} {cs:List SV} {rest:List Row} {fr:List (Nat×SV)} {ob:List Asr} (h:den (⟨g,t,true,off,pre,cs,suf,true⟩::rest) v=V) (hc:(denL (⟨g,t,true,off,pre,cs,suf,true⟩::rest) cs).toArray=cells) :
  Fin ⟨P,T,[g],w,n,[]⟩ (fun e w'=>e=.returned V∧Blk w' g t (el pre cells suf)∧Upd [g] w w') v ⟨fr,⟨g,t,true,off,pre,cs,suf,true⟩::rest,ob⟩ :=
 fin fun w' hH=>⟨by rw [← h],by have:=hH.row 0 _ rfl rfl; unfold rowA at this; subst hc; exact this,hH.upd⟩
theorem callHF {f:FuncId} {vs:List SV} {K:SV→St→Prop} (hcf:∀ args w,(callFunc f args).run X.P w=.ok (.enter f args) w) (v:SV) (hc:∀ w,Hold X s.m s.ob w→Calls X.P f (denL s.m vs).toArray w fun e w'=>e=.returned (den s.m v)∧Since w w') (h:K v s)
  (hv:okV s.m.length v=true:=by rfl):CallVC X f vs s K:=by
 refine ⟨hcf,fun w hH=>(hc w hH).mono ?_⟩
 rintro e w' ⟨rfl,hs⟩
 exact ⟨v,s.m,s.ob,rfl,hv,Ext.refl _,hH.since hs,h⟩
theorem hold_q {P:Program} {T:Tab} {S:List Nat} {w:World} {n q:Nat} {t:TypeId} {cells:Array Value} (cs:List SV) (hq:Blk w q t cells) (hc:(denL [] cs).toArray=cells:=by rfl) (hok:okL 0 cs=true:=by rfl):Hold ⟨P,T,S,w,n,[]⟩ [⟨q,t,true,0,[],cs,[],false⟩] [] w :=
 Hold.addRow (m:=[]) (Hold.nil P T S n w) ⟨q,t,true,0,[],cs,[],false⟩ (by rw [rowA_nil rfl rfl]; show Blk w q t (denL _ cs).toArray; rw [denL0 hok,hc]; exact hq) (by intro h; cases h) (by intro q hq; cases hq) (by intro A hA; cases hA) (okL_mono (Nat.zero_le _) _ hok) rfl
theorem opbs {o:Oper} {K:St→Prop} {t e:TypeId} {n:Nat} {parts:Array (Nat×Operand)} (cs:List SV) {ie:TypeInfo} {z:Value} (ho:o.op=.buildSlice t n parts) (hu:X.P.underlying t=some (.slice e)) (hie:X.P.info? e=some ie) (hz:ie.zero=some z) (hsmall:¬ n*ie.size > 2 ^ 24) (hpos:¬ n*ie.size=0)
  (hf:∀ a:Act,FrOk s.m a.tmps s.fr→Instr.fill (fun i=>some (i*ie.size,ie.size)) ((Array.range (n*ie.size)).map (z.cells[· % z.cells.size]!)) (parts.map fun (i,x)=>(i,a.eval x)).toList=some (denL s.m cs).toArray)
  (h:nw s e cs fun j s'=>put X.n o.dst (.s j 0 n n) s' K) (hc:okL s.m.length cs=true:=by rfl):OpVC X o s K:=⟨fun a w Q hR=>by
 have h1:=nw_of h w.heap.size
 have hH:=hR.h.new (t:=e) hc
 have hE:=Ext.app s.m [⟨w.heap.size,e,true,0,[],cs,[],true⟩]
 have hg:(s.m++[(⟨w.heap.size,e,true,0,[],cs,[],true⟩:Row)])[s.m.length]?=some ⟨w.heap.size,e,true,0,[],cs,[],true⟩:=by simp
 obtain ⟨s',r1,r2,r3,r4⟩:=put_of (a:=a) (s:={ s with m:=s.m++[⟨w.heap.size,e,true,0,[],cs,[],true⟩] }) (v:=.s s.m.length 0 n n) hR.ds hR.sz (hR.fr.ext hE) hH (by simp [okV]) h1
 refine wp_buildSlice t e n parts ho _ ie z hu hie hz hsmall hpos (hf a hR.fr) ⟨s', ?_,by rw [r2]; exact hE,r4⟩
 have:den (s.m++[⟨w.heap.size,e,true,0,[],cs,[],true⟩]) (.s s.m.length 0 n n)=.slice (some ⟨w.heap.size,0,none⟩) n n:=by simp only [den,hg]
 rw [← this]; exact r1⟩
theorem opb1 (hX:X.Ok) {o:Oper} {K:St→Prop} {t e:TypeId} {x:Operand} (vs:List SV) (ho:o.op=.buildSlice t 1 #[(0,x)]) (hx:evO x s.fr=some (.a vs))
  (h:nw s e vs fun j s'=>put X.n o.dst (.s j 0 1 1) s' K)
  (ht:(match tyO t X.tab with | some y=>y.sl && Nat.beq y.el e | none=>false)=true:=by rfl) (hn:(match tyO e X.tab with | some y=>Nat.beq y.size vs.length && Nat.ble 1 y.size && Nat.ble y.size 16777216 | none=>false)=true:=by rfl) (hc:okL s.m.length vs=true:=by rfl):OpVC X o s K:=by
 cases hy:tyO t X.tab with
 | none=>simp [hy] at ht
 | some y =>
  cases hz:tyO e X.tab with
  | none=>simp [hz] at hn
  | some z =>
   simp only [hy,hz,Bool.and_eq_true] at ht hn
   obtain ⟨d,i,T⟩:=(hX.tab _ _ hy).out
   obtain ⟨d',i',T'⟩:=(hX.tab _ _ hz).out
   have hel:=Nat.eq_of_beq_eq_true ht.2
   have hsz:=Nat.eq_of_beq_eq_true hn.1.1
   have h1:=Nat.le_of_ble_eq_true hn.1.2
   have h2:=Nat.le_of_ble_eq_true hn.2
   have hu:X.P.underlying t=some (.slice e):=by rw [T.un,T.sl ht.1,hel]
   refine opbs vs ho hu T'.inf T'.zero (by rw [T'.size]; omega) (by rw [T'.size]; omega) (fun a hf=>?_) h hc
   have he:=(evO_of hf hx).2
   have hl:(denL s.m vs).length=i'.size:=by rw [denL_len,T'.size,hsz]
   have:=Go.Great.fill_whole (s:=i'.size) (by rw [T'.size]; omega) [.agg (denL s.m vs).toArray] ((Array.range (1*i'.size)).map ((zeroV z).cells[· % (zeroV z).cells.size]!)) (by intro v hv; rw [List.mem_singleton] at hv; subst hv; simp [Value.cells,hl]) (by simp)
   simpa [he,den,Value.cells] using this
theorem ix_run (hX:X.Ok) {o:Oper} {t:TypeId} {x ix:Operand} {y e:Ty} {ad:Addr} {n c:Nat} {k:IntKind} {I:Int} {m:List Row} {fr:List (Nat×SV)} (ho:o.op=.indexAddr t x ix) (hx:evO x fr=some (.v (.slice (some ad) n c))) (hi:evO ix fr=some (.i k I)) (hI:0≤I∧I < n) (hy:tyO t X.tab=some y) (hs:y.sl=true) (he:tyO y.el X.tab=some e) (a:Act) (hf:FrOk m a.tmps fr) (w:World) :
  (execOp a.eval o).run X.P w=.ok (.value (.pointer (some (ad.add (I.toNat*e.size))))) w:=by
 obtain ⟨d,inf,T⟩:=(hX.tab _ _ hy).out
 have hd:=T.sl hs
 subst hd
 obtain ⟨d2,inf2,T2⟩:=(hX.tab _ _ he).out
 have hsz:(sizeOf y.el).run X.P=fun w=>.ok e.size w:=by funext w; simp [sizeOf,typeInfo,T2.inf,T2.size]
 have h2:=(evO_of hf hx).2
 have k2:=(evO_of hf hi).2
 unfold execOp
 simp only [ho,h2,k2,den,Instr.indexAt,asIntOf,Sem.run_bind,Sem.run_pure,Result.andThen_ok,run_underlying T.un,hsz,if_pos hI,Option.map_some]
theorem opiv (hX:X.Ok) {o:Oper} {K:St→Prop} {t:TypeId} {x ix:Operand} {y e:Ty} {ad:Addr} {n c:Nat} {k:IntKind} {I:Int} (ho:o.op=.indexAddr t x ix) (hx:evO x s.fr=some (.v (.slice (some ad) n c))) (hi:evO ix s.fr=some (.i k I)) (hy:tyO t X.tab=some y) (hs:y.sl=true) (he:tyO y.el X.tab=some e)
  (hI:0≤I∧I < n) (h:put X.n o.dst (.v (.pointer (some (ad.add (I.toNat*e.size))))) s K):OpVC X o s K :=
 opq (.v (.pointer (some (ad.add (I.toNat*e.size))))) (fun a w hf _=>ix_run hX ho hx hi hI hy hs he a hf w) h rfl
theorem puiv (hX:X.Ok) {o:Oper} {K:SV→Prop} {t:TypeId} {x ix:Operand} {y e:Ty} {ad:Addr} {n c:Nat} {k:IntKind} {I:Int} (ho:o.op=.indexAddr t x ix) (hx:evO x s.fr=some (.v (.slice (some ad) n c))) (hi:evO ix s.fr=some (.i k I)) (hy:tyO t X.tab=some y) (hs:y.sl=true) (he:tyO y.el X.tab=some e)
  (hI:0≤I∧I < n) (h:K (.v (.pointer (some (ad.add (I.toNat*e.size)))))):PuVC X o s K:=⟨⟨.v (.pointer (some (ad.add (I.toNat*e.size)))),rfl,fun a hf w=>ix_run hX ho hx hi hI hy hs he a hf w,h⟩⟩
theorem opap (i j:Nat) {A:Asr} {r:Row} {o:Oper} {K:St→Prop} {xs ys:Operand} {t e:TypeId} {lo size n c0 m c n2 bytes:Nat} {A0:Option Addr} {z:Value} {vals cells zs:List Value} (B:Option Addr→Nat→Asr)
  (ho:o.op=.call { callee:=.builtin .append,args:=#[xs,ys],argTypes:=#[t,t] }) (hxs:evO xs s.fr=some (.v (.slice A0 n c0))) (hys:evO ys s.fr=some (.s j 0 m c))
  (hA:s.ob[i]?=some A) (hrw:A.rw=true) (hF:A.F=blkOf A0) (hst:∀ w,A.st w→w.ownsRow lo e size (.slice A0 n c0) n vals) (hB:∀ A' c' w,w.ownsRow lo e size (.slice A' n2 c') n2 zs→(B A' c').st w) (hBF:∀ A' c',(B A' c').F=blkOf A')
  (hr:s.m[j]?=some r) (hl:(r.live && Nat.beq r.off 0 && r.pre.isEmpty && r.suf.isEmpty)=true) (hc:denL s.m r.cs=cells) (hms:cells.length=m*size)
  (ht:X.P.underlying t=some (.slice e)) (hinf:(X.P.info? e).map (fun i=>(i.zero,i.size,i.bytes))=some (some z,size,bytes)) (hzs:z.cells.size=size) (hsz:0 < size) (hby:bytes≤1000) (h1:∀ u∈cells,u.oneCell'=true)
  (hnm:n+m≤1000000) (hbase:∀ w,Hold X s.m s.ob w→lo≤w.heap.size) (hn2:n+m=n2) (hzs2:vals++cells=zs)
  (h:∀ A' c',setO i (B A' c') s.ob fun ob=>put X.n o.dst (.v (.slice A' n2 c')) ⟨s.fr,s.m,ob⟩ K):OpVC X o s K:=⟨fun a w Q hR=>by
 simp only [Bool.and_eq_true,List.isEmpty_iff] at hl
 obtain ⟨⟨⟨l1,l2⟩,l3⟩,l4⟩:=hl
 have l2:=Nat.eq_of_beq_eq_true l2
 have hb:=hR.h.row j r hr l1
 rw [rowA_nil l3 l4,hc] at hb
 have ev2:a.eval ys=.slice (some ⟨r.g,0,none⟩) m c:=by rw [(evO_of hR.fr hys).2]; simp [den,hr,l2]
 refine wp_append_row xs ys t ho lo e z size bytes ht hinf hzs hsz hby A0 n c0 vals (by rw [(evO_of hR.fr hxs).2]; rfl) (hst w (hR.h.obj A (List.mem_of_getElem? hA))) _ (some ⟨r.g,0,none⟩) m c cells ev2 (reads_blk (cs:=cells) hb hms) h1 hnm (hbase w hR.h) n2 zs hn2 hzs2 ?_
 intro A' c' w' hown hupd hfar
 have hH:=hR.h.obj_set hA hrw (hB A' c' w' hown) (by rw [hF]; exact hupd) (by rw [hF,hBF]; exact hfar)
 obtain ⟨s',r1,r2,r3,r4⟩:=put_of (a:=a) (s:=⟨s.fr,s.m,s.ob.set i (B A' c')⟩) (v:=.v (.slice A' n2 c')) hR.ds hR.sz hR.fr hH rfl (setO_of (h A' c'))
 exact ⟨s',r1,by rw [r2]; exact Ext.refl _,r4⟩⟩
end
end En
namespace Sh
open Go.RowKit Ba Mem En
open Go (Lib.byteCells)
set_option maxRecDepth 100000
abbrev tW:TypeId:=47
abbrev tB:TypeId:=45
abbrev t8:TypeId:=5
theorem ifo:(Tryz.prog.info? t8).map (fun i=>(i.zero,i.size,i.bytes))=some (some (.int .u8 0),1,1):=by kernel_rfl
theorem siz:(Tryz.prog.info? tB).map (·.size)=some 2:=by kernel_rfl
theorem lies:liesAt Tryz.prog Tryz.prog.depth tW (2 / Tryz.prog.cellsOf tW) 0 tB 1=true:=by kernel_rfl
abbrev me (b:Nat):Value:=.pointer (some ⟨b,0,none⟩)
def WrS (b:Nat) (A:Option Addr) (bs:List UInt8) (w:World):Prop :=
 ∃ p c,(p=.pointer none∨p=me b)∧Blk w b tW #[p,.slice A bs.length c]∧w.ownsRow 0 t8 1 (.slice A bs.length c) bs.length (Lib.byteCells bs)
section
variable {b:Nat} {A A':Option Addr} {bs l:List UInt8} {w w':World} {T:List Nat}
theorem WrS.far (h:WrS b A bs w):b∉blkOf A:=by
 obtain ⟨p,c,hp,hb,ho⟩:=h
 exact own_ne_ty ho hb (by decide)
theorem WrS.upd (u:Upd T w w') (h:WrS b A bs w) (hT:∀ g∈b::blkOf A,g∉T):WrS b A bs w':=by
 obtain ⟨p,c,hp,hb,ho⟩:=h
 exact ⟨p,c,hp,u.blk hb (hT b (List.mem_cons_self ..)),u.own ho fun g hg=>hT g (List.mem_cons_of_mem _ hg)⟩
theorem WrS.lt (h:WrS b A bs w):∀ g∈b::blkOf A,g < w.heap.size:=by
 obtain ⟨p,c,hp,hb,ho⟩:=h
 intro g hg
 rcases List.mem_cons.1 hg with rfl | hg
 ·exact hb.lt
 ·exact own_lt ho g hg
end
def wrO (b:Nat) (A:Option Addr) (bs:List UInt8):Asr:=⟨b::blkOf A,true,WrS b A bs,fun u hd h=>h.upd u hd,fun h=>h.lt⟩
def goneO (F:List Nat):Asr:=⟨F,true,fun w=>∀ g∈F,g < w.heap.size,fun u _ h g hg=>Nat.lt_of_lt_of_le (h g hg) u.size,fun h=>h⟩
def Wrote (b:Nat) (A:Option Addr) (bs:List UInt8) (w w':World):Prop:=∃ A':Option Addr,WrS b A' bs w'∧Upd (b::blkOf A) w w'∧∀ g∈b::blkOf A',g∈b::blkOf A∨w.heap.size≤g
theorem wrote {b c':Nat} {A A':Option Addr} {bs bs':List UInt8} {w w0 w2:World} {v:Value} (h:WrS b A bs w) (h0:Upd [b] w w0) (hb0:Blk w0 b tW #[me b,v]) (u:Upd (blkOf A) w0 w2) (hA:∀ g∈blkOf A',g∈blkOf A∨w0.heap.size≤g) (n:Nat) (hn:bs'.length=n) (ho:w2.ownsRow 0 t8 1 (.slice A' n c') n (Lib.byteCells bs')):Blk w2 b tW #[me b,v]∧Wrote b A bs' w (w2.setCell ⟨b,1,none⟩ (.slice A' n c')):=by
 subst hn
 have hb2:Blk w2 b tW #[me b,v]:=u.blk hb0 h.far
 have hs:w2.setCell ⟨b,1,none⟩ (.slice A' bs'.length c')=w2.setRow b #[me b,.slice A' bs'.length c']:=setCell_eq_setRow w2 b 1 _ tW (0,0) _ hb2
 have hbA:b∉blkOf A':=own_ne_ty ho hb2 (by decide)
 refine ⟨hb2,A', ?_, ?_,fun g hg=>?_⟩
 ·rw [hs]
  exact ⟨me b,c',.inr rfl,Blk.row hb2 _,own_row_far ho hbA _⟩
 ·rw [hs]
  refine Upd.setRow ((h0.mono (T:=b::blkOf A) fun k hk _=>by rw [List.mem_singleton.1 hk]; exact List.mem_cons_self ..).comp u fun g hg=>.inl (List.mem_cons_of_mem _ hg)) (.inl (List.mem_cons_self ..)) _
 ·rcases List.mem_cons.1 hg with rfl | hg
  ·exact .inl (List.mem_cons_self ..)
  ·exact (hA g hg).imp (List.mem_cons_of_mem _) (Nat.le_trans h0.size)
set_option maxHeartbeats 1000000 in
theorem ck {b:Nat} {p v:Value} {w:World} (hb:Blk w b tW #[p,v]) (hq:p=.pointer none∨p=me b):Calls Tryz.prog 69 #[me b] w fun e w'=>e=.returned (.tuple #[])∧w'=w.setRow b #[me b,v]:=by
 obtain ⟨j,hj,hjs⟩:=Option.map_eq_some_iff.1 siz
 have hp:=Tryz.underlying43
 have hu:=Tryz.underlying181
 have h0:w.cell? ⟨b,0,none⟩=some p:=hb.cell 0
 have hfz:=hb.frozen 0
 have hsh:w.shape? b=some (tW,2):=by unfold World.shape?; unfold Blk at hb; rw [hb]; rfl
 rcases hq with rfl | rfl
 ·have hset:w.setCell ⟨b,0,none⟩ (me b)=w.setRow b #[me b,v]:=setCell_eq_setRow w b 0 _ tW (0,0) _ hb
  go_enter Tryz.func69,Tryz.ntmps69
  go_wp2
  rw [Lib.run_to_unsafe w ⟨b,0,none⟩ hp hu hj (by rw [hjs]; decide) hsh (Nat.zero_lt_succ 1)]
  simp only [Result.andThen]
  rw [Oper.upon_value]
  go_wp2
  rw [run_callFunc_extern Tryz.func100 (by kernel_rfl) (by kernel_rfl) (by kernel_rfl) (e:=Extern.AbiNoEscape.same) (by kernel_rfl),Lib.run_noEscape]
  simp only [Result.andThen]
  rw [Oper.upon_value]
  go_wp2
  rw [Lib.run_from_unsafe w ⟨b,0,none⟩ hu hp hj hsh lies]
  simp only [Result.andThen]
  rw [Oper.upon_value]
  go_wp2
  go_end0
  first | exact ⟨rfl,hset⟩|exact ⟨rfl,rfl⟩
 ·have hset:w.setRow b #[me b,v]=w:=setRow_self w b _ tW (0,0) hb
  go_enter Tryz.func69,Tryz.ntmps69
  go_wp2
  rw [Lib.run_neq_ptr_same w _ hp hj]
  go_wp2
  go_end0
  exact ⟨rfl,hset.symm⟩
theorem ckW {b:Nat} {p v:Value} {w:World} (hb:Blk w b tW #[p,v]):Upd [b] w (w.setRow b #[me b,v])∧Blk (w.setRow b #[me b,v]) b tW #[me b,v]:=⟨(Upd.refl [b] w).setRow (.inl (List.mem_singleton.2 rfl)) _,Blk.row hb _⟩
theorem app_str {P:Program} {w:World} (t u ty e:TypeId) (i:TypeInfo) (ht:P.underlying t=some (.slice e)) (hu:P.underlying u=some .string) (hi:P.info? e=some i) (hz:i.zero=some (.int .u8 0)) (hsize:i.size=1) (hby:i.bytes=1)
  {A:Option Addr} {n c:Nat} {xs:List Value} (hown:w.ownsRow 0 e 1 (.slice A n c) n xs) (s:ByteArray) (hb:n+s.size≤1000000) :
  ∃ A' c' w',(Builtin.append_ #[t,u] ty #[.slice A n c,.string s]).run P w=.ok (.slice A' (n+s.size) c') w'∧w'.ownsRow 0 e 1 (.slice A' (n+s.size) c') (n+s.size) (xs++Lib.strCells s)∧Upd (blkOf A) w w'∧∀ g∈blkOf A',g∈blkOf A∨w.heap.size≤g:=by
 have fin:∀ v' w',(Builtin.append_ #[t,u] ty #[.slice A n c,.string s]).run P w=.ok v' w'→w'.ownsRow 0 e 1 v' (n+s.size) (xs++Lib.strCells s)→w.grownBy w' (Value.slice A n c).ownBlock→(∀ g,v'.ownBlock=some g→g∈blkOf A∨w.heap.size≤g)→∃ A' c' w',(Builtin.append_ #[t,u] ty #[.slice A n c,.string s]).run P w=.ok (.slice A' (n+s.size) c') w'∧w'.ownsRow 0 e 1 (.slice A' (n+s.size) c') (n+s.size) (xs++Lib.strCells s)∧Upd (blkOf A) w w'∧∀ g∈blkOf A',g∈blkOf A∨w.heap.size≤g:=fun v' w' h1 h2 h3 h4=>by
  obtain ⟨A',c',rfl⟩:=Byt.own_form w' h2
  refine ⟨A',c',w',h1,h2,Upd.of_grown h3,fun g hg=>h4 g ?_⟩
  cases A' with
  | none=>cases hg
  | some a=>rw [List.mem_singleton.1 hg]; rfl
 obtain ⟨v',w',h1,h2,h3,_⟩:=Lib.run_append_own_string (P:=P) w 0 t u ty e i ht hu hi hz hsize hby _ n xs hown s (by unfold maxLen; omega) (by omega) (Nat.zero_le _)
 refine fin v' w' h1 h2 h3 fun g hg=>?_
 rcases own_at hown with ⟨rfl,rfl,rfl⟩ | ⟨g',cur,rfl,_,hbk,hc,hm,hs,htk⟩
 ·have hv:Value.slice none 0 c=.slice none 0 0:=by
   rcases hown.2 with h | ⟨_,_,_,h,_⟩
   ·exact h.1
   ·cases h
  obtain ⟨v2,w2,k1,k2,_,_⟩:=Lib.run_append_own_string (P:=P) w w.heap.size t u ty e i ht hu hi hz hsize hby (.slice none 0 c) 0 [] ⟨rfl,.inl ⟨hv,rfl⟩⟩ s (by unfold maxLen; omega) (by omega) (Nat.le_refl _)
  rw [h1] at k1
  injection k1 with e1 e2
  subst e1 e2
  exact .inr (k2.lt g hg).1
 ·by_cases hr:n+s.size≤c
  ·have k1:=Lib.run_append_room_string (P:=P) w t u ty e i ht hu hi hsize g' n c cur hbk s hr (by omega)
   rw [h1] at k1
   injection k1 with e1 e2
   subst e1
   simp only [Value.ownBlock,Option.some.injEq] at hg
   exact .inl (by simp [blkOf,hg])
  ·have hl:xs.length=n:=by simpa using hown.1
   have k1:=Lib.run_append_grow_string (P:=P) w t u ty e i (.int .u8 0) ht hu hi hz ⟨g',0,none⟩ n c xs (by rw [hsize]; simpa using hl) (hown.cells (g:=g') rfl) s (by omega) (by omega) (by rw [hby]; exact growslice_fits (by omega) (by omega))
   rw [h1] at k1
   injection k1 with e1 e2
   subst e1
   simp only [Value.ownBlock,Option.some.injEq] at hg
   exact .inr (by omega)
theorem wpl_str {P:Program} {w:World} {ops:Array Oper} {rest:List Oper} {o:Oper} {a:Act} {Q:Exit→Act→World→Prop} (hgd:o.guard=none) (sl x:Operand) (t u:TypeId) (ho:o.op=.call { callee:=.builtin .append,args:=#[sl,x],argTypes:=#[t,u] })
  (e:TypeId) (hinf:(P.info? e).map (fun i=>(i.zero,i.size,i.bytes))=some (some (.int .u8 0),1,1)) (ht:P.underlying t=some (.slice e)) (hu:P.underlying u=some .string) {A:Option Addr} {n c:Nat} {xs:List Value} (hs:a.eval sl=.slice A n c) (hown:w.ownsRow 0 e 1 (.slice A n c) n xs) (s:ByteArray) (hx:a.eval x=.string s) (hb:n+s.size≤1000000)
  (h:∀ A' c' w',w'.ownsRow 0 e 1 (.slice A' (n+s.size) c') (n+s.size) (xs++Lib.strCells s)→Upd (blkOf A) w w'→(∀ g∈blkOf A',g∈blkOf A∨w.heap.size≤g)→wpList P ops Q rest (a.put o.dst (.slice A' (n+s.size) c')) w'):wpList P ops Q (o::rest) a w:=by
 obtain ⟨i,hi,hz,h1,h2⟩:=info3 hinf
 obtain ⟨A',c',w',hr,k1,k2,k3⟩:=app_str (P:=P) t u o.type e i ht hu hi hz h1 h2 hown s hb
 refine wpList_plain hgd fun K hK=>?_
 unfold Oper.wp execOp
 simp only [ho,resolve,invoke,builtin,Sem.run_bind,Sem.run_pure,Result.andThen_ok,List.map_toArray,List.map_cons,List.map_nil,hs,hx,hr]
 exact hK _ _ (h A' c' w' k1 k2 k3)
set_option maxHeartbeats 4000000 in
theorem wByte {b:Nat} {A:Option Addr} {bs:List UInt8} (c:UInt8) {w:World} (h:WrS b A bs w) (hlen:bs.length+1≤1000000):Calls Tryz.prog 46 #[me b,.int .u8 (c.toNat:Int)] w fun e w'=>e=.returned .nilIface∧Wrote b A (bs++[c]) w w':=by
 obtain ⟨p,k,hp,hb,ho⟩:=h
 obtain ⟨u0,hb0⟩:=ckW hb
 have ho0:=u0.own ho (fun g hg hT=>WrS.far ⟨p,k,hp,hb,ho⟩ (List.mem_singleton.1 hT ▸ hg))
 have c0:=hb0.cell 0
 have c1:=hb0.cell 1
 go_enter Tryz.func46,Tryz.ntmps46
 go_wp2_with (go_at_call 69; refine (ck hb hp).mono ?_)
 rintro e w1 ⟨rfl,rfl⟩
 generalize hw0:w.setRow b #[me b,.slice A bs.length k]=w0 at *
 have hn:=own_new (base:=0) (n:=1) (cs:=[Value.int .u8 (c.toNat:Int)]) (Blk.new w0 t8 #[.int .u8 (c.toNat:Int)]) (Nat.zero_le _) rfl (by omega)
 have ho1:=(Upd.of_since (S:=[]) (Since.alloc (Since.refl w0) (.cells #[.int .u8 (c.toNat:Int)] t8))).own ho0 (fun _ _ h=>by cases h)
 have hon:∀ u∈[Value.int .u8 (c.toNat:Int)],u.oneCell'=true:=by intro u hu; simp at hu; subst hu; rfl
 have hcat:Lib.byteCells bs++[Value.int .u8 (c.toNat:Int)]=Lib.byteCells (bs++[c]):=by simp [Lib.byteCells]
 go_wp2_with (at_builtin; refine wpList_plain rfl fun K hK=>wp_append_row _ _ 38 rfl 0 t8 (.int .u8 0) 1 1 Tryz.underlying38 ifo rfl (by decide) (by decide) A bs.length k _ rfl ho1 _ (some ⟨w0.heap.size,0,none⟩) 1 1 [.int .u8 (c.toNat:Int)] rfl (own_reads hn) hon hlen (Nat.zero_le _) (bs.length+1) (Lib.byteCells (bs++[c])) rfl hcat ?_)
 intro A' c' w2 hown' hu' hA'
 have hu2:Upd (blkOf A) w0 w2:=(Upd.of_since (S:=blkOf A) (Since.alloc (Since.refl w0) _)).comp hu' (fun g hg=>.inl hg)
 obtain ⟨hb2,hW⟩:=wrote ⟨p,k,hp,hb,ho⟩ u0 hb0 hu2 (fun g hg=>(hA' g hg).imp id fun h=>Nat.le_trans (Nat.le_succ _) h) (bs.length+1) (by simp) hown'
 have d0:=hb2.cell 0
 have d1:=hb2.cell 1
 have f1:=hb2.frozen 1
 refine hK _ _ ?_
 go_wp2
 go_ret
 exact ⟨rfl,hW⟩
set_option maxHeartbeats 4000000 in
theorem wStr {b:Nat} {A:Option Addr} {bs:List UInt8} (l:List UInt8) {w:World} (h:WrS b A bs w) (hlen:bs.length+l.length≤1000000):Calls Tryz.prog 47 #[me b,.string ⟨l.toArray⟩] w fun e w'=>e=.returned (.tuple #[.int .i64 (l.length:Int),.nilIface])∧Wrote b A (bs++l) w w':=by
 have hs:(⟨l.toArray⟩:ByteArray).size=l.length:=by simp [ByteArray.size]
 obtain ⟨p,k,hp,hb,ho⟩:=h
 obtain ⟨u0,hb0⟩:=ckW hb
 have ho0:=u0.own ho (fun g hg hT=>WrS.far ⟨p,k,hp,hb,ho⟩ (List.mem_singleton.1 hT ▸ hg))
 have c0:=hb0.cell 0
 have c1:=hb0.cell 1
 go_enter Tryz.func47,Tryz.ntmps47
 go_wp2_with (go_at_call 69; refine (ck hb hp).mono ?_)
 rintro e w1 ⟨rfl,rfl⟩
 generalize hw0:w.setRow b #[me b,.slice A bs.length k]=w0 at *
 go_wp2_with (at_builtin; refine wpl_str rfl _ _ 38 9 rfl t8 ifo Tryz.underlying38 Tryz.underlying9 rfl ho0 ⟨l.toArray⟩ rfl (by rw [hs]; exact hlen) ?_)
 intro A' c' w2 hown' hu2 hA'
 have hc:Lib.byteCells bs++Lib.strCells ⟨l.toArray⟩=Lib.byteCells (bs++l):=by simp [Lib.byteCells,Lib.strCells]
 rw [hc] at hown'
 obtain ⟨hb2,hW⟩:=wrote ⟨p,k,hp,hb,ho⟩ u0 hb0 hu2 hA' (bs.length+l.length) (by simp) hown'
 have d0:=hb2.cell 0
 have d1:=hb2.cell 1
 have f1:=hb2.frozen 1
 go_wp2
 go_ret2
 exact ⟨rfl,hW⟩
set_option maxHeartbeats 2000000 in
theorem wText {b:Nat} {A:Option Addr} {bs:List UInt8} {w:World} (h:WrS b A bs w) (h0:bs≠[]):Calls Tryz.prog 17 #[me b] w fun e w'=>e=.returned (.string ⟨bs.toArray⟩)∧Upd (b::blkOf A) w w':=by
 obtain ⟨p,k,hp,hb,ho⟩:=h
 have hl0:bs.length≠0:=by simpa using h0
 rcases own_at ho with ⟨_,h1,_⟩ | ⟨g,cur,rfl,_,hbk,hc,hm,hs,htk⟩
 ·exact absurd h1 hl0
 have c1:w.drew.cell? ⟨b,1,none⟩=some (.slice (some ⟨g,0,none⟩) bs.length k):=hb.drew.cell 1
 have hSD:(Builtin.unsafeSliceData_ #[38] 75 #[.slice (some ⟨g,0,none⟩) bs.length k]).run Tryz.prog w.drew=.ok (.pointer (some ⟨g,0,none⟩)) w.drew :=
  Lib.run_unsafeSliceData_row _ _ _ _ _ _ (by omega)
 have hUS:(Builtin.unsafeString_ #[75,3] 9 #[.pointer (some ⟨g,0,none⟩),.int .i64 bs.length]).run Tryz.prog w.drew=.ok (.string ⟨bs.toArray⟩) (w.drew.freeze ⟨g,0,none⟩ bs.length):=by
  refine Lib.run_unsafeString_row w.drew 75 3 9 t8 Tryz.underlying75 (by kernel_rfl) g cur.size (by have hg':w.drew.heap[g]?=some (.cells cur t8 (0,0)):=hbk; simp [World.shape?,hg']) bs h0 (by omega) (by unfold maxLen at hm; omega) ?_
  intro j x hx
  have:=ho.cells (g:=g) rfl j (.int .u8 x.toNat) (by simp [Lib.byteCells,hx])
  exact this
 have hF:Upd (b::blkOf (some ⟨g,0,none⟩)) w (w.drew.freeze ⟨g,0,none⟩ bs.length):=by
  unfold World.freeze
  split
  ·exact (Upd.refl _ w).drew
  ·refine ⟨rfl,rfl,rfl,Nat.le_of_eq Array.size_modify.symm,fun k _ hk=>?_⟩
   have hkg:g≠k:=fun e=>hk (List.mem_cons_of_mem _ (List.mem_singleton.2 e.symm))
   rw [Array.getElem?_modify,if_neg hkg]
   rfl
 have mixed:Tryz.prog.follows Departure.mixedOrders=true:=by kernel_rfl
 go_enter Tryz.func17,Tryz.ntmps17
 go_wp2
 go_region_o
 all_goals (go_wp2; go_ret; exact ⟨rfl,hF⟩)
end Sh
end Go.Proofs.YtnoehplnmdajnaaGreatDoor
