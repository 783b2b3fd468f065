/-
  Wanted: part 9.
  No condition.
-/
import Derived.Test.YtpiiblkiddcgcaaGreatPK7
import Derived.Test.YtpiiblkiddcgcaaGreatPK8
import Derived.Test.YtpiiblkiddcgcaaGreatPK4
import Derived.Test.YtpiiblkiddcgcaaGreatPK6
import Derived.Test.YtpiiblkiddcgcaaGreatRows
import Derived.Test.YtpiiblkiddcgcaaGreatPK2
import Derived.Deep.Slices
set_option linter.all false
namespace Go.Proofs.YtpiiblkiddcgcaaGreat
namespace Gr
open Go.RowKit Ba Mem Go.Proofs.YtpiiblkiddcgcaaGreat.Ty Mo Go.Proofs.YtpiiblkiddcgcaaGreat.St Pl Sc
open Ct (cfgA carA dwV bdX tkV tkF tkW tkS tkX goX goS goF goW svX ldX stX nW nO mayB mayB_iff tk_may tk_ti tk_R tk_same may_ta may_bd dw_in)
def givY (c:CfgV) (x:CarV):CarV:={ x with mo:=0,ta:=0,ho:=false,ju := -1,ti:=dwV c.dw,wy:=if lvB x.un=true then 0 else x.wy }
def SafeX (c:CfgV) (T:Nat) (x:CarV):Prop:=mayB c x=true∧(R x.sp∧R x.su∧R x.sd) ∧ -(T:Int)≤x.ti∧x.ti≤2000
section
variable {c:CfgV} {T:Nat} {x:CarV}
theorem SafeX.more {U:Nat} (h:SafeX c T x) (hU:T≤U):SafeX c U x:=⟨h.1,h.2.1,by have:=h.2.2.1; omega,h.2.2.2⟩
theorem SafeX.ok (h:SafeX c T x) (hT:T≤1000000):okT x:=by
 obtain ⟨h1,h2,h3,h4⟩:=h
 have hb:=may_bd h1
 have hw:=((goodB_iff c x).1 ((mayB_iff c x).1 h1).1).2.2.2.1
 exact ⟨hb.1,h2,fun hm=>may_ta h1 hm,by omega,hb.2,by omega⟩
theorem SafeX.load (h:SafeX c T x) (v:Int):SafeX c T { x with lo:=v }:=h
theorem SafeX.curt (h:SafeX c T x) (v:Bool):SafeX c T { x with bl:=v }:=h
theorem SafeX.br (h:SafeX c T x) (v:Bool):SafeX c T { x with br:=v }:=h
theorem SafeX.stops (h:SafeX c T x) {p u d:Int} (hr:R p∧R u∧R d):SafeX c T { x with sp:=p,su:=u,sd:=d }:=⟨h.1,hr,h.2.2⟩
theorem SafeX.press (h:SafeX c T x) (v:Int):SafeX c T (pressX v x):=by
 unfold pressX
 split
 ·exact h
 ·exact h.stops (p:=bits .or .u64 x.sp (bit v)) ⟨or_R h.2.1.1 (bit_R v),h.2.1.2⟩
theorem SafeX.flt (h:SafeX c T x):SafeX c T (fltX x):=(h.br true).stops ⟨R.zero,R.zero,R.zero⟩
theorem SafeX.take (h:SafeX c T x) {v:Int} (hf:hasF c v=true) (hi:idB x=true):SafeX c T { x with mo:=1,ta:=v,ho:=true }:=by
 obtain ⟨h1,h2⟩:=h
 refine ⟨?_,h2⟩
 rw [mayB_iff] at h1 ⊢
 unfold hasF at hf; unfold idB at hi
 have hf:=of_decide_eq_true hf
 have hi:=of_decide_eq_true hi
 exact ⟨h1.1,.inr rfl,.inl hi.2.2.1,.inr hf⟩
theorem SafeX.aim (h:SafeX c T x) {v:Int} {y:Bool} (hf:hasF c v=true):SafeX c T { x with ta:=v,ho:=y }:=by
 obtain ⟨h1,h2⟩:=h
 refine ⟨?_,h2⟩
 rw [mayB_iff] at h1 ⊢
 unfold hasF at hf
 have hf:=of_decide_eq_true hf
 exact ⟨h1.1,h1.2.1,h1.2.2.1,.inr hf⟩
theorem SafeX.giv (h:SafeX c T x):SafeX c T (givY c x):=by
 obtain ⟨h1,h2,h3,h4⟩:=h
 have hd:=dw_in c.dw
 refine ⟨?_,h2,by show _≤dwV c.dw; omega,by show dwV c.dw≤_; omega⟩
 rw [mayB_iff] at h1 ⊢
 obtain ⟨g,g2,g3,g4⟩:=h1
 rw [goodB_iff] at g
 have key:∀ wy:Int,(wy=0∨wy=1∨wy=2)→(lvB x.un=true∨¬ wy=0)→(goodB c { x with mo:=0,ta:=0,ho:=false,ju := -1,ti:=dwV c.dw,wy:=wy }=true∧((0:Int)=0∨(0:Int)=1)∧(lvB x.un=true∨¬ wy=0)∧(¬ (0:Int)=1∨(0≤(0:Int)∧(0:Int) < fl c.fl))):=fun wy h5 h6 =>
  ⟨(goodB_iff c _).2 ⟨g.1,g.2.1,g.2.2.1,h5,g.2.2.2.2⟩,.inl rfl,h6,.inl (by decide)⟩
 cases hl:lvB x.un
 ·have e:givY c x={ x with mo:=0,ta:=0,ho:=false,ju := -1,ti:=dwV c.dw }:=by unfold givY; rw [hl]; rfl
  rw [e]
  exact key x.wy g.2.2.2.1 g3
 ·have e:givY c x={ x with mo:=0,ta:=0,ho:=false,ju := -1,ti:=dwV c.dw,wy:=0 }:=by unfold givY; rw [hl]; rfl
  rw [e]
  exact key 0 (.inl rfl) (.inl hl)
theorem SafeX.hall (h:SafeX c T x) (a:WaitV):SafeX c T (hallX a x):=by
 refine h.stops (p:=x.sp) ⟨h.2.1.1, ?_, ?_⟩
 ·unfold haU; split
  ·exact or_R h.2.1.2.1 (bit_R _)
  ·exact h.2.1.2.1
 ·unfold haD; split
  ·exact or_R h.2.1.2.2 (bit_R _)
  ·exact h.2.1.2.2
theorem SafeX.tick (h:SafeX c T x):SafeX c (T+1) (tkV c x):=by
 obtain ⟨h1,h2,h3,h4⟩:=h
 have q:=tk_R c x h2.1 h2.2.1 h2.2.2
 have t:=tk_ti c x T h3 (by omega) h4
 exact ⟨tk_may c x h1,q,by have:=t.1; push_cast; exact this,t.2⟩
theorem SafeX.zero:SafeX c T zeroX:=by
 refine ⟨?_,⟨R.zero,R.zero,R.zero⟩,by show _≤(0:Int); omega,by show (0:Int)≤_; omega⟩
 rw [mayB_iff,goodB_iff]
 have:=fl_lo c.fl
 exact ⟨⟨by simp [zeroX,Do.gd],by decide,by show (0:Int)≤_; omega,.inl rfl,.inl rfl⟩,.inl rfl,.inl (by decide),.inl (by decide)⟩
end
section
variable {G:GrV} {i:Int} {f:CarV→CarV×Int}
theorem one_same:(one G i f).1.c=G.c∧(one G i f).1.waits=G.waits∧(one G i f).1.now=G.now∧(one G i f).1.cars.length=G.cars.length:=by
 unfold one; split
 ·exact ⟨rfl,rfl,rfl,by simp [GrV.car]⟩
 ·exact ⟨rfl,rfl,rfl,rfl⟩
theorem one_cars {P:CarV→Prop} (h:∀ x∈G.cars,P x) (hf:∀ x∈G.cars,P x→P (f x).1):∀ x∈(one G i f).1.cars,P x:=by
 unfold one; split
 ·rename_i hk
  intro x hx
  rcases List.mem_or_eq_of_mem_set hx with h1 | h1
  ·exact h x h1
  ·rw [h1]; exact hf _ (List.getElem_mem hk.2) (h _ (List.getElem_mem hk.2))
 ·exact h
theorem one_at {k:Nat} {x:CarV} (h:G.cars[k]?=some x):(one G i f).1.cars[k]?=some (if (k:Int)=i then (f x).1 else x):=by
 obtain ⟨hk,rfl⟩:=List.getElem?_eq_some_iff.1 h
 unfold one
 by_cases hi:(k:Int)=i
 ·rw [if_pos hi,dif_pos (by omega)]
  have e:i.toNat=k:=by omega
  simp only [GrV.car]
  rw [List.getElem?_set]
  simp [e,hk]
 ·rw [if_neg hi]
  split
  ·simp only [GrV.car]
   rw [List.getElem?_set,if_neg (by omega)]
   exact h
  ·exact h
end
def doR (G:GrV) (k a b:Int) (y:Bool):GrV×Int :=
 if k=1 then hallR G a b else if k=2 then pressR G a b else if k=3 then loadR G a b else if k=4 then curtR G a y else if k=5 then faultR G a y else if k=6 then takeR G a b else if k=7 then aimR G a b y else if k=8 then giveR G a else (G,0)
def GI (c:CfgV) (n T:Nat) (G:GrV):Prop:=G.c=c∧G.cars.length=ncars c∧(∀ x∈G.cars,SafeX c T x)∧(∀ a∈G.waits,okW a)∧G.waits.length≤n
theorem GI.zero (c:CfgV):GI c 0 0 (newG c):=by
 refine ⟨rfl,by simp [newG],fun x hx=>?_,fun a ha=>by simp [newG] at ha,Nat.le_refl _⟩
 have:=List.eq_of_mem_replicate (show x∈List.replicate (ncars c) zeroX from hx)
 rw [this]; exact SafeX.zero
theorem hasC_ok {c:CfgV} {f wy:Int} (h:hasC c f wy=true):(0≤f∧f≤63)∧1≤wy∧wy≤2:=by
 have key:∀ v,hasF c v=true→0≤v∧v≤63:=fun v h=>by
  have:=of_decide_eq_true (show decide _=true from h)
  have:=fl_hi c.fl
  omega
 unfold hasC at h
 split at h
 ·simp only [Bool.and_eq_true] at h; have:=key _ h.1; omega
 ·split at h
  ·simp only [Bool.and_eq_true] at h; have:=key _ h.1; omega
  ·cases h
section
variable {c:CfgV} {n T:Nat} {G:GrV}
theorem GI.more {m:Nat} (h:GI c n T G) (hm:n≤m):GI c m T G:=⟨h.1,h.2.1,h.2.2.1,h.2.2.2.1,Nat.le_trans h.2.2.2.2 hm⟩
theorem GI.one (h:GI c n T G) (i:Int) (f:CarV→CarV×Int) (hf:∀ x∈G.cars,SafeX c T x→SafeX c T (f x).1):GI c n T (one G i f).1:=by
 obtain ⟨h1,h2,h3,h4,h5⟩:=h
 have e:=one_same (G:=G) (i:=i) (f:=f)
 exact ⟨e.1.trans h1,e.2.2.2.trans h2,one_cars h3 hf,by rw [e.2.1]; exact h4,by rw [e.2.1]; exact h5⟩
theorem GI.do_ (h:GI c n T G) (k a b:Int) (y:Bool):GI c (n+1) T (doR G k a b y).1:=by
 have hn:=h.more (Nat.le_succ n)
 unfold doR
 split
 ·unfold hallR
  split
  ·rename_i hc
   split
   ·obtain ⟨h1,h2,h3,h4,h5⟩:=h
    refine ⟨h1,h2,h3,fun z hz=>?_,by simp; omega⟩
    rcases List.mem_append.1 hz with hz | hz
    ·exact h4 z hz
    ·rw [List.mem_singleton.1 hz]; exact hasC_ok hc
   ·exact hn
  ·exact hn
 split
 ·unfold pressR; split
  ·exact hn.one _ _ fun x _ hx=>hx.press b
  ·exact hn
 split
 ·exact hn.one _ _ fun x _ hx=>hx.load b
 split
 ·exact hn.one _ _ fun x _ hx=>hx.curt y
 split
 ·unfold faultR
  split
  ·split
   ·have q:=hn.one a (fun x=>(fltX x,0)) fun x _ hx=>hx.flt
    refine ⟨q.1,q.2.1,q.2.2.1,fun z hz=>?_,by simpa using hn.2.2.2.2⟩
    obtain ⟨u,hu,rfl⟩:=List.mem_map.1 hz
    have:=hn.2.2.2.1 u hu
    unfold disW; split <;> exact this
   ·exact hn
  ·exact hn.one _ _ fun x _ hx=>hx.br false
 split
 ·unfold takeR; split
  ·rename_i hf
   refine hn.one _ _ fun x _ hx=>?_
   show SafeX c T (takeX b x)
   unfold takeX
   by_cases hi:idB x=true
   ·rw [if_pos hi]; exact hx.take (h.1 ▸ hf) hi
   ·rw [if_neg hi]; exact hx
  ·exact hn
 split
 ·unfold aimR; split
  ·rename_i hf
   refine hn.one _ _ fun x _ hx=>?_
   show SafeX c T (aimX b y x)
   unfold aimX
   by_cases hi:x.mo=1
   ·rw [if_pos hi]; exact hx.aim (h.1 ▸ hf)
   ·rw [if_neg hi]; exact hx
  ·exact hn
 split
 ·unfold giveR
  refine hn.one _ _ fun x _ hx=>?_
  show SafeX c T (givX G.c x)
  unfold givX
  by_cases hi:x.mo=1
  ·rw [if_pos hi,h.1]; exact hx.giv
  ·rw [if_neg hi]; exact hx
 ·exact hn
end
def Near (x y:CarV):Prop:=y={ x with su:=y.su,sd:=y.sd }
theorem Near.refl (x:CarV):Near x x:=rfl
theorem Near.hall {x y:CarV} (h:Near x y) (a:WaitV):Near x (hallX a y):=by unfold Near at h ⊢; rw [h]; rfl
theorem giveC_at {cs:List CarV} {a:WaitV} {b:Int} {k:Nat} {x:CarV} (h:cs[k]?=some x):(giveC cs a b)[k]?=some (if (k:Int)=b then hallX a x else x):=by
 unfold giveC
 split
 ·rw [List.getElem?_modify,h]
  by_cases e:(k:Int)=b
  ·rw [if_pos e]
   show some (if b.toNat=k then hallX a x else x)=_
   rw [if_pos (by omega)]
  ·rw [if_neg e]
   show some (if b.toNat=k then hallX a x else x)=_
   rw [if_neg (by omega)]
 ·rw [if_neg (by omega)]; exact h
theorem asgS_at {c:CfgV} {p:List WaitV×List CarV} {i k:Nat} {x:CarV} (h:p.2[k]?=some x):∃ y,(asgStep c p i).2[k]?=some y∧(y=x∨∃ a,y=hallX a x):=by
 unfold asgStep
 split
 ·exact ⟨x,h,.inl rfl⟩
 ·split
  ·refine ⟨_,giveC_at h, ?_⟩
   split
   ·exact .inr ⟨_,rfl⟩
   ·exact .inl rfl
  ·exact ⟨x,h,.inl rfl⟩
theorem asg_at {c:CfgV} {ws:List WaitV} {cs:List CarV} {k:Nat} {x:CarV} (h:cs[k]?=some x):∀ i,∃ y,(asgN c ws cs i).2[k]?=some y∧Near x y
 | 0=>⟨x,h,Near.refl x⟩
 | i+1=>by
  obtain ⟨y,h1,h2⟩:=asg_at h i
  obtain ⟨z,h3,h4⟩:=asgS_at (c:=c) (i:=i) h1
  rcases h4 with rfl | ⟨a,rfl⟩
  ·exact ⟨_,h3,h2⟩
  ·exact ⟨_,h3,h2.hall a⟩
theorem asg_safe {c:CfgV} {T:Nat} {ws:List WaitV} {cs:List CarV} (h:∀ x∈cs,SafeX c T x):∀ i,∀ x∈(asgN c ws cs i).2,SafeX c T x
 | 0=>h
 | i+1=>by
  have ih:=asg_safe (c:=c) (ws:=ws) h i
  show ∀ x∈(asgStep c _ i).2,_
  unfold asgStep
  split
  ·exact ih
  ·split
   ·intro x hx
    unfold giveC at hx
    split at hx
    ·obtain ⟨j,hj,rfl⟩:=List.mem_iff_getElem.1 hx
     rw [List.getElem_modify]
     split
     ·exact (ih _ (List.getElem_mem _)).hall _
     ·exact ih _ (List.getElem_mem _)
    ·exact ih x hx
   ·exact ih
theorem tk_on (c:CfgV) (cs:List CarV) (ws:List WaitV) {k:Nat} {x:CarV} (h:cs[k]?=some x):∀ i,(tkN c cs ws i).1[k]?=some (if k < i then tkV c x else x)
 | 0=>by rw [if_neg (by omega)]; exact h
 | i+1=>by
  have ih:=tk_on c cs ws h i
  by_cases e:i=k
  ·subst e
   rw [if_neg (by omega)] at ih
   rw [if_pos (by omega)]
   show (tkStep c _ i).1[i]?=_
   have hi:i < (tkN c cs ws i).1.length:=(List.getElem?_eq_some_iff.1 ih).1
   unfold tkStep
   rw [ih]
   simp only []
   split <;> simp [List.getElem?_set,hi]
  ·rw [show (tkN c cs ws (i+1)).1[k]?=(tkN c cs ws i).1[k]? from tkS_at c _ i k e,ih]
   by_cases h2:k < i
   ·rw [if_pos h2,if_pos (by omega)]
   ·rw [if_neg h2,if_neg (by omega)]
theorem tkN_sub (c:CfgV) (cs:List CarV) (ws:List WaitV):∀ i,((tkN c cs ws i).2.1).Sublist ws
 | 0=>List.Sublist.refl _
 | i+1=>by
  refine List.Sublist.trans ?_ (tkN_sub c cs ws i)
  show ((tkStep c _ i).2.1).Sublist _
  unfold tkStep
  split
  ·exact List.Sublist.refl _
  ·split
   ·exact List.Sublist.refl _
   ·exact List.eraseIdx_sublist _ _
theorem tick_at {G:GrV} {k:Nat} {x:CarV} (h:G.cars[k]?=some x):∃ y,(asgN G.c G.waits G.cars G.waits.length).2[k]?=some y∧Near x y∧(tickG G).cars[k]?=some (tkV G.c y):=by
 obtain ⟨y,h1,h2⟩:=asg_at (c:=G.c) (ws:=G.waits) h G.waits.length
 refine ⟨y,h1,h2, ?_⟩
 have q:=tk_on G.c _ (asgN G.c G.waits G.cars G.waits.length).1 h1 G.cars.length
 rw [if_pos (List.getElem?_eq_some_iff.1 h).1] at q
 exact q
theorem tick_len (G:GrV):(tickG G).cars.length=G.cars.length:=(tk_len _ _ _ _).trans (asg_len _ _ _ _).2
theorem GI.tick {c:CfgV} {n T:Nat} {G:GrV} (h:GI c n T G):GI c n (T+1) (tickG G):=by
 obtain ⟨h1,h2,h3,h4,h5⟩:=h
 have ha:=asg_safe (c:=G.c) (ws:=G.waits) (h1 ▸ h3) G.waits.length
 have hw:=tkN_sub G.c (asgN G.c G.waits G.cars G.waits.length).2 (asgN G.c G.waits G.cars G.waits.length).1 G.cars.length
 have hl:=(asg_len G.c G.waits G.cars G.waits.length).1
 refine ⟨h1,(tick_len G).trans h2,fun z hz=>?_,fun a haw=>?_,Nat.le_trans hw.length_le (by omega)⟩
 ·obtain ⟨k,hk,rfl⟩:=List.mem_iff_getElem.1 hz
  have hk2:k < G.cars.length:=by rw [← tick_len G]; exact hk
  obtain ⟨y,g1,_,g3⟩:=tick_at (List.getElem?_eq_getElem hk2)
  have e:(tickG G).cars[k]=tkV G.c y:=Option.some.inj ((List.getElem?_eq_getElem hk).symm.trans g3)
  rw [e,← h1]
  have:=(ha y (List.mem_of_getElem? g1)).tick
  rw [h1] at this ⊢; exact this
 ·have key:∀ i,∀ b∈(asgN G.c G.waits G.cars i).1,okW b:=by
   intro i
   induction i with
   | zero=>exact h4
   | succ i ih =>
    show ∀ b∈(asgStep G.c _ i).1,okW b
    unfold asgStep
    split
    ·exact ih
    ·rename_i z hz
     split
     ·intro b hb
      rcases List.mem_or_eq_of_mem_set hb with h | h
      ·exact ih b h
      ·rw [h]; exact ih z (List.mem_of_getElem? hz)
     ·exact ih
  exact key _ a (hw.subset haw)
end Gr
namespace Gr
open Go.RowKit Ba Mem Go.Proofs.YtpiiblkiddcgcaaGreat.Ty Mo Go.Proofs.YtpiiblkiddcgcaaGreat.St
section
variable {c:CfgV} {n T:Nat} {G:GrV}
theorem GI.give (h:GI c n T G) (i:Int):GI c n T (giveR G i).1:=by
 unfold giveR
 refine h.one _ _ fun x _ hx=>?_
 show SafeX c T (givX G.c x)
 unfold givX
 by_cases hi:x.mo=1
 ·rw [if_pos hi,h.1]; exact hx.giv
 ·rw [if_neg hi]; exact hx
theorem GI.aim (h:GI c n T G) (i b:Int) (y:Bool):GI c n T (aimR G i b y).1:=by
 unfold aimR; split
 ·rename_i hf
  refine h.one _ _ fun x _ hx=>?_
  show SafeX c T (aimX b y x)
  unfold aimX
  by_cases hi:x.mo=1
  ·rw [if_pos hi]; exact hx.aim (h.1 ▸ hf)
  ·rw [if_neg hi]; exact hx
 ·exact h
theorem GI.take (h:GI c n T G) (i b:Int):GI c n T (takeR G i b).1:=by
 unfold takeR; split
 ·rename_i hf
  refine h.one _ _ fun x _ hx=>?_
  show SafeX c T (takeX b x)
  unfold takeX
  by_cases hi:idB x=true
  ·rw [if_pos hi]; exact hx.take (h.1 ▸ hf) hi
  ·rw [if_neg hi]; exact hx
 ·exact h
theorem GI.load (h:GI c n T G) (i v:Int):GI c n T (loadR G i v).1:=h.one _ _ fun _ _ hx=>hx.load v
theorem one_w (i:Int) (f:CarV→CarV×Int):(one G i f).1.waits=G.waits∧(one G i f).1.now=G.now∧(one G i f).1.cars.length=G.cars.length:=(one_same (G:=G) (i:=i) (f:=f)).2
theorem give_w (i:Int):(giveR G i).1.waits=G.waits∧(giveR G i).1.now=G.now:=⟨(one_w _ _).1,(one_w _ _).2.1⟩
theorem aim_w (i b:Int) (y:Bool):(aimR G i b y).1.waits=G.waits∧(aimR G i b y).1.now=G.now:=by
 unfold aimR; split
 ·exact ⟨(one_w _ _).1,(one_w _ _).2.1⟩
 ·exact ⟨rfl,rfl⟩
theorem take_w (i b:Int):(takeR G i b).1.waits=G.waits∧(takeR G i b).1.now=G.now:=by
 unfold takeR; split
 ·exact ⟨(one_w _ _).1,(one_w _ _).2.1⟩
 ·exact ⟨rfl,rfl⟩
theorem load_w (i v:Int):(loadR G i v).1.waits=G.waits∧(loadR G i v).1.now=G.now:=⟨(one_w _ _).1,(one_w _ _).2.1⟩
end
def SameW (a b:WaitV):Prop:=b.fl=a.fl∧b.wy=a.wy∧b.si=a.si
theorem asg_same (c:CfgV) (ws:List WaitV) (cs:List CarV):∀ i,∀ b∈(asgN c ws cs i).1,∃ a∈ws,SameW a b
 | 0=>fun b hb=>⟨b,hb,rfl,rfl,rfl⟩
 | i+1=>by
  have ih:=asg_same c ws cs i
  show ∀ b∈(asgStep c _ i).1,_
  unfold asgStep
  split
  ·exact ih
  ·rename_i z hz
   split
   ·intro b hb
    rcases List.mem_or_eq_of_mem_set hb with h | h
    ·exact ih b h
    ·obtain ⟨a,h1,h2⟩:=ih z (List.mem_of_getElem? hz)
     exact ⟨a,h1,by rw [h]; exact h2⟩
   ·exact ih
theorem tick_same {G:GrV}:∀ b∈(tickG G).waits,∃ a∈G.waits,SameW a b:=fun b hb =>
 asg_same G.c G.waits G.cars G.waits.length b ((tkN_sub _ _ _ _).subset hb)
end Gr
namespace Co
open Go.RowKit Ba Mem En Go.Proofs.YtpiiblkiddcgcaaGreat.Ty Mo Go.Proofs.YtpiiblkiddcgcaaGreat.St
open Gr (GrV newG okT okW GI ncars ncars_bd tickG giveR aimR takeR loadR)
open Qu (dropL atS btw firstA atF)
open Le (hasL ofL setL setE endL zeroL atP isS isT)
open Fl (mayB belB)
open Ri (MsgV tickV hearV)
open Tm (cl cl_lo cl_hi)
structure KI (c:CfgV) (n T m:Nat) (K:KV):Prop where
 g:GI c n T K.G
 s:∀ a∈K.G.waits,0≤a.si∧a.si≤1099511627776
 now:0≤K.G.now∧K.G.now≤1099511627776
 lq:K.Q.length≤64
 okq:∀ a∈K.Q,mayB c a=true
 ll:K.L.length≤m
 okl:∀ l∈K.L,0≤l.ca∧l.ca < (ncars c:Int)
theorem may_fm {c:CfgV} {a:AskV} (h:mayB c a=true):(0≤a.fm∧a.fm < fl c.fl)∧(0≤a.to∧a.to < fl c.fl):=by
 unfold mayB belB at h
 simp only [Bool.and_eq_true,decide_eq_true_eq] at h
 exact ⟨h.1.1.1.1.2,h.1.1.1.2⟩
theorem has_mem {ls:List LeaseV} {s:Int} (h:hasL ls s=true):ofL ls s∈ls∧(ofL ls s).se=s:=by
 unfold hasL at h
 cases hk:atP ls (isS s) with
 | none=>rw [hk] at h; cases h
 | some k =>
  obtain ⟨hl,h1,_⟩:=Le.atP_some hk
  have e:ofL ls s=ls[k]:=by unfold ofL Le.atV; rw [hk]; simp [List.getD,hl]
  have:=h1 hl
  rw [e]
  exact ⟨List.getElem_mem hl,by simpa [isS] using this⟩
theorem end_sub (ls:List LeaseV) (s:Int):(endL ls s).Sublist ls:=by
 unfold endL; split
 ·exact List.eraseIdx_sublist _ _
 ·exact List.Sublist.refl _
theorem set_len (c:CfgV) (ls:List LeaseV) (x:LeaseV):(setL c ls x).length=ls.length:=by
 unfold setL; split
 ·split <;> simp
 ·rfl
theorem set_mem {c:CfgV} {ls:List LeaseV} {x y:LeaseV} (h:y∈setL c ls x):y∈ls∨y=x:=by
 unfold setL at h; split at h
 ·split at h
  ·exact List.mem_or_eq_of_mem_set h
  ·exact .inl h
 ·exact .inl h
theorem drop_sub (ls:List AskV) (s:Int):(dropL ls s).Sublist ls:=by
 unfold dropL; split
 ·exact List.eraseIdx_sublist _ _
 ·exact List.Sublist.refl _
theorem tickV_ca (c:CfgV) (l:LeaseV) (x:CarV) (now:Int):(tickV c l x now).1.ca=l.ca∧(tickV c l x now).1.se=l.se:=by
 unfold tickV; (repeat' split) <;> exact ⟨rfl,rfl⟩
theorem hearV_ca (c:CfgV) (l:LeaseV) (x:CarV) (now:Int) (m:MsgV):(hearV c l x now m).1.ca=l.ca∧(hearV c l x now m).1.se=l.se:=by
 unfold hearV; (repeat' split) <;> exact ⟨rfl,rfl⟩
section
variable {c:CfgV} {n T m:Nat} {K:KV}
theorem KI.len (h:KI c n T m K):K.G.cars.length=ncars c:=h.g.2.1
theorem KI.inc (h:KI c n T m K) {l:LeaseV} (hl:0≤l.ca∧l.ca < (ncars c:Int)):inC K l:=by unfold inC; rw [h.len]; exact hl
theorem KI.kh (h:KI c n T m K) (hn:n≤10000) (hT:T≤1000000) (hm:m≤10000):KH K:=by
 have hb:=ncars_bd c
 refine ⟨fun x hx=>(h.g.2.2.1 x hx).ok hT,h.g.2.2.2.1,h.s,h.now,by rw [h.len]; omega,by rw [h.len]; omega,by have:=h.g.2.2.2.2; omega,by have:=h.lq; omega,fun a ha=>?_,by have:=h.ll; omega,fun l hl=>h.inc (h.okl l hl)⟩
 have:=(may_fm (h.okq a ha)).1
 have:=fl_hi c.fl
 omega
theorem KI.new (c:CfgV):KI c 0 0 0 (newK c) :=
 ⟨GI.zero c,(by intro a ha; simp [newK,newG] at ha),(by show (0:Int)≤0∧(0:Int)≤_; omega),by simp [newK],(by intro a ha; simp [newK] at ha),by simp [newK],(by intro a ha; simp [newK] at ha)⟩
theorem KI.more {n' T' m':Nat} (h:KI c n T m K) (h1:n≤n') (h2:T≤T') (h3:m≤m'):KI c n' T' m' K :=
 ⟨⟨h.g.1,h.g.2.1,fun x hx=>(h.g.2.2.1 x hx).more h2,h.g.2.2.2.1,Nat.le_trans h.g.2.2.2.2 h1⟩,h.s,h.now,h.lq,h.okq,Nat.le_trans h.ll h3,h.okl⟩
theorem put_mem {r:Int} {ls:List AskV} {a b:AskV} (h:b∈Qu.putL r ls a):b∈ls∨b=a:=by
 unfold Qu.putL at h; split at h
 ·rcases List.mem_append.1 h with h | h
  ·exact .inl h
  ·exact .inr (List.mem_singleton.1 h)
 ·exact .inl h
theorem put_len {r:Int} {ls:List AskV} {a:AskV} (hr:r≤64) (hl:ls.length≤64):(Qu.putL r ls a).length≤64:=by
 unfold Qu.putL; split
 ·rename_i h
  unfold Qu.putE at h
  split at h
  ·cases h
  ·split at h
   ·cases h
   ·rw [List.length_append]; simp; omega
 ·exact hl
theorem room_le (K:KV):room K≤64:=by unfold room btw; repeat' split <;> omega
theorem KI.ans (h:KI c n T m K) (a:AskV):KI c n T m (ansK K a):=by
 unfold ansK ansQ
 refine ⟨h.g,h.s,h.now, ?_, ?_,h.ll,h.okl⟩
 ·show (if _ then _ else _:List AskV).length≤64
  split
  ·split
   ·exact h.lq
   ·exact put_len (room_le K) h.lq
  ·exact h.lq
 ·intro b hb
  change b∈(if _ then _ else _:List AskV) at hb
  split at hb
  ·rename_i hm
   split at hb
   ·exact h.okq b hb
   ·rcases put_mem hb with hb | rfl
    ·exact h.okq b hb
    ·rw [← h.g.1]; exact hm
  ·exact h.okq b hb
theorem KI.end_ (h:KI c n T m K) (s:Int):KI c n T m (endK K s):=by
 unfold endK; split
 ·refine ⟨h.g.give _,by rw [(Gr.give_w _).1]; exact h.s,by rw [(Gr.give_w _).2]; exact h.now,h.lq,h.okq,Nat.le_trans (end_sub _ _).length_le h.ll,fun l hl=>h.okl l ((end_sub _ _).subset hl)⟩
 ·exact h
theorem KI.set (h:KI c n T m K) (l:LeaseV) (o:Bool) (hl:0≤l.ca∧l.ca < (ncars c:Int)):KI c n T m (setK K l o):=by
 unfold setK; split
 ·exact h.end_ _
 ·refine ⟨h.g.aim _ _ _,by rw [(Gr.aim_w _ _ _).1]; exact h.s,by rw [(Gr.aim_w _ _ _).2]; exact h.now,h.lq,h.okq,by show (setL _ _ _).length≤m; rw [set_len]; exact h.ll,fun y hy=>?_⟩
  rcases set_mem hy with hy | rfl
  ·exact h.okl y hy
  ·exact hl
theorem KI.hear (h:KI c n T m K) (s:Int) (x:MsgV):KI c n T m (hearK K s x):=by
 unfold hearK; split
 ·rename_i hL
  refine h.set _ _ ?_
  unfold hearR
  rw [(hearV_ca _ _ _ _ _).1]
  exact h.okl _ (has_mem hL).1
 ·exact h
theorem KI.gone (h:KI c n T m K) (s:Int):KI c n T m (goneK K s):=by
 have q:=h.end_ s
 exact ⟨q.g,q.s,q.now,Nat.le_trans (drop_sub _ _).length_le h.lq,fun a ha=>h.okq a ((drop_sub _ _).subset ha),q.ll,q.okl⟩
theorem KI.tk1 (h:KI c n T m K):KI c n (T+1) m (tkK1 K):=by
 refine ⟨h.g.tick,fun b hb=>?_,⟨cl_lo _,cl_hi _⟩,h.lq,h.okq,h.ll,h.okl⟩
 obtain ⟨a,ha,h1,h2,h3⟩:=Gr.tick_same b hb
 rw [h3]; exact h.s a ha
theorem fold_inv {K0:KV} (ls:List LeaseV) (hls:∀ l∈ls,0≤l.ca∧l.ca < (ncars c:Int)):∀ x:KV×List EvV,KI c n T m x.1→KI c n T m (ls.foldl stepK x).1:=by
 induction ls with
 | nil=>intro x h; exact h
 | cons l r ih =>
  intro x h
  rw [List.foldl_cons]
  refine ih (fun l hl=>hls l (List.mem_cons_of_mem _ hl)) _ ?_
  unfold stepK stepR
  refine h.set _ _ ?_
  rw [(tickV_ca _ _ _ _).1]
  exact hls l (List.mem_cons_self ..)
theorem fold_ev (ls:List LeaseV):∀ x:KV×List EvV,(ls.foldl stepK x).2.length≤x.2.length+ls.length:=by
 induction ls with
 | nil=>intro x; simp
 | cons l r ih =>
  intro x
  rw [List.foldl_cons]
  have h1:=ih (stepK x l)
  have h2:(stepK x l).2.length≤x.2.length+1:=by
   unfold stepK evs
   rw [List.length_append,List.length_map]
   have:(stepR x.1 l).2.1.toList.length≤1:=by cases (stepR x.1 l).2.1 <;> simp
   show x.2.length+(stepR x.1 l).2.1.toList.length≤_
   omega
  rw [List.length_cons]
  omega
theorem KI.fold (h:KI c n T m K) (k:Nat):KI c n (T+1) m (foldK K k).1 :=
 fold_inv (K0:=K) _ (fun l hl=>h.okl l (List.mem_of_mem_take hl)) _ h.tk1
theorem KI.grant (h:KI c n T m K):KI c n T (m+1) (grantK K):=by
 unfold grantK; split
 ·exact h.more (Nat.le_refl _) (Nat.le_refl _) (Nat.le_succ _)
 ·rename_i a ha
  unfold grK
  refine ⟨h.g.take _ _,by rw [(Gr.take_w _ _).1]; exact h.s,by rw [(Gr.take_w _ _).2]; exact h.now,Nat.le_trans (drop_sub _ _).length_le h.lq,fun b hb=>h.okq b ((drop_sub _ _).subset hb), ?_,fun y hy=>?_⟩
  ·show (Le.putL _ _ _).length≤m+1
   unfold Le.putL; split
   ·rw [List.length_append]; have:=h.ll; simp; omega
   ·have:=h.ll; omega
  ·change y∈Le.putL _ _ _ at hy
   unfold Le.putL at hy; split at hy
   ·rename_i he
    rcases List.mem_append.1 hy with hy | hy
    ·exact h.okl y hy
    ·rw [List.mem_singleton.1 hy]
     unfold grA at ha
     split at ha
     ·cases ha
     ·split at ha
      ·split at ha
       ·cases ha
       ·rename_i hn
        have:=Option.some.inj ha
        subst this
        have hb:∀ k,(nrL (firstA K.Q (fullL K 8)).fm K.G.cars k).1 < (K.G.cars.length:Int):=by
         intro k
         induction k with
         | zero=>have:=h.len; have:=ncars_bd c; show (-1:Int) < _; omega
         | succ k ih =>
          unfold nrL
          split
          ·exact ih
          ·rename_i x hx
           have:=(List.getElem?_eq_some_iff.1 hx).1
           split
           ·show (k:Int) < _; omega
           ·exact ih
        have:=hb K.G.cars.length
        rw [h.len] at this
        show 0≤nearI K _∧nearI K _ < _
        unfold nearI at hn ⊢
        rw [h.len] at hn ⊢
        omega
      ·cases ha
   ·exact h.okl y hy
theorem KI.tick (h:KI c n T m K):KI c n (T+1) (m+1) (tickK K):=(h.fold _).grant
theorem KI.kt (h:KI c n T m K) (hn:n≤10000) (hT:T < 1000000) (hm:m≤10000):KT K :=
 ⟨h.kh hn (by omega) hm,fun k _=>(h.fold k).kh hn (by omega) hm,fun k l hl _=>(h.fold k).inc (h.okl l hl),fun k hk=>by
  have:=fold_ev (K.L.take k) (tkK1 K,[])
  rw [List.length_take] at this
  simp at this
  unfold foldK
  omega⟩
end
end Co
namespace Co
open Go.RowKit Ba Mem En Go.Proofs.YtpiiblkiddcgcaaGreat.Ty Mo Go.Proofs.YtpiiblkiddcgcaaGreat.St
open Gr (GrV GO CarsAt WaitsAt newG okT okW waitsO tickP)
open Qu (QO askE qO)
open Le (TO tO)
open Fl (leaE)
open Ri (MsgV msgC)
set_option maxRecDepth 100000
attribute [local irreducible] Go.Calls
def cA:CfgV:=⟨2,5,2,4,2,3,9,1,30,2,1,300,5,0,0,0,0,0⟩
theorem configT (w:World):Calls Tryz.prog 73 #[] w fun e w'=>e=.returned ((aCfg cA))∧Since w w':=by
 refine ent tab_ok [] Tryz.func73 Tryz.ntmps73 rfl rfl ?_
 repeat' (first | refine gs_ ?_|((conv=>whnf); first | intro b | refine fin_s ?_))
 all_goals rfl
def aA:AskV:=⟨1,0,1,2,50⟩
def kA1:KV:=ansK (newK cA) aA
theorem an1:ansM (newK cA) aA=⟨5,0,0,0⟩:=by
 have h:(ansM (newK cA) aA).ki=5∧(ansM (newK cA) aA).a=0∧(ansM (newK cA) aA).b=0∧(ansM (newK cA) aA).c=0:=by decide +kernel
 obtain ⟨h1,h2,h3,h4⟩:=h
 cases e:ansM (newK cA) aA
 rw [e] at h1 h2 h3 h4
 subst h1 h2 h3 h4; rfl
theorem an2:(tickE kA1).length=1∧(tickK kA1).L.length=1∧(tickK kA1).Q.length=0:=by decide +kernel
theorem one_of {α β:Type} {f:α→β} {l:List α} {b:β} (h:l.map f=[b]):∃ a,l=[a]∧f a=b:=by
 cases l with
 | nil=>simp at h
 | cons a r =>
  cases r with
  | nil=>simp at h; exact ⟨a,rfl,h⟩
  | cons=>simp at h
theorem an3:∃ e,tickE kA1=[e]∧e=⟨1,⟨4,0,0,0⟩⟩:=by
 have h:(tickE kA1).map (fun e=>(e.s,e.m.ki,e.m.a,e.m.b,e.m.c))=[(1,4,0,0,0)]:=by decide +kernel
 obtain ⟨e,h1,h2⟩:=one_of h
 refine ⟨e,h1, ?_⟩
 obtain ⟨s,k,a,b,c⟩:=e
 simp at h2
 obtain ⟨rfl,rfl,rfl,rfl,rfl⟩:=h2
 rfl
theorem an4:∃ l,(tickK kA1).L=[l]∧l.ph=1:=by
 have h:(tickK kA1).L.map (fun l=>l.ph)=[1]:=by decide +kernel
 exact one_of h
theorem kt1:KT kA1:=((KI.new cA).ans aA).kt (by decide) (by decide) (by decide)
theorem kl2:(tickK kA1).L.length≤10000∧(tickK kA1).Q.length≤10000∧kA1.L.length≤10000∧(newK cA).Q.length≤1000∧(newK cA).L.length≤10000:=by decide +kernel
theorem toEg {P:Program} {F:FuncId} {args:Array Value} {w:World} {n:Nat} {es:List EvV} {S:List Nat} {Φ:List Nat→World→Prop} (hn:0 < n) (h:Calls P F args w fun e w'=>∃ x:List Nat×Nr,e=.returned (.slice x.2.2.1 n x.2.2.2)∧Φ x.1 w'∧(rwO evE x.2.1 x.2.2.1 n x.2.2.2 es true).st w'∧Upd S w w'∧(∀ g∈x.1,g∈S∨w.heap.size≤g)∧∀ g∈blkOf x.2.2.1,w.heap.size≤g∧g∉x.1) :
  Calls P F args w fun e w'=>∃ x:List Nat×Nat×Nat×Nat,e=.returned (.slice (some ⟨x.2.2.1,0,none⟩) n x.2.2.2)∧Φ x.1 w'∧(rwO evE x.2.1 (some ⟨x.2.2.1,0,none⟩) n x.2.2.2 es true).st w'∧Upd S w w'∧(∀ g∈x.1,g∈S∨w.heap.size≤g)∧∀ g∈(rwO evE x.2.1 (some ⟨x.2.2.1,0,none⟩) n x.2.2.2 es true).F,w.heap.size≤g∧g∉x.1:=by
 refine h.mono ?_
 rintro e w' ⟨⟨S',lo,A,c⟩,rfl,h1,h2,h3⟩
 obtain ⟨g,hA⟩:=own_addr h2 hn
 have hA:A=some ⟨g,0,none⟩:=hA
 subst hA
 exact ⟨(S',lo,g,c),rfl,h1,h2,h3⟩
theorem toTg {P:Program} {F:FuncId} {args:Array Value} {w:World} {n k:Nat} {es:List EvV} {ws:List Gr.WaitV} {S:List Nat} {Φ:List Nat→World→Prop} (hn:0 < n) (h:Calls P F args w fun e w'=>∃ x:List Nat×Nr×Nr,e=.returned (.tuple #[.slice x.2.1.2.1 n x.2.1.2.2,.slice x.2.2.2.1 k x.2.2.2.2])∧Φ x.1 w'∧(rwO evE x.2.1.1 x.2.1.2.1 n x.2.1.2.2 es true).st w'∧(waitsO x.2.2.1 x.2.2.2.1 k x.2.2.2.2 ws true).st w'∧Upd S w w'∧(∀ g∈x.1,g∈S∨w.heap.size≤g)∧(∀ g∈blkOf x.2.1.2.1,w.heap.size≤g∧g∉x.1)∧(∀ g∈blkOf x.2.2.2.1,w.heap.size≤g∧g∉x.1)∧∀ g∈blkOf x.2.1.2.1,g∉blkOf x.2.2.2.1) :
  Calls P F args w fun e w'=>∃ x:List Nat×(Nat×Nat×Nat)×Nr,e=.returned (.tuple #[.slice (some ⟨x.2.1.2.1,0,none⟩) n x.2.1.2.2,.slice x.2.2.2.1 k x.2.2.2.2])∧Φ x.1 w'∧(rwO evE x.2.1.1 (some ⟨x.2.1.2.1,0,none⟩) n x.2.1.2.2 es true).st w'∧(waitsO x.2.2.1 x.2.2.2.1 k x.2.2.2.2 ws true).st w'∧Upd S w w'∧(∀ g∈x.1,g∈S∨w.heap.size≤g)∧(∀ g∈(rwO evE x.2.1.1 (some ⟨x.2.1.2.1,0,none⟩) n x.2.1.2.2 es true).F,w.heap.size≤g∧g∉x.1)∧(∀ g∈(waitsO x.2.2.1 x.2.2.2.1 k x.2.2.2.2 ws true).F,w.heap.size≤g∧g∉x.1)∧∀ g∈(rwO evE x.2.1.1 (some ⟨x.2.1.2.1,0,none⟩) n x.2.1.2.2 es true).F,g∉(waitsO x.2.2.1 x.2.2.2.1 k x.2.2.2.2 ws true).F:=by
 refine h.mono ?_
 rintro e w' ⟨⟨S',⟨lo,A,c⟩,y⟩,rfl,h1,h2,h3⟩
 obtain ⟨g,hA⟩:=own_addr h2 hn
 have hA:A=some ⟨g,0,none⟩:=hA
 subst hA
 exact ⟨(S',(lo,g,c),y),rfl,h1,h2,h3⟩
attribute [local irreducible] newK ansK tickK tickE ansM tickP
set_option maxHeartbeats 4000000 in
theorem ansT (w:World):Calls Tryz.prog 23 #[] w fun e w'=>e=.returned (.bool true)∧Since w w':=by
 obtain ⟨ev,hev,he⟩:=an3
 obtain ⟨l,hl,hph⟩:=an4
 obtain ⟨k1,k2,k3,k4,k5⟩:=kl2
 subst he
 have hQ:(tickK kA1).Q.length=0:=an2.2.2
 have hL1:(tickK kA1).L.length=1:=an2.2.1
 have hE1:(tickE kA1).length=1:=an2.1
 refine ent tab_ok [] Tryz.func23 Tryz.ntmps23 rfl rfl ?_
 repeat' (first | refine gs_ ?_|((conv=>whnf); first | intro b | refine bto ?_|refine bfo ?_|refine callS (f:=73) (.a (sCfg cA)) (configT) ?_|refine callN (f:=14) (ι:={x:Nat×Nat×Pt×List Nat // w.heap.size≤x.1}) (fun x=>.v (.pointer (some ⟨x.1.2.1,0,none⟩))) (fun x=>kO x.1.1 x.1.2.1 x.1.2.2.1 (newK cA) x.1.2.2.2 true) (fun w1 hH=>(newW cA w1).mono (by rintro e w' ⟨q,p,S',rfl,h1,h2⟩; exact ⟨⟨(w1.heap.size,q,p,S'),hH.upd.size⟩,rfl,h1,h2,h1.low⟩)) (fun x=>?_)|refine callON (f:=66) (A:=kO x.1.1 x.1.2.1 x.1.2.2.1 (newK cA) x.1.2.2.2 true) 0 (ι:=List Nat×Nat×Nat×Nat) (fun y=>.v (.slice (some ⟨y.2.2.1,0,none⟩) 1 y.2.2.2)) (fun y=>kO x.1.1 x.1.2.1 x.1.2.2.1 kA1 y.1 true) (fun y=>rwO evE y.2.1 (some ⟨y.2.2.1,0,none⟩) 1 y.2.2.2 (evs 1 [⟨5,0,0,0⟩]) true) (fun w1 hH hA=>toEg (Φ:=fun S'=>KW x.1.1 x.1.2.1 x.1.2.2.1 kA1 S') (by decide) (by have:=Co.askK hA k4 k5 aA; rw [an1] at this; exact this)) (fun y=>?_)|refine callO2N (f:=16) (A:=kO x.1.1 x.1.2.1 x.1.2.2.1 kA1 y.1 true) 0 (ι:=List Nat×(Nat×Nat×Nat)×Nr) (fun z=>.t [.v (.slice (some ⟨z.2.1.2.1,0,none⟩) 1 z.2.1.2.2),.v (.slice z.2.2.2.1 (tickP kA1.G).2.2.length z.2.2.2.2)]) (fun z=>kO x.1.1 x.1.2.1 x.1.2.2.1 (tickK kA1) z.1 true) (fun z=>rwO evE z.2.1.1 (some ⟨z.2.1.2.1,0,none⟩) 1 z.2.1.2.2 (tickE kA1) true) (fun z=>waitsO z.2.2.1 z.2.2.2.1 (tickP kA1.G).2.2.length z.2.2.2.2 (tickP kA1.G).2.2 true) (fun w1 hH hA=>toTg (Φ:=fun S'=>KW x.1.1 x.1.2.1 x.1.2.2.1 (tickK kA1) S') (by decide) (by have:=Co.tickW hA kt1; rw [hE1] at this; exact this)) (fun z=>?_)|refine callN (f:=63) (ι:=NgA w.heap.size) (fun u=>.v (.slice (some ⟨u.1.2.1,0,none⟩) 1 u.1.2.2)) (fun u=>rwO leaE u.1.1 (some ⟨u.1.2.1,0,none⟩) 1 u.1.2.2 (tickK kA1).L true) (fun w1 hH=>toNg (by decide) (by have:=leasesK (Hold.ob hH (A:=kO x.1.1 x.1.2.1 x.1.2.2.1 (tickK kA1) z.1 true) 0 rfl) k1; rw [hL1] at this; exact this) hH.upd.size) (fun u=>?_)|refine callN (f:=65) (ι:=NrA w.heap.size) (fun v=>.v (.slice v.1.2.1 0 v.1.2.2)) (fun v=>rwO askE v.1.1 v.1.2.1 0 v.1.2.2 (tickK kA1).Q true) (fun w1 hH=>toN (by have:=queueK (Hold.ob hH (A:=kO x.1.1 x.1.2.1 x.1.2.2.1 (tickK kA1) z.1 true) 0 rfl) k2; rw [hQ] at this; exact this) hH.upd.size) (fun v=>?_)|refine opiv ⟨tab_ok⟩ (by rfl) (by rfl) (by rfl) (by rfl) (by rfl) (by rfl) ⟨by decide,by decide⟩ ?_|refine opfv ⟨tab_ok⟩ (by rfl) (by rfl) (by rfl) (by rfl) ?_|refine opix (g:=y.2.2.1) (off:=0+0*5+1) [.i .i64 5,.i .i64 0,.i .i64 0,.i .i64 0] (fun w hH=>rng_sub (n:=4) (Ek.rng (k:=0) (Hold.ob hH (A:=rwO evE y.2.1 (some ⟨y.2.2.1,0,none⟩) 1 y.2.2.2 (evs 1 [⟨5,0,0,0⟩]) true) 1 rfl) rfl) rfl) ⟨tab_ok⟩ (by rfl) (by rfl) (by simp only [Go.WideShapes.add_plain]; rfl) ?_|refine opix (g:=z.2.1.2.1) (off:=0+0*5) [.i .i64 1,.i .i64 4,.i .i64 0,.i .i64 0,.i .i64 0] (fun w hH=>Ek.rng (k:=0) (x:=EvV.mk 1 ⟨4,0,0,0⟩) (Hold.ob hH (A:=rwO evE z.2.1.1 (some ⟨z.2.1.2.1,0,none⟩) 1 z.2.1.2.2 (tickE kA1) true) 2 rfl) (by rw [hev]; rfl)) ⟨tab_ok⟩ (by rfl) (by rfl) (by simp only [Go.WideShapes.add_plain]; rfl) ?_|refine opxc (g:=u.1.2.1) (off:=0+0*10+6) (.i .i64 1) (fun w hH=>rng_sub (n:=1) (Ek.rng (k:=0) (x:=l) (Hold.ob hH (A:=rwO leaE u.1.1 (some ⟨u.1.2.1,0,none⟩) 1 u.1.2.2 (tickK kA1).L true) 4 rfl) (by rw [hl]; rfl)) (by show [Value.int .i64 l.ph]=_; rw [hph]; rfl)) ⟨tab_ok⟩ (by rfl) (by rfl) (by simp only [Go.WideShapes.add_plain]; rfl) ?_|refine fin_s ?_))
 all_goals (conv=>whnf)
 all_goals rfl
end Co
namespace En
open Go.RowKit Ba Mem
def Ek.Rd {α:Type} (E:Ek α) (a:Option Addr) (n:Nat) (ls:Nat→α) (w:World):Prop :=
 n=0∨∃ b off,a=some ⟨b,off,none⟩∧b < w.heap.size∧∀ i,i < n→∀ j v,(E.c (ls i))[j]?=some v→w.cell? ⟨b,off+i*E.k+j,none⟩=some v
theorem upd_cell {T:List Nat} {w w':World} {b i:Nat} {v:Value} (k:Upd T w w') (hb:b < w.heap.size) (hT:b∉T) (h:w.cell? ⟨b,i,none⟩=some v):w'.cell? ⟨b,i,none⟩=some v:=by
 have:=k.block b hb hT
 unfold World.cell? at h ⊢
 rw [this]; exact h
def rdF (a:Option Addr) (n:Nat):List Nat:=match n with | 0=>[] | _+1=>blkOf a
def rdO {α:Type} (E:Ek α) (a:Option Addr) (n:Nat) (ls:Nat→α):Asr:=⟨rdF a n,false,E.Rd a n ls,fun k h hs=>by
 rcases hs with rfl | ⟨b,off,rfl,hb,hc⟩
 ·exact .inl rfl
 ·cases n with
  | zero=>exact .inl rfl
  | succ n=>exact .inr ⟨b,off,rfl,Nat.lt_of_lt_of_le hb k.size,fun i hi j v hj=>upd_cell k hb (h b (by simp [rdF,blkOf])) (hc i hi j v hj)⟩,fun h g hg=>by
 cases n with
 | zero=>cases hg
 | succ n =>
  rcases h with h | ⟨b,off,rfl,hb,hc⟩
  ·cases h
  ·have:g=b:=by simpa [rdF,blkOf] using hg
   omega⟩
theorem Ek.rd_addr {α:Type} {E:Ek α} {a:Option Addr} {n:Nat} {ls:Nat→α} {w:World} (h:E.Rd a n ls w):∃ b off,0 < n→a=some ⟨b,off,none⟩:=by
 rcases h with rfl | ⟨b,off,rfl,_⟩
 ·exact ⟨0,0,fun h=>by omega⟩
 ·exact ⟨b,off,fun _=>rfl⟩
theorem Ek.rd_rng {α:Type} {E:Ek α} {b off n k:Nat} {ls:Nat→α} {w:World} (h:E.Rd (some ⟨b,off,none⟩) n ls w) (hk:k < n):w.rangeAt b (off+k*E.k) (E.c (ls k)):=fun j v hj=>by
 rcases h with rfl | ⟨b',off',e,_,hc⟩
 ·omega
 ·cases e; exact hc k hk j v hj
end En
namespace Lc
open Go.RowKit Ba Mem En Go.Proofs.YtpiiblkiddcgcaaGreat.Ty
open Ri (MsgV)
structure KopV where
 k:Int
 a:Int
 b:Int
 q:AskV
 m:MsgV
def kopC (o:KopV):List Value:=[.int .i64 o.k,.int .i64 o.a,.int .i64 o.b,.int .i64 o.q.se,.int .i64 o.q.fl,.int .i64 o.q.fm,.int .i64 o.q.to,.int .i64 o.q.ma,.int .i64 o.m.ki,.int .i64 o.m.a,.int .i64 o.m.b,.int .i64 o.m.c]
instance:Inhabited KopV:=⟨⟨0,0,0,⟨0,0,0,0,0⟩,⟨0,0,0,0⟩⟩⟩
def kopE:Ek KopV:=⟨50,12,kopC,fun _=>rfl,by
 intro a u hu
 simp only [kopC,List.mem_cons,List.not_mem_nil,or_false] at hu
 rcases hu with rfl | rfl | rfl | rfl | rfl | rfl | rfl | rfl | rfl | rfl | rfl | rfl <;> rfl⟩
set_option maxRecDepth 100000
section
variable {H:Type} {enc:TypeId×Value→H} {w:World} {base:Nat} {spare:Nat→Bool} {held:Bool}
theorem msg_of {fuel:Nat} {cs:List Value} {x:DataW H×List MemPlace} (h:DataW.trod enc Tryz.prog w base spare held fuel 48 cs=some x):∃ l:MsgV,cs=[.int .i64 l.ki,.int .i64 l.a,.int .i64 l.b,.int .i64 l.c]:=by
 have e1:Tryz.prog.cellsOf 3=1:=by kernel_rfl
 obtain ⟨xs,n,rfl,_,hl,hx,hf⟩:=DataW.trod_struct Tryz.underlying48 h
 have hl':cs.length=4:=hl.trans (by kernel_rfl)
 match cs,hl' with
 | [a0,a1,a2,a3],_ =>
  have hx':xs.length=4:=hx
  match xs,hx' with
  | [y0,y1,y2,y3],_ =>
   have g0:=hf 0 _ rfl
   have g1:=hf 1 _ rfl
   have g2:=hf 2 _ rfl
   have g3:=hf 3 _ rfl
   simp [e1] at g0 g1 g2 g3
   obtain ⟨v0,q0,_⟩:=DataW.trod_int Tryz.underlying3 g0
   obtain ⟨v1,q1,_⟩:=DataW.trod_int Tryz.underlying3 g1
   obtain ⟨v2,q2,_⟩:=DataW.trod_int Tryz.underlying3 g2
   obtain ⟨v3,q3,_⟩:=DataW.trod_int Tryz.underlying3 g3
   simp at q0 q1 q2 q3
   exact ⟨⟨v0,v1,v2,v3⟩,by simp [*]⟩
theorem kop_of {fuel:Nat} {cs:List Value} {x:DataW H×List MemPlace} (h:DataW.trod enc Tryz.prog w base spare held fuel 50 cs=some x):∃ o:KopV,cs=kopC o:=by
 have e1:Tryz.prog.cellsOf 3=1:=by kernel_rfl
 have e5:Tryz.prog.cellsOf 46=5:=by kernel_rfl
 have e4:Tryz.prog.cellsOf 48=4:=by kernel_rfl
 obtain ⟨xs,n,rfl,_,hl,hx,hf⟩:=DataW.trod_struct Tryz.underlying50 h
 have hl':cs.length=12:=hl.trans (by kernel_rfl)
 match cs,hl' with
 | [a0,a1,a2,a3,a4,a5,a6,a7,a8,a9,a10,a11],_ =>
  have hx':xs.length=5:=hx
  match xs,hx' with
  | [y0,y1,y2,y3,y4],_ =>
   have g0:=hf 0 _ rfl
   have g1:=hf 1 _ rfl
   have g2:=hf 2 _ rfl
   have g3:=hf 3 _ rfl
   have g4:=hf 4 _ rfl
   simp [e1,e5,e4] at g0 g1 g2 g3 g4
   obtain ⟨v0,q0,_⟩:=DataW.trod_int Tryz.underlying3 g0
   obtain ⟨v1,q1,_⟩:=DataW.trod_int Tryz.underlying3 g1
   obtain ⟨v2,q2,_⟩:=DataW.trod_int Tryz.underlying3 g2
   obtain ⟨qa,hq⟩:=Al.ask_of g3
   obtain ⟨ma,hm⟩:=msg_of g4
   simp [Al.askC] at q0 q1 q2 hq hm
   exact ⟨⟨v0,v1,v2,qa,ma⟩,by simp [kopC, *]⟩
theorem kop_open {fuel:Nat} {a:Option Addr} {len cap:Nat} {x:DataW H×List MemPlace} (h:DataW.trod enc Tryz.prog w base spare held fuel 40 [.slice a len cap]=some x):∃ ls,kopE.Rd a len ls w∧len≤9223372036854775807:=by
 have ce:Tryz.prog.cellsOf 50=12:=by kernel_rfl
 rcases Go.Deep.open_slice Tryz.underlying40 h with ⟨hcs,_⟩ | ⟨a',len',cap',m,n,D,Pl,hcs,hb,hlc,hcm,hm,_,hx⟩
 ·simp at hcs
  obtain ⟨rfl,rfl,rfl⟩:=hcs
  exact ⟨default,.inl rfl,by omega⟩
 ·simp at hcs
  obtain ⟨rfl,rfl,rfl⟩:=hcs
  have hlm:len≤m:=by rw [hm]; split <;> omega
  have each:∀ i,i < len→∃ l:KopV,∀ j v,(kopC l)[j]?=some v→w.cell? ((a'.add (i*12)).add j)=some v:=by
   intro i hi
   obtain ⟨cs',h1,h2⟩:=hx i (by omega)
   rw [ce] at h1
   obtain ⟨_,hlen,hcell⟩:=World.cells?_some h1
   obtain ⟨l,rfl⟩:=kop_of h2
   refine ⟨l,fun j v hj=>?_⟩
   have hj9:j < 12:=by
    obtain ⟨hlt,_⟩:=List.getElem?_eq_some_iff.1 hj
    simpa [kopC] using hlt
   rw [hcell j hj9,hj]
  obtain ⟨ls,hls⟩:=Go.Deep.choose_lt each
  refine ⟨ls, ?_,by unfold maxLen at hcm; omega⟩
  rcases Nat.eq_zero_or_pos len with h0 | h0
  ·exact .inl h0
  ·obtain ⟨b,off,idx⟩:=a'
   have c0:=hls 0 h0 0 _ rfl
   cases idx with
   | none =>
    rw [Go.WideShapes.add_plain,Go.WideShapes.add_plain] at c0
    refine .inr ⟨b,off,rfl,World.block_lt_of_cell? _ _ c0,fun i hi j v hj=>?_⟩
    have:=hls i hi j v hj
    rw [Go.WideShapes.add_plain,Go.WideShapes.add_plain] at this
    exact this
   | some q =>
    exfalso
    simp [World.cell?,Addr.add] at c0
    split at c0 <;> simp at c0
end
end Lc
namespace Lc
open Go.RowKit Ba Mem En Go.Proofs.YtpiiblkiddcgcaaGreat.Ty Mo Go.Proofs.YtpiiblkiddcgcaaGreat.St Co
open Ri (MsgV msgC)
open Gr (loadR loadG hallR hallG pressR pressG curtR curtG faultR faultG GI)
open Fl (leaE)
set_option maxRecDepth 100000
attribute [local irreducible] Go.Calls
def ldK (K:KV) (l:LeaseV) (v:Int):KV:={ K with G:=(loadR K.G l.ca v).1 }
def obStep (x:KV×List EvV) (l:LeaseV):KV×List EvV :=
 if l.ph=2 then (hearK (ldK x.1 l l.ma) l.se ⟨9,0,0,0⟩,x.2++evs l.se (hearM (ldK x.1 l l.ma) l.se ⟨9,0,0,0⟩))
 else if l.ph=4 then (hearK (ldK x.1 l 0) l.se ⟨13,0,0,0⟩,x.2++evs l.se (hearM (ldK x.1 l 0) l.se ⟨13,0,0,0⟩)) else x
def obF (K:KV) (k:Nat):KV×List EvV:=(K.L.take k).foldl obStep (K,[])
def obK (K:KV):KV:=(obF K K.L.length).1
def obE (K:KV):List EvV:=(obF K K.L.length).2
theorem ob_next {K:KV} {k:Nat} {l:LeaseV} (h:K.L[k]?=some l):obF K (k+1)=obStep (obF K k) l:=by
 obtain ⟨hk,rfl⟩:=List.getElem?_eq_some_iff.1 h
 unfold obF
 rw [List.take_succ_eq_append_getElem hk,List.foldl_append]; rfl
theorem hearM_len (K:KV) (s:Int) (m:MsgV):(hearM K s m).length≤1:=by
 unfold hearM; split
 ·cases (hearR K (Le.ofL K.L s) m).2.1 <;> simp
 ·simp
theorem obS_len (x:KV×List EvV) (l:LeaseV):(obStep x l).2.length≤x.2.length+1:=by
 unfold obStep; split
 ·have:=hearM_len (ldK x.1 l l.ma) l.se ⟨9,0,0,0⟩
  simp [evs]; omega
 ·split
  ·have:=hearM_len (ldK x.1 l 0) l.se ⟨13,0,0,0⟩
   simp [evs]; omega
  ·omega
theorem ob_len (K:KV):∀ k,(obF K k).2.length≤k:=by
 intro k
 have key:∀ (ls:List LeaseV) (x:KV×List EvV),(ls.foldl obStep x).2.length≤x.2.length+ls.length:=by
  intro ls
  induction ls with
  | nil=>intro x; simp
  | cons l r ih =>
   intro x
   rw [List.foldl_cons]
   have:=ih (obStep x l); have:=obS_len x l
   rw [List.length_cons]; omega
 have:=key (K.L.take k) (K,[])
 rw [List.length_take] at this
 simp at this
 unfold obF; omega
theorem evs_len (s:Int) (ms:List MsgV):(evs s ms).length=ms.length:=by simp [evs]
section
variable {c:CfgV} {n T m:Nat} {K:KV}
theorem KI.ld (h:KI c n T m K) (l:LeaseV) (v:Int):KI c n T m (ldK K l v) :=
 ⟨h.g.load _ _,by show ∀ a∈(loadR K.G l.ca v).1.waits,_; rw [(Gr.load_w _ _).1]; exact h.s,by show 0≤(loadR K.G l.ca v).1.now∧(loadR K.G l.ca v).1.now≤_; rw [(Gr.load_w _ _).2]; exact h.now,h.lq,h.okq,h.ll,h.okl⟩
theorem KI.obS {x:KV×List EvV} (h:KI c n T m x.1) (l:LeaseV):KI c n T m (obStep x l).1:=by
 unfold obStep; split
 ·exact (KI.ld h l _).hear _ _
 ·split
  ·exact (KI.ld h l _).hear _ _
  ·exact h
theorem KI.ob (h:KI c n T m K) (k:Nat):KI c n T m (obF K k).1:=by
 have key:∀ (ls:List LeaseV) (x:KV×List EvV),KI c n T m x.1→KI c n T m (ls.foldl obStep x).1:=by
  intro ls
  induction ls with
  | nil=>intro x h; exact h
  | cons l r ih=>intro x h; rw [List.foldl_cons]; exact ih _ (KI.obS h l)
 exact key _ _ h
end
attribute [local irreducible] hearK hearM ldK evs
section
variable {lo q:Nat} {p:Pt} {K:KV} {S:List Nat} {w:World} {c:CfgV} {n T m:Nat}
theorem loadW (h:KW lo q p K S w) (l:LeaseV) (v:Int):Calls Tryz.prog 38 #[.pointer (some ⟨p.g,0,none⟩),.int .i64 l.ca,.int .i64 v] w fun e w'=>∃ S',e=.returned (.int .i64 (loadR K.G l.ca v).2)∧KW lo q p (ldK K l v) S' w'∧Upd S w w'∧∀ g∈S',g∈S∨w.heap.size≤g:=by
 unfold ldK
 exact KW.grp h (one_c _ _ _) (fun S1 hq=>loadG hq l.ca v)
attribute [local irreducible] loadR
set_option maxHeartbeats 8000000 in
theorem obeysT (h:KW lo q p K S w) (hi:KI c n T m K) (hm:m≤10000) :
  Calls Tryz.prog 69 #[.pointer (some ⟨q,0,none⟩)] w fun e w'=>∃ x:List Nat×Nr,e=.returned (.slice x.2.2.1 (obE K).length x.2.2.2)∧KW lo q p (obK K) x.1 w'∧(rwO evE x.2.1 x.2.2.1 (obE K).length x.2.2.2 (obE K) true).st w'∧Upd S w w'∧(∀ g∈x.1,g∈S∨w.heap.size≤g)∧∀ g∈blkOf x.2.2.1,w.heap.size≤g∧g∉x.1:=by
 have hll:=hi.ll
 refine entH tab_ok (Hold.addObj (Hold.addObj (Hold.nil _ tab S _ w) (kO lo q p K S true) h (fun _ g hg=>.inl hg) (by intro r hr; cases hr) (by intro A hA; cases hA)) (rwO evE w.heap.size none 0 0 [] true) (Ek.nil _ _ _) (by intro _ g hg; cases hg) (by intro r _ _ hg; cases hg) (by intro A hA _ g hg hg2; cases hg2)) [.v (.pointer (some ⟨q,0,none⟩))] Tryz.func69 Tryz.ntmps69 rfl rfl ?_
 repeat' (first | refine gs_ ?_|((conv=>whnf); first | intro b | refine callN (f:=63) (ι:=NrP w.heap.size K.L.length) (fun x=>.v (.slice x.1.2.1 K.L.length x.1.2.2)) (fun x=>rwO leaE x.1.1 x.1.2.1 K.L.length x.1.2.2 K.L true) (fun w1 hH=>toNp (leasesK (Hold.ob hH (A:=kO lo q p K S true) 0 rfl) (by omega)) hH.upd.size) (fun ls=>?_)|refine fin_s ?_))
 conv=>whnf
 obtain ⟨⟨l0,A0,c0⟩,hl0,hA0⟩:=ls
 have hA0:0 < K.L.length→∃ g,A0=some ⟨g,0,none⟩:=hA0
 refine lp ⟨tab_ok⟩ (ι:={x:(Nat×List Nat×Nr)×(KV×List EvV) // x.1.1≤K.L.length∧obF K x.1.1=x.2}) (fun x=>match x with | ⟨((k,Sk,(_,A3,c3)),(Kk,es)),_⟩=>⟨[(0,.v (.pointer (some ⟨q,0,none⟩))),(3,.v (.slice A3 es.length c3)),(4,.v (.slice A0 K.L.length c0)),(5,.i .i64 (k:Int))],[],[kO lo q p Kk Sk true,rwO evE w.heap.size A3 es.length c3 es true,rwO leaE l0 A0 K.L.length c0 K.L true]⟩) (fun x=>K.L.length - x.1.1.1) ⟨((0,S,(0,none,0)),(K,[])),Nat.zero_le _,rfl⟩ (wk ?_) ?_
 ·repeat' (first | exact trivial | rfl | ((conv=>whnf); refine And.intro ?_ ?_))
 rintro ⟨⟨⟨k,Sk,⟨u0,A3,c3⟩⟩,⟨Kk,es⟩⟩,hkl,hfo⟩
 have hkl:k≤K.L.length:=hkl
 have hfo:obF K k=(Kk,es):=hfo
 have HK:KI c n T m Kk:=by have:=KI.ob hi k; rw [hfo] at this; exact this
 have hes:es.length≤k:=by have:=ob_len K k; rw [hfo] at this; exact this
 by_cases hlt:k < K.L.length
 ·obtain ⟨l,hl⟩:∃ l,K.L[k]?=some l:=⟨_,List.getElem?_eq_getElem (by omega)⟩
  have hs:=ob_next hl
  rw [hfo] at hs
  obtain ⟨g0,rfl⟩:=hA0 (by omega)
  by_cases h2:l.ph=2
  ·have H1:KI c n T m (ldK Kk l l.ma):=KI.ld HK l l.ma
   have hs2:obF K (k+1)=(hearK (ldK Kk l l.ma) l.se ⟨9,0,0,0⟩,es++evs l.se (hearM (ldK Kk l l.ma) l.se ⟨9,0,0,0⟩)):=by rw [hs]; unfold obStep; rw [if_pos h2]
   have hm1:=hearM_len (ldK Kk l l.ma) l.se ⟨9,0,0,0⟩
   repeat' (first | refine gq_ ?_|((conv=>whnf); first | intro b | refine bto ?_|refine bfo ?_|refine wr_i ?_|refine drA ⟨tab_ok⟩ [6,12] ?_|refine And.intro ?_ ?_|refine br_t (beq_iff_eq.2 h2) ?_|refine opiv ⟨tab_ok⟩ (by rfl) (by rfl) (by rfl) (by rfl) (by rfl) (by rfl) ⟨by omega,by omega⟩ ?_|refine puiv ⟨tab_ok⟩ (by rfl) (by rfl) (by rfl) (by rfl) (by rfl) (by rfl) ⟨by omega,by omega⟩ ?_|refine opfv ⟨tab_ok⟩ (by rfl) (by rfl) (by rfl) (by rfl) ?_|refine pufv ⟨tab_ok⟩ (by rfl) (by rfl) (by rfl) (by rfl) ?_|refine opxc (g:=g0) (off:=0+k*10+6) (.i .i64 l.ph) (fun w hH=>rng_sub (n:=1) (Ek.rng (Hold.ob hH (A:=rwO leaE l0 (some ⟨g0,0,none⟩) K.L.length c0 K.L true) 2 rfl) hl) rfl) ⟨tab_ok⟩ (by rfl) (by rfl) (by simp only [Go.WideShapes.add_plain]; rfl) ?_|refine opxc (g:=g0) (off:=0+k*10+5) (.i .i64 l.ca) (fun w hH=>rng_sub (n:=1) (Ek.rng (Hold.ob hH (A:=rwO leaE l0 (some ⟨g0,0,none⟩) K.L.length c0 K.L true) 2 rfl) hl) rfl) ⟨tab_ok⟩ (by rfl) (by rfl) (by simp only [Go.WideShapes.add_plain]; rfl) ?_|refine opxc (g:=g0) (off:=0+k*10+4) (.i .i64 l.ma) (fun w hH=>rng_sub (n:=1) (Ek.rng (Hold.ob hH (A:=rwO leaE l0 (some ⟨g0,0,none⟩) K.L.length c0 K.L true) 2 rfl) hl) rfl) ⟨tab_ok⟩ (by rfl) (by rfl) (by simp only [Go.WideShapes.add_plain]; rfl) ?_|refine opxc (g:=g0) (off:=0+k*10+0) (.i .i64 l.se) (fun w hH=>rng_sub (n:=1) (Ek.rng (Hold.ob hH (A:=rwO leaE l0 (some ⟨g0,0,none⟩) K.L.length c0 K.L true) 2 rfl) hl) rfl) ⟨tab_ok⟩ (by rfl) (by rfl) (by simp only [Go.WideShapes.add_plain]; rfl) ?_|refine callH (f:=61) (.v (.pointer (some ⟨p.g,0,none⟩))) (fun w hH=>groupK (Hold.ob hH (A:=kO lo q p Kk Sk true) 0 rfl)) ?_|refine callO (f:=38) (A:=kO lo q p Kk Sk true) 0 (fun _=>.i .i64 (loadR Kk.G l.ca l.ma).2) (fun S'=>kO lo q p (ldK Kk l l.ma) S' true) (fun w hH hA=>loadW hA l l.ma) (fun S1=>?_)|refine callON (f:=67) (A:=kO lo q p (ldK Kk l l.ma) S1 true) 0 (ι:=List Nat×Nr) (fun x=>.v (.slice x.2.2.1 (hearM (ldK Kk l l.ma) l.se ⟨9,0,0,0⟩).length x.2.2.2)) (fun x=>kO lo q p (hearK (ldK Kk l l.ma) l.se ⟨9,0,0,0⟩) x.1 true) (fun x=>rwO evE x.2.1 x.2.2.1 (hearM (ldK Kk l l.ma) l.se ⟨9,0,0,0⟩).length x.2.2.2 (evs l.se (hearM (ldK Kk l l.ma) l.se ⟨9,0,0,0⟩)) true) (fun w1 hH hA=>hearW hA (by rw [H1.len]; have:=Gr.ncars_bd c; omega) (by have:=H1.ll; omega) l.se ⟨9,0,0,0⟩ (fun h=>H1.inc (H1.okl _ (has_mem h).1))) (fun x=>?_)|refine opao 1 3 (e:=110) (lo:=w.heap.size) (size:=5) (bytes:=40) (z:=.agg #[.int .i64 0,.int .i64 0,.int .i64 0,.int .i64 0,.int .i64 0]) (A:=rwO evE w.heap.size A3 es.length c3 es true) (E:=rwO evE x.2.1 x.2.2.1 (hearM (ldK Kk l l.ma) l.se ⟨9,0,0,0⟩).length x.2.2.2 (evs l.se (hearM (ldK Kk l l.ma) l.se ⟨9,0,0,0⟩)) true) (vals:=rowsOf evC es) (cells:=rowsOf evC (evs l.se (hearM (ldK Kk l l.ma) l.se ⟨9,0,0,0⟩))) (zs:=rowsOf evC (es++evs l.se (hearM (ldK Kk l l.ma) l.se ⟨9,0,0,0⟩))) (n2:=(es++evs l.se (hearM (ldK Kk l l.ma) l.se ⟨9,0,0,0⟩)).length) (fun A' c'=>rwO evE w.heap.size A' (es++evs l.se (hearM (ldK Kk l l.ma) l.se ⟨9,0,0,0⟩)).length c' (es++evs l.se (hearM (ldK Kk l l.ma) l.se ⟨9,0,0,0⟩)) true) (by rfl) (by rfl) (by rfl) (by rfl) (by rfl) rfl rfl (fun w h=>h) (fun A' c' w h=>h) (fun _ _=>rfl) (fun w h=>Ek.reads h) Tryz.underlying51 (by kernel_rfl) rfl (by decide) (by decide) (rowsOf_one' evE.one _) (by omega) (fun w hH=>hH.upd.size) (by rw [List.length_append,evs_len]) (by rw [rowsOf_append]) (fun A' c'=>?_)|refine back ⟨((k+1,x.1,(0,A',c')),(hearK (ldK Kk l l.ma) l.se ⟨9,0,0,0⟩,es++evs l.se (hearM (ldK Kk l l.ma) l.se ⟨9,0,0,0⟩))),by show k+1≤_; omega,hs2⟩ (wkd ?_) ?_|refine fin_s ?_))
   all_goals first | (show K.L.length - (k+1) < K.L.length - k; omega)|skip
   all_goals (repeat' (first | exact trivial | rfl | ((conv=>whnf); refine And.intro ?_ ?_)))
  ·by_cases h4:l.ph=4
   ·have H1:KI c n T m (ldK Kk l 0):=KI.ld HK l 0
    have hs2:obF K (k+1)=(hearK (ldK Kk l 0) l.se ⟨13,0,0,0⟩,es++evs l.se (hearM (ldK Kk l 0) l.se ⟨13,0,0,0⟩)):=by rw [hs]; unfold obStep; rw [if_neg h2,if_pos h4]
    have hm1:=hearM_len (ldK Kk l 0) l.se ⟨13,0,0,0⟩
    repeat' (first | refine gq_ ?_|((conv=>whnf); first | intro b | refine bto ?_|refine bfo ?_|refine wr_i ?_|refine drA ⟨tab_ok⟩ [6] ?_|refine And.intro ?_ ?_|refine br_t (beq_iff_eq.2 h4) ?_|refine br_f (beq_eq_false_iff_ne.2 h2) ?_|refine opiv ⟨tab_ok⟩ (by rfl) (by rfl) (by rfl) (by rfl) (by rfl) (by rfl) ⟨by omega,by omega⟩ ?_|refine puiv ⟨tab_ok⟩ (by rfl) (by rfl) (by rfl) (by rfl) (by rfl) (by rfl) ⟨by omega,by omega⟩ ?_|refine opfv ⟨tab_ok⟩ (by rfl) (by rfl) (by rfl) (by rfl) ?_|refine pufv ⟨tab_ok⟩ (by rfl) (by rfl) (by rfl) (by rfl) ?_|refine opxc (g:=g0) (off:=0+k*10+6) (.i .i64 l.ph) (fun w hH=>rng_sub (n:=1) (Ek.rng (Hold.ob hH (A:=rwO leaE l0 (some ⟨g0,0,none⟩) K.L.length c0 K.L true) 2 rfl) hl) rfl) ⟨tab_ok⟩ (by rfl) (by rfl) (by simp only [Go.WideShapes.add_plain]; rfl) ?_|refine opxc (g:=g0) (off:=0+k*10+5) (.i .i64 l.ca) (fun w hH=>rng_sub (n:=1) (Ek.rng (Hold.ob hH (A:=rwO leaE l0 (some ⟨g0,0,none⟩) K.L.length c0 K.L true) 2 rfl) hl) rfl) ⟨tab_ok⟩ (by rfl) (by rfl) (by simp only [Go.WideShapes.add_plain]; rfl) ?_|refine opxc (g:=g0) (off:=0+k*10+4) (.i .i64 l.ma) (fun w hH=>rng_sub (n:=1) (Ek.rng (Hold.ob hH (A:=rwO leaE l0 (some ⟨g0,0,none⟩) K.L.length c0 K.L true) 2 rfl) hl) rfl) ⟨tab_ok⟩ (by rfl) (by rfl) (by simp only [Go.WideShapes.add_plain]; rfl) ?_|refine opxc (g:=g0) (off:=0+k*10+0) (.i .i64 l.se) (fun w hH=>rng_sub (n:=1) (Ek.rng (Hold.ob hH (A:=rwO leaE l0 (some ⟨g0,0,none⟩) K.L.length c0 K.L true) 2 rfl) hl) rfl) ⟨tab_ok⟩ (by rfl) (by rfl) (by simp only [Go.WideShapes.add_plain]; rfl) ?_|refine callH (f:=61) (.v (.pointer (some ⟨p.g,0,none⟩))) (fun w hH=>groupK (Hold.ob hH (A:=kO lo q p Kk Sk true) 0 rfl)) ?_|refine callO (f:=38) (A:=kO lo q p Kk Sk true) 0 (fun _=>.i .i64 (loadR Kk.G l.ca 0).2) (fun S'=>kO lo q p (ldK Kk l 0) S' true) (fun w hH hA=>loadW hA l 0) (fun S1=>?_)|refine callON (f:=67) (A:=kO lo q p (ldK Kk l 0) S1 true) 0 (ι:=List Nat×Nr) (fun x=>.v (.slice x.2.2.1 (hearM (ldK Kk l 0) l.se ⟨13,0,0,0⟩).length x.2.2.2)) (fun x=>kO lo q p (hearK (ldK Kk l 0) l.se ⟨13,0,0,0⟩) x.1 true) (fun x=>rwO evE x.2.1 x.2.2.1 (hearM (ldK Kk l 0) l.se ⟨13,0,0,0⟩).length x.2.2.2 (evs l.se (hearM (ldK Kk l 0) l.se ⟨13,0,0,0⟩)) true) (fun w1 hH hA=>hearW hA (by rw [H1.len]; have:=Gr.ncars_bd c; omega) (by have:=H1.ll; omega) l.se ⟨13,0,0,0⟩ (fun h=>H1.inc (H1.okl _ (has_mem h).1))) (fun x=>?_)|refine opao 1 3 (e:=110) (lo:=w.heap.size) (size:=5) (bytes:=40) (z:=.agg #[.int .i64 0,.int .i64 0,.int .i64 0,.int .i64 0,.int .i64 0]) (A:=rwO evE w.heap.size A3 es.length c3 es true) (E:=rwO evE x.2.1 x.2.2.1 (hearM (ldK Kk l 0) l.se ⟨13,0,0,0⟩).length x.2.2.2 (evs l.se (hearM (ldK Kk l 0) l.se ⟨13,0,0,0⟩)) true) (vals:=rowsOf evC es) (cells:=rowsOf evC (evs l.se (hearM (ldK Kk l 0) l.se ⟨13,0,0,0⟩))) (zs:=rowsOf evC (es++evs l.se (hearM (ldK Kk l 0) l.se ⟨13,0,0,0⟩))) (n2:=(es++evs l.se (hearM (ldK Kk l 0) l.se ⟨13,0,0,0⟩)).length) (fun A' c'=>rwO evE w.heap.size A' (es++evs l.se (hearM (ldK Kk l 0) l.se ⟨13,0,0,0⟩)).length c' (es++evs l.se (hearM (ldK Kk l 0) l.se ⟨13,0,0,0⟩)) true) (by rfl) (by rfl) (by rfl) (by rfl) (by rfl) rfl rfl (fun w h=>h) (fun A' c' w h=>h) (fun _ _=>rfl) (fun w h=>Ek.reads h) Tryz.underlying51 (by kernel_rfl) rfl (by decide) (by decide) (rowsOf_one' evE.one _) (by omega) (fun w hH=>hH.upd.size) (by rw [List.length_append,evs_len]) (by rw [rowsOf_append]) (fun A' c'=>?_)|refine back ⟨((k+1,x.1,(0,A',c')),(hearK (ldK Kk l 0) l.se ⟨13,0,0,0⟩,es++evs l.se (hearM (ldK Kk l 0) l.se ⟨13,0,0,0⟩))),by show k+1≤_; omega,hs2⟩ (wkd ?_) ?_|refine fin_s ?_))
    all_goals first | (show K.L.length - (k+1) < K.L.length - k; omega)|skip
    all_goals (repeat' (first | exact trivial | rfl | ((conv=>whnf); refine And.intro ?_ ?_)))
   ·have hs2:obF K (k+1)=(Kk,es):=by rw [hs]; unfold obStep; rw [if_neg h2,if_neg h4]
    repeat' (first | refine gq_ ?_|((conv=>whnf); first | intro b | refine bto ?_|refine bfo ?_|refine wr_i ?_|refine br_f (beq_eq_false_iff_ne.2 h4) ?_|refine br_f (beq_eq_false_iff_ne.2 h2) ?_|refine opiv ⟨tab_ok⟩ (by rfl) (by rfl) (by rfl) (by rfl) (by rfl) (by rfl) ⟨by omega,by omega⟩ ?_|refine puiv ⟨tab_ok⟩ (by rfl) (by rfl) (by rfl) (by rfl) (by rfl) (by rfl) ⟨by omega,by omega⟩ ?_|refine opfv ⟨tab_ok⟩ (by rfl) (by rfl) (by rfl) (by rfl) ?_|refine pufv ⟨tab_ok⟩ (by rfl) (by rfl) (by rfl) (by rfl) ?_|refine opxc (g:=g0) (off:=0+k*10+6) (.i .i64 l.ph) (fun w hH=>rng_sub (n:=1) (Ek.rng (Hold.ob hH (A:=rwO leaE l0 (some ⟨g0,0,none⟩) K.L.length c0 K.L true) 2 rfl) hl) rfl) ⟨tab_ok⟩ (by rfl) (by rfl) (by simp only [Go.WideShapes.add_plain]; rfl) ?_|refine opxc (g:=g0) (off:=0+k*10+5) (.i .i64 l.ca) (fun w hH=>rng_sub (n:=1) (Ek.rng (Hold.ob hH (A:=rwO leaE l0 (some ⟨g0,0,none⟩) K.L.length c0 K.L true) 2 rfl) hl) rfl) ⟨tab_ok⟩ (by rfl) (by rfl) (by simp only [Go.WideShapes.add_plain]; rfl) ?_|refine opxc (g:=g0) (off:=0+k*10+4) (.i .i64 l.ma) (fun w hH=>rng_sub (n:=1) (Ek.rng (Hold.ob hH (A:=rwO leaE l0 (some ⟨g0,0,none⟩) K.L.length c0 K.L true) 2 rfl) hl) rfl) ⟨tab_ok⟩ (by rfl) (by rfl) (by simp only [Go.WideShapes.add_plain]; rfl) ?_|refine opxc (g:=g0) (off:=0+k*10+0) (.i .i64 l.se) (fun w hH=>rng_sub (n:=1) (Ek.rng (Hold.ob hH (A:=rwO leaE l0 (some ⟨g0,0,none⟩) K.L.length c0 K.L true) 2 rfl) hl) rfl) ⟨tab_ok⟩ (by rfl) (by rfl) (by simp only [Go.WideShapes.add_plain]; rfl) ?_|refine back ⟨((k+1,Sk,(0,A3,c3)),(Kk,es)),by show k+1≤_; omega,hs2⟩ (wkd ?_) ?_|refine fin_s ?_))
    all_goals first | (show K.L.length - (k+1) < K.L.length - k; omega)|skip
    all_goals (repeat' (first | exact trivial | rfl | ((conv=>whnf); refine And.intro ?_ ?_)))
 ·obtain rfl:k=K.L.length:=by omega
  have hE:obE K=es:=by unfold obE; rw [hfo]
  have hKK:obK K=Kk:=by unfold obK; rw [hfo]
  rw [hE,hKK]
  repeat' (first | refine gs_ ?_|((conv=>whnf); first | intro b | refine bto ?_|refine bfo ?_|refine fin fun w' hH=>?_|refine fin_s ?_))
  have o0:=Hold.ob hH (A:=kO lo q p Kk Sk true) 0 rfl
  have o1:=Hold.ob hH (A:=rwO evE w.heap.size A3 es.length c3 es true) 1 rfl
  exact ⟨(Sk,(w.heap.size,A3,c3)),rfl,o0,o1,hH.upd,hH.own _ (List.mem_cons_self ..) rfl,fun g hg=>⟨own_low o1 g hg,fun hg2=>pair_at (R:=DisR) (fun _ _ h=>h.symm) hH.dis (i:=0) (j:=1) rfl rfl (by decide) (.inl rfl) g hg2 hg⟩⟩
end
end Lc
namespace Lc
open Go.RowKit Ba Mem En Go.Proofs.YtpiiblkiddcgcaaGreat.Ty Mo Go.Proofs.YtpiiblkiddcgcaaGreat.St Co
open Ri (MsgV msgC)
open Gr (loadR loadG hallR hallG pressR pressG curtR curtG faultR faultG GI doR fltX disW one fault_in)
open Fl (leaE)
set_option maxRecDepth 100000
attribute [local irreducible] Go.Calls
def gdo (G:Gr.GrV) (o:KopV):Gr.GrV:=if 4≤o.k∧o.k≤8 then (doR G (o.k - 3) o.a o.b (o.b == 1)).1 else G
def doK (K:KV) (o:KopV):KV:=if o.k=1 then ansK K o.q else if o.k=2 then hearK K o.q.se o.m else if o.k=3 then goneK K o.q.se else if o.k=10 then obK K else { K with G:=gdo K.G o }
def doE (K:KV) (o:KopV):List EvV:=if o.k=1 then evs o.q.se [ansM K o.q] else if o.k=2 then evs o.q.se (hearM K o.q.se o.m) else if o.k=10 then obE K else []
theorem gdo_id {G:Gr.GrV} {o:KopV} (h:¬ (4≤o.k∧o.k≤8)):gdo G o=G:=by unfold gdo; rw [if_neg h]
theorem doR_w (G:Gr.GrV) (k a b:Int) (y:Bool) (hk:1≤k∧k≤5):(doR G k a b y).1.now=G.now∧(doR G k a b y).1.c=G.c∧∀ z∈(doR G k a b y).1.waits,z.si=G.now∨∃ u∈G.waits,z.si=u.si:=by
 have id':∀ z∈G.waits,z.si=G.now∨∃ u∈G.waits,z.si=u.si:=fun z hz=>.inr ⟨z,hz,rfl⟩
 have on:∀ (f:CarV→CarV×Int),(one G a f).1.now=G.now∧(one G a f).1.c=G.c∧∀ z∈(one G a f).1.waits,z.si=G.now∨∃ u∈G.waits,z.si=u.si:=fun f =>
  ⟨(Gr.one_w _ _).2.1,one_c _ _ _,by rw [(Gr.one_w _ _).1]; exact id'⟩
 unfold doR
 split
 ·unfold Gr.hallR; split
  ·split
   ·refine ⟨rfl,rfl,fun z hz=>?_⟩
    rcases List.mem_append.1 hz with h | h
    ·exact id' z h
    ·rw [List.mem_singleton] at h; subst h; exact .inl rfl
   ·exact ⟨rfl,rfl,id'⟩
  ·exact ⟨rfl,rfl,id'⟩
 split
 ·unfold Gr.pressR; split
  ·exact on _
  ·exact ⟨rfl,rfl,id'⟩
 split
 ·exact on _
 split
 ·exact on _
 split
 ·unfold Gr.faultR; split
  ·split
   ·refine ⟨(on _).1,(on _).2.1,fun z hz=>?_⟩
    obtain ⟨u,hu,rfl⟩:=List.mem_map.1 hz
    refine .inr ⟨u,hu, ?_⟩
    unfold disW; split <;> rfl
   ·exact ⟨rfl,rfl,id'⟩
  ·exact on _
 omega
theorem gdo_w (G:Gr.GrV) (o:KopV):(gdo G o).now=G.now∧(gdo G o).c=G.c∧∀ z∈(gdo G o).waits,z.si=G.now∨∃ u∈G.waits,z.si=u.si:=by
 unfold gdo; split
 ·exact doR_w _ _ _ _ _ (by omega)
 ·exact ⟨rfl,rfl,fun z hz=>.inr ⟨z,hz,rfl⟩⟩
section
variable {c:CfgV} {n T m:Nat} {K:KV}
theorem KI.gdo (h:KI c n T m K) (o:KopV):KI c (n+1) T m { K with G:=gdo K.G o }:=by
 obtain ⟨e1,e2,e3⟩:=gdo_w K.G o
 refine ⟨?_,fun z hz=>?_,by show 0≤(Lc.gdo K.G o).now∧_; rw [e1]; exact h.now,h.lq,h.okq,h.ll,h.okl⟩
 ·show GI c (n+1) T (Lc.gdo K.G o)
  unfold Lc.gdo; split
  ·exact h.g.do_ _ _ _ _
  ·exact h.g.more (Nat.le_succ n)
 ·rcases e3 z hz with e | ⟨u,hu,e⟩
  ·rw [e]; exact h.now
  ·rw [e]; exact h.s u hu
theorem KI.do_ (h:KI c n T m K) (o:KopV):KI c (n+1) T m (doK K o):=by
 have up:∀ {K':KV},KI c n T m K'→KI c (n+1) T m K':=fun h=>h.more (Nat.le_succ n) (Nat.le_refl _) (Nat.le_refl _)
 unfold doK
 split
 ·exact up (h.ans _)
 split
 ·exact up (h.hear _ _)
 split
 ·exact up (h.gone _)
 split
 ·exact up (KI.ob h _)
 ·exact KI.gdo h o
end
theorem doE_len {c:CfgV} {n T m:Nat} {K:KV} (h:KI c n T m K) (o:KopV):(doE K o).length≤m+1:=by
 unfold doE
 split
 ·simp [evs]
 split
 ·rw [evs_len]; have:=hearM_len K o.q.se o.m; omega
 split
 ·have:=ob_len K K.L.length; have:=h.ll; unfold obE; omega
 ·simp
section
variable {lo q:Nat} {p:Pt} {K:KV} {S:List Nat} {w:World} {c:CfgV} {n T m:Nat}
theorem hallW (h:KW lo q p K S w) (hl:K.G.waits.length≤10000) (a b:Int):Calls Tryz.prog 36 #[.pointer (some ⟨p.g,0,none⟩),.int .i64 a,.int .i64 b] w fun e w'=>∃ S',e=.returned (.int .i64 (hallR K.G a b).2)∧KW lo q p { K with G:=(doR K.G 1 a b (b == 1)).1 } S' w'∧Upd S w w'∧∀ g∈S',g∈S∨w.heap.size≤g :=
 KW.grp h (doR_w K.G 1 a b (b == 1) (by decide)).2.1 (fun S1 hq=>hallG hq hl a b)
theorem pressW (h:KW lo q p K S w) (a b:Int):Calls Tryz.prog 37 #[.pointer (some ⟨p.g,0,none⟩),.int .i64 a,.int .i64 b] w fun e w'=>∃ S',e=.returned (.int .i64 (pressR K.G a b).2)∧KW lo q p { K with G:=(doR K.G 2 a b (b == 1)).1 } S' w'∧Upd S w w'∧∀ g∈S',g∈S∨w.heap.size≤g :=
 KW.grp h (doR_w K.G 2 a b (b == 1) (by decide)).2.1 (fun S1 hq=>pressG hq a b)
theorem loadW2 (h:KW lo q p K S w) (a b:Int):Calls Tryz.prog 38 #[.pointer (some ⟨p.g,0,none⟩),.int .i64 a,.int .i64 b] w fun e w'=>∃ S',e=.returned (.int .i64 (loadR K.G a b).2)∧KW lo q p { K with G:=(doR K.G 3 a b (b == 1)).1 } S' w'∧Upd S w w'∧∀ g∈S',g∈S∨w.heap.size≤g :=
 KW.grp h (doR_w K.G 3 a b (b == 1) (by decide)).2.1 (fun S1 hq=>loadG hq a b)
theorem curtW (h:KW lo q p K S w) (a b:Int):Calls Tryz.prog 39 #[.pointer (some ⟨p.g,0,none⟩),.int .i64 a,.bool (b == 1)] w fun e w'=>∃ S',e=.returned (.int .i64 (curtR K.G a (b == 1)).2)∧KW lo q p { K with G:=(doR K.G 4 a b (b == 1)).1 } S' w'∧Upd S w w'∧∀ g∈S',g∈S∨w.heap.size≤g :=
 KW.grp h (doR_w K.G 4 a b (b == 1) (by decide)).2.1 (fun S1 hq=>curtG hq a (b == 1))
theorem faultW (h:KW lo q p K S w) (hl:K.G.waits.length≤1000000) (a b:Int):Calls Tryz.prog 40 #[.pointer (some ⟨p.g,0,none⟩),.int .i64 a,.bool (b == 1)] w fun e w'=>∃ S',e=.returned (.int .i64 (faultR K.G a (b == 1)).2)∧KW lo q p { K with G:=(doR K.G 5 a b (b == 1)).1 } S' w'∧Upd S w w'∧∀ g∈S',g∈S∨w.heap.size≤g :=
 KW.grp h (doR_w K.G 5 a b (b == 1) (by decide)).2.1 (fun S1 hq=>faultG hq hl a (b == 1))
def DoP (lo q:Nat) (p:Pt) (K':KV) (es:List EvV) (S:List Nat) (w:World) (e:Ending) (w':World):Prop :=
 ∃ x:List Nat×Nr,e=.returned (.slice x.2.2.1 es.length x.2.2.2)∧KW lo q p K' x.1 w'∧(rwO evE x.2.1 x.2.2.1 es.length x.2.2.2 es true).st w'∧Upd S w w'∧(∀ g∈x.1,g∈S∨w.heap.size≤g)∧∀ g∈blkOf x.2.2.1,w.heap.size≤g∧g∉x.1
theorem own_rebase {α:Type} {E:Ek α} {lo lo' n c:Nat} {A:Option Addr} {ls:List α} {w:World} (h:E.At lo A n c ls w) (hb:∀ g∈blkOf A,lo'≤g):E.At lo' A n c ls w:=by
 refine ⟨h.1, ?_⟩
 rcases h.2 with h2 | ⟨g,cap,cur,hv,hbg,rest⟩
 ·exact .inl h2
 ·have hv':=hv
  simp at hv'
  exact .inr ⟨g,cap,cur,hv,hb g (by rw [hv'.1]; simp [blkOf]),rest⟩
theorem toD {P:Program} {F:FuncId} {args:Array Value} {w1:World} {n0 n:Nat} {es:List EvV} {S:List Nat} {Φ:List Nat→World→Prop} (h:Calls P F args w1 fun e w'=>∃ x:List Nat×Nr,e=.returned (.slice x.2.2.1 n x.2.2.2)∧Φ x.1 w'∧(rwO evE x.2.1 x.2.2.1 n x.2.2.2 es true).st w'∧Upd S w1 w'∧(∀ g∈x.1,g∈S∨w1.heap.size≤g)∧∀ g∈blkOf x.2.2.1,w1.heap.size≤g∧g∉x.1) (h0:n0≤w1.heap.size) :
  Calls P F args w1 fun e w'=>∃ x:List Nat×Option Addr×Nat,e=.returned (.slice x.2.1 n x.2.2)∧Φ x.1 w'∧(rwO evE n0 x.2.1 n x.2.2 es true).st w'∧Upd S w1 w'∧(∀ g∈x.1,g∈S∨w1.heap.size≤g)∧∀ g∈(rwO evE n0 x.2.1 n x.2.2 es true).F,w1.heap.size≤g∧g∉x.1:=by
 refine h.mono ?_
 rintro e w' ⟨⟨S',lo,A,c⟩,rfl,h1,h2,h3,h4,h5⟩
 exact ⟨(S',A,c),rfl,h1,own_rebase h2 (fun g hg=>Nat.le_trans h0 (h5 g hg).1),h3,h4,h5⟩
theorem DoP.nil {w':World} {K':KV} {S':List Nat} (h:KW lo q p K' S' w') (u:Upd S w w') (n:∀ g∈S',g∈S∨w.heap.size≤g):DoP lo q p K' [] S w (.returned (.slice none 0 0)) w' :=
 ⟨(S',w.heap.size,none,0),rfl,h,Ek.nil _ _ _,u,n,by intro g hg; cases hg⟩
theorem hold_do {nt:Nat} (h:KW lo q p K S w):Hold ⟨Tryz.prog,tab,S,w,nt,[]⟩ [] [kO lo q p K S true] w :=
 Hold.addObj (Hold.nil _ tab S _ w) (kO lo q p K S true) h (fun _ g hg=>.inl hg) (by intro r hr; cases hr) (by intro A hA; cases hA)
attribute [local irreducible] ansK ansM hearK hearM goneK obK obE doR Gr.hallR pressR loadR curtR faultR evs
theorem doT1 (h:KW lo q p K S w) (hi:KI c n T m K) (hm:m≤10000) (o:KopV) (h1:o.k=1) :
  Calls Tryz.prog 21 #[.pointer (some ⟨q,0,none⟩),.agg (kopC o).toArray] w (DoP lo q p (ansK K o.q) (evs o.q.se [ansM K o.q]) S w):=by
 have hll:=hi.ll
 have hlq:=hi.lq
 have he1:(evs o.q.se [ansM K o.q]).length=1:=evs_len _ _
 refine entH tab_ok (hold_do h) [.v (.pointer (some ⟨q,0,none⟩)),.a [.i .i64 o.k,.i .i64 o.a,.i .i64 o.b,.i .i64 o.q.se,.i .i64 o.q.fl,.i .i64 o.q.fm,.i .i64 o.q.to,.i .i64 o.q.ma,.i .i64 o.m.ki,.i .i64 o.m.a,.i .i64 o.m.b,.i .i64 o.m.c]] Tryz.func21 Tryz.ntmps21 rfl rfl ?_
 repeat' (first | refine gs_ ?_|((conv=>whnf); first | intro b | refine callON (f:=66) (A:=kO lo q p K S true) 0 (ι:=List Nat×Option Addr×Nat) (fun x=>.v (.slice x.2.1 1 x.2.2)) (fun x=>kO lo q p (ansK K o.q) x.1 true) (fun x=>rwO evE w.heap.size x.2.1 1 x.2.2 (evs o.q.se [ansM K o.q]) true) (fun w1 hH hA=>toD (Φ:=fun S'=>KW lo q p (ansK K o.q) S') (Co.askK hA (by omega) (by omega) o.q) hH.upd.size) (fun x=>?_)|refine fin fun w' hH=>?_|refine fin_s ?_))
 have o0:=Hold.ob hH (A:=kO lo q p (ansK K o.q) x.1 true) 0 rfl
 have o1:=Hold.ob hH (A:=rwO evE w.heap.size x.2.1 1 x.2.2 (evs o.q.se [ansM K o.q]) true) 1 rfl
 refine ⟨(x.1,(w.heap.size,x.2)),by rw [he1]; rfl,o0,by rw [he1]; exact o1,hH.upd,hH.own _ (List.mem_cons_self ..) rfl,fun g hg=>⟨own_low o1 g hg,fun hg2=>pair_at (R:=DisR) (fun _ _ h=>h.symm) hH.dis (i:=0) (j:=1) rfl rfl (by decide) (.inl rfl) g hg2 hg⟩⟩
theorem doT2 (h:KW lo q p K S w) (hi:KI c n T m K) (hn:n≤10000) (hm:m≤10000) (o:KopV) (h1:¬ o.k=1) (h2:o.k=2) :
  Calls Tryz.prog 21 #[.pointer (some ⟨q,0,none⟩),.agg (kopC o).toArray] w (DoP lo q p (hearK K o.q.se o.m) (evs o.q.se (hearM K o.q.se o.m)) S w):=by
 have hll:=hi.ll
 have hlq:=hi.lq
 have hw:=hi.g.2.2.2.2
 refine entH tab_ok (hold_do h) [.v (.pointer (some ⟨q,0,none⟩)),.a [.i .i64 o.k,.i .i64 o.a,.i .i64 o.b,.i .i64 o.q.se,.i .i64 o.q.fl,.i .i64 o.q.fm,.i .i64 o.q.to,.i .i64 o.q.ma,.i .i64 o.m.ki,.i .i64 o.m.a,.i .i64 o.m.b,.i .i64 o.m.c]] Tryz.func21 Tryz.ntmps21 rfl rfl ?_
 repeat' (first | refine gs_ ?_|((conv=>whnf); first | intro b | refine callON (f:=67) (A:=kO lo q p K S true) 0 (ι:=List Nat×Option Addr×Nat) (fun x=>.v (.slice x.2.1 ((evs o.q.se (hearM K o.q.se o.m)).length) x.2.2)) (fun x=>kO lo q p (hearK K o.q.se o.m) x.1 true) (fun x=>rwO evE w.heap.size x.2.1 ((evs o.q.se (hearM K o.q.se o.m)).length) x.2.2 (evs o.q.se (hearM K o.q.se o.m)) true) (fun w1 hH hA=>toD (Φ:=fun S'=>KW lo q p (hearK K o.q.se o.m) S') (by have:=hearW hA (by rw [hi.len]; have:=Gr.ncars_bd c; omega) (by omega) o.q.se o.m (fun h=>hi.inc (hi.okl _ (has_mem h).1)); rw [← evs_len o.q.se (hearM K o.q.se o.m)] at this; exact this) hH.upd.size) (fun x=>?_)|refine fin fun w' hH=>?_|refine fin_s ?_))
 have o0:=Hold.ob hH (A:=kO lo q p (hearK K o.q.se o.m) x.1 true) 0 rfl
 have o1:=Hold.ob hH (A:=rwO evE w.heap.size x.2.1 ((evs o.q.se (hearM K o.q.se o.m)).length) x.2.2 (evs o.q.se (hearM K o.q.se o.m)) true) 1 rfl
 refine ⟨(x.1,(w.heap.size,x.2)),rfl,o0,o1,hH.upd,hH.own _ (List.mem_cons_self ..) rfl,fun g hg=>⟨own_low o1 g hg,fun hg2=>pair_at (R:=DisR) (fun _ _ h=>h.symm) hH.dis (i:=0) (j:=1) rfl rfl (by decide) (.inl rfl) g hg2 hg⟩⟩
theorem doT10 (h:KW lo q p K S w) (hi:KI c n T m K) (hn:n≤10000) (hm:m≤10000) (o:KopV) (h1:¬ o.k=1) (h2:¬ o.k=2) (h3:¬ o.k=3) (h4:¬ o.k=4) (h5:¬ o.k=5) (h6:¬ o.k=6) (h7:¬ o.k=7) (h8:¬ o.k=8) (h10:o.k=10) :
  Calls Tryz.prog 21 #[.pointer (some ⟨q,0,none⟩),.agg (kopC o).toArray] w (DoP lo q p (obK K) (obE K) S w):=by
 have hll:=hi.ll
 have hlq:=hi.lq
 have hw:=hi.g.2.2.2.2
 refine entH tab_ok (hold_do h) [.v (.pointer (some ⟨q,0,none⟩)),.a [.i .i64 o.k,.i .i64 o.a,.i .i64 o.b,.i .i64 o.q.se,.i .i64 o.q.fl,.i .i64 o.q.fm,.i .i64 o.q.to,.i .i64 o.q.ma,.i .i64 o.m.ki,.i .i64 o.m.a,.i .i64 o.m.b,.i .i64 o.m.c]] Tryz.func21 Tryz.ntmps21 rfl rfl ?_
 repeat' (first | refine gs_ ?_|((conv=>whnf); first | intro b | refine callON (f:=69) (A:=kO lo q p K S true) 0 (ι:=List Nat×Option Addr×Nat) (fun x=>.v (.slice x.2.1 ((obE K).length) x.2.2)) (fun x=>kO lo q p (obK K) x.1 true) (fun x=>rwO evE w.heap.size x.2.1 ((obE K).length) x.2.2 (obE K) true) (fun w1 hH hA=>toD (Φ:=fun S'=>KW lo q p (obK K) S') (obeysT hA hi hm) hH.upd.size) (fun x=>?_)|refine fin fun w' hH=>?_|refine fin_s ?_))
 have o0:=Hold.ob hH (A:=kO lo q p (obK K) x.1 true) 0 rfl
 have o1:=Hold.ob hH (A:=rwO evE w.heap.size x.2.1 ((obE K).length) x.2.2 (obE K) true) 1 rfl
 refine ⟨(x.1,(w.heap.size,x.2)),rfl,o0,o1,hH.upd,hH.own _ (List.mem_cons_self ..) rfl,fun g hg=>⟨own_low o1 g hg,fun hg2=>pair_at (R:=DisR) (fun _ _ h=>h.symm) hH.dis (i:=0) (j:=1) rfl rfl (by decide) (.inl rfl) g hg2 hg⟩⟩
theorem doT3 (h:KW lo q p K S w) (hi:KI c n T m K) (hn:n≤10000) (hm:m≤10000) (o:KopV) (h1:¬ o.k=1) (h2:¬ o.k=2) (h3:o.k=3) :
  Calls Tryz.prog 21 #[.pointer (some ⟨q,0,none⟩),.agg (kopC o).toArray] w (DoP lo q p (goneK K o.q.se) [] S w):=by
 have hll:=hi.ll
 have hlq:=hi.lq
 have hw:=hi.g.2.2.2.2
 refine entH tab_ok (hold_do h) [.v (.pointer (some ⟨q,0,none⟩)),.a [.i .i64 o.k,.i .i64 o.a,.i .i64 o.b,.i .i64 o.q.se,.i .i64 o.q.fl,.i .i64 o.q.fm,.i .i64 o.q.to,.i .i64 o.q.ma,.i .i64 o.m.ki,.i .i64 o.m.a,.i .i64 o.m.b,.i .i64 o.m.c]] Tryz.func21 Tryz.ntmps21 rfl rfl ?_
 repeat' (first | refine gs_ ?_|((conv=>whnf); first | intro b | refine callH (f:=61) (.v (.pointer (some ⟨p.g,0,none⟩))) (fun w hH=>groupK (Hold.ob hH (A:=kO lo q p K S true) 0 rfl)) ?_|refine callO (f:=68) (A:=kO lo q p K S true) 0 (fun _=>.t []) (fun S'=>kO lo q p (goneK K o.q.se) S' true) (fun w hH hA=>goneW hA (by omega) (by omega) o.q.se) (fun S1=>?_)|refine fin fun w' hH=>?_|refine fin_s ?_))
 exact DoP.nil (Hold.ob hH (A:=kO lo q p (goneK K o.q.se) S1 true) 0 rfl) hH.upd (hH.own _ (List.mem_cons_self ..) rfl)
theorem doT4 (h:KW lo q p K S w) (hi:KI c n T m K) (hn:n≤10000) (hm:m≤10000) (o:KopV) (h1:¬ o.k=1) (h2:¬ o.k=2) (h3:¬ o.k=3) (h4:o.k=4) :
  Calls Tryz.prog 21 #[.pointer (some ⟨q,0,none⟩),.agg (kopC o).toArray] w (DoP lo q p ({ K with G:=(doR K.G 1 o.a o.b (o.b == 1)).1 }) [] S w):=by
 have hll:=hi.ll
 have hlq:=hi.lq
 have hw:=hi.g.2.2.2.2
 refine entH tab_ok (hold_do h) [.v (.pointer (some ⟨q,0,none⟩)),.a [.i .i64 o.k,.i .i64 o.a,.i .i64 o.b,.i .i64 o.q.se,.i .i64 o.q.fl,.i .i64 o.q.fm,.i .i64 o.q.to,.i .i64 o.q.ma,.i .i64 o.m.ki,.i .i64 o.m.a,.i .i64 o.m.b,.i .i64 o.m.c]] Tryz.func21 Tryz.ntmps21 rfl rfl ?_
 repeat' (first | refine gs_ ?_|((conv=>whnf); first | intro b | refine callH (f:=61) (.v (.pointer (some ⟨p.g,0,none⟩))) (fun w hH=>groupK (Hold.ob hH (A:=kO lo q p K S true) 0 rfl)) ?_|refine callO (f:=36) (A:=kO lo q p K S true) 0 (fun _=>.i .i64 (Gr.hallR K.G o.a o.b).2) (fun S'=>kO lo q p ({ K with G:=(doR K.G 1 o.a o.b (o.b == 1)).1 }) S' true) (fun w hH hA=>hallW hA (by omega) o.a o.b) (fun S1=>?_)|refine fin fun w' hH=>?_|refine fin_s ?_))
 exact DoP.nil (Hold.ob hH (A:=kO lo q p ({ K with G:=(doR K.G 1 o.a o.b (o.b == 1)).1 }) S1 true) 0 rfl) hH.upd (hH.own _ (List.mem_cons_self ..) rfl)
theorem doT5 (h:KW lo q p K S w) (hi:KI c n T m K) (hn:n≤10000) (hm:m≤10000) (o:KopV) (h1:¬ o.k=1) (h2:¬ o.k=2) (h3:¬ o.k=3) (h4:¬ o.k=4) (h5:o.k=5) :
  Calls Tryz.prog 21 #[.pointer (some ⟨q,0,none⟩),.agg (kopC o).toArray] w (DoP lo q p ({ K with G:=(doR K.G 2 o.a o.b (o.b == 1)).1 }) [] S w):=by
 have hll:=hi.ll
 have hlq:=hi.lq
 have hw:=hi.g.2.2.2.2
 refine entH tab_ok (hold_do h) [.v (.pointer (some ⟨q,0,none⟩)),.a [.i .i64 o.k,.i .i64 o.a,.i .i64 o.b,.i .i64 o.q.se,.i .i64 o.q.fl,.i .i64 o.q.fm,.i .i64 o.q.to,.i .i64 o.q.ma,.i .i64 o.m.ki,.i .i64 o.m.a,.i .i64 o.m.b,.i .i64 o.m.c]] Tryz.func21 Tryz.ntmps21 rfl rfl ?_
 repeat' (first | refine gs_ ?_|((conv=>whnf); first | intro b | refine callH (f:=61) (.v (.pointer (some ⟨p.g,0,none⟩))) (fun w hH=>groupK (Hold.ob hH (A:=kO lo q p K S true) 0 rfl)) ?_|refine callO (f:=37) (A:=kO lo q p K S true) 0 (fun _=>.i .i64 (Gr.pressR K.G o.a o.b).2) (fun S'=>kO lo q p ({ K with G:=(doR K.G 2 o.a o.b (o.b == 1)).1 }) S' true) (fun w hH hA=>pressW hA o.a o.b) (fun S1=>?_)|refine fin fun w' hH=>?_|refine fin_s ?_))
 exact DoP.nil (Hold.ob hH (A:=kO lo q p ({ K with G:=(doR K.G 2 o.a o.b (o.b == 1)).1 }) S1 true) 0 rfl) hH.upd (hH.own _ (List.mem_cons_self ..) rfl)
theorem doT6 (h:KW lo q p K S w) (hi:KI c n T m K) (hn:n≤10000) (hm:m≤10000) (o:KopV) (h1:¬ o.k=1) (h2:¬ o.k=2) (h3:¬ o.k=3) (h4:¬ o.k=4) (h5:¬ o.k=5) (h6:o.k=6) :
  Calls Tryz.prog 21 #[.pointer (some ⟨q,0,none⟩),.agg (kopC o).toArray] w (DoP lo q p ({ K with G:=(doR K.G 3 o.a o.b (o.b == 1)).1 }) [] S w):=by
 have hll:=hi.ll
 have hlq:=hi.lq
 have hw:=hi.g.2.2.2.2
 refine entH tab_ok (hold_do h) [.v (.pointer (some ⟨q,0,none⟩)),.a [.i .i64 o.k,.i .i64 o.a,.i .i64 o.b,.i .i64 o.q.se,.i .i64 o.q.fl,.i .i64 o.q.fm,.i .i64 o.q.to,.i .i64 o.q.ma,.i .i64 o.m.ki,.i .i64 o.m.a,.i .i64 o.m.b,.i .i64 o.m.c]] Tryz.func21 Tryz.ntmps21 rfl rfl ?_
 repeat' (first | refine gs_ ?_|((conv=>whnf); first | intro b | refine callH (f:=61) (.v (.pointer (some ⟨p.g,0,none⟩))) (fun w hH=>groupK (Hold.ob hH (A:=kO lo q p K S true) 0 rfl)) ?_|refine callO (f:=38) (A:=kO lo q p K S true) 0 (fun _=>.i .i64 (Gr.loadR K.G o.a o.b).2) (fun S'=>kO lo q p ({ K with G:=(doR K.G 3 o.a o.b (o.b == 1)).1 }) S' true) (fun w hH hA=>loadW2 hA o.a o.b) (fun S1=>?_)|refine fin fun w' hH=>?_|refine fin_s ?_))
 exact DoP.nil (Hold.ob hH (A:=kO lo q p ({ K with G:=(doR K.G 3 o.a o.b (o.b == 1)).1 }) S1 true) 0 rfl) hH.upd (hH.own _ (List.mem_cons_self ..) rfl)
theorem doT7 (h:KW lo q p K S w) (hi:KI c n T m K) (hn:n≤10000) (hm:m≤10000) (o:KopV) (h1:¬ o.k=1) (h2:¬ o.k=2) (h3:¬ o.k=3) (h4:¬ o.k=4) (h5:¬ o.k=5) (h6:¬ o.k=6) (h7:o.k=7) :
  Calls Tryz.prog 21 #[.pointer (some ⟨q,0,none⟩),.agg (kopC o).toArray] w (DoP lo q p ({ K with G:=(doR K.G 4 o.a o.b (o.b == 1)).1 }) [] S w):=by
 have hll:=hi.ll
 have hlq:=hi.lq
 have hw:=hi.g.2.2.2.2
 refine entH tab_ok (hold_do h) [.v (.pointer (some ⟨q,0,none⟩)),.a [.i .i64 o.k,.i .i64 o.a,.i .i64 o.b,.i .i64 o.q.se,.i .i64 o.q.fl,.i .i64 o.q.fm,.i .i64 o.q.to,.i .i64 o.q.ma,.i .i64 o.m.ki,.i .i64 o.m.a,.i .i64 o.m.b,.i .i64 o.m.c]] Tryz.func21 Tryz.ntmps21 rfl rfl ?_
 repeat' (first | refine gs_ ?_|((conv=>whnf); first | intro b | refine callH (f:=61) (.v (.pointer (some ⟨p.g,0,none⟩))) (fun w hH=>groupK (Hold.ob hH (A:=kO lo q p K S true) 0 rfl)) ?_|refine callO (f:=39) (A:=kO lo q p K S true) 0 (fun _=>.i .i64 (Gr.curtR K.G o.a (o.b == 1)).2) (fun S'=>kO lo q p ({ K with G:=(doR K.G 4 o.a o.b (o.b == 1)).1 }) S' true) (fun w hH hA=>curtW hA o.a o.b) (fun S1=>?_)|refine fin fun w' hH=>?_|refine fin_s ?_))
 exact DoP.nil (Hold.ob hH (A:=kO lo q p ({ K with G:=(doR K.G 4 o.a o.b (o.b == 1)).1 }) S1 true) 0 rfl) hH.upd (hH.own _ (List.mem_cons_self ..) rfl)
theorem doT8 (h:KW lo q p K S w) (hi:KI c n T m K) (hn:n≤10000) (hm:m≤10000) (o:KopV) (h1:¬ o.k=1) (h2:¬ o.k=2) (h3:¬ o.k=3) (h4:¬ o.k=4) (h5:¬ o.k=5) (h6:¬ o.k=6) (h7:¬ o.k=7) (h8:o.k=8) :
  Calls Tryz.prog 21 #[.pointer (some ⟨q,0,none⟩),.agg (kopC o).toArray] w (DoP lo q p ({ K with G:=(doR K.G 5 o.a o.b (o.b == 1)).1 }) [] S w):=by
 have hll:=hi.ll
 have hlq:=hi.lq
 have hw:=hi.g.2.2.2.2
 refine entH tab_ok (hold_do h) [.v (.pointer (some ⟨q,0,none⟩)),.a [.i .i64 o.k,.i .i64 o.a,.i .i64 o.b,.i .i64 o.q.se,.i .i64 o.q.fl,.i .i64 o.q.fm,.i .i64 o.q.to,.i .i64 o.q.ma,.i .i64 o.m.ki,.i .i64 o.m.a,.i .i64 o.m.b,.i .i64 o.m.c]] Tryz.func21 Tryz.ntmps21 rfl rfl ?_
 repeat' (first | refine gs_ ?_|((conv=>whnf); first | intro b | refine callH (f:=61) (.v (.pointer (some ⟨p.g,0,none⟩))) (fun w hH=>groupK (Hold.ob hH (A:=kO lo q p K S true) 0 rfl)) ?_|refine callO (f:=40) (A:=kO lo q p K S true) 0 (fun _=>.i .i64 (Gr.faultR K.G o.a (o.b == 1)).2) (fun S'=>kO lo q p ({ K with G:=(doR K.G 5 o.a o.b (o.b == 1)).1 }) S' true) (fun w hH hA=>faultW hA (by omega) o.a o.b) (fun S1=>?_)|refine fin fun w' hH=>?_|refine fin_s ?_))
 exact DoP.nil (Hold.ob hH (A:=kO lo q p ({ K with G:=(doR K.G 5 o.a o.b (o.b == 1)).1 }) S1 true) 0 rfl) hH.upd (hH.own _ (List.mem_cons_self ..) rfl)
theorem doT0 (h:KW lo q p K S w) (hi:KI c n T m K) (hn:n≤10000) (hm:m≤10000) (o:KopV) (h1:¬ o.k=1) (h2:¬ o.k=2) (h3:¬ o.k=3) (h4:¬ o.k=4) (h5:¬ o.k=5) (h6:¬ o.k=6) (h7:¬ o.k=7) (h8:¬ o.k=8) (h10:¬ o.k=10) :
  Calls Tryz.prog 21 #[.pointer (some ⟨q,0,none⟩),.agg (kopC o).toArray] w (DoP lo q p (K) [] S w):=by
 have hll:=hi.ll
 have hlq:=hi.lq
 have hw:=hi.g.2.2.2.2
 refine entH tab_ok (hold_do h) [.v (.pointer (some ⟨q,0,none⟩)),.a [.i .i64 o.k,.i .i64 o.a,.i .i64 o.b,.i .i64 o.q.se,.i .i64 o.q.fl,.i .i64 o.q.fm,.i .i64 o.q.to,.i .i64 o.q.ma,.i .i64 o.m.ki,.i .i64 o.m.a,.i .i64 o.m.b,.i .i64 o.m.c]] Tryz.func21 Tryz.ntmps21 rfl rfl ?_
 repeat' (first | refine gs_ ?_|((conv=>whnf); first | intro b | refine fin fun w' hH=>?_|refine fin_s ?_))
 exact DoP.nil (Hold.ob hH (A:=kO lo q p K S true) 0 rfl) hH.upd (hH.own _ (List.mem_cons_self ..) rfl)
theorem doT (h:KW lo q p K S w) (hi:KI c n T m K) (hn:n≤10000) (hm:m≤10000) (o:KopV) :
  Calls Tryz.prog 21 #[.pointer (some ⟨q,0,none⟩),.agg (kopC o).toArray] w (DoP lo q p (doK K o) (doE K o) S w):=by
 have gd:∀ {j:Int},o.k=j+3→1≤j→j≤5→gdo K.G o=(doR K.G j o.a o.b (o.b == 1)).1:=fun {j} e h1 h2=>by
  unfold gdo
  rw [if_pos (by omega),show o.k - 3=j by omega]
 unfold doK doE
 by_cases h1:o.k=1
 ·rw [if_pos h1,if_pos h1]; exact doT1 h hi hm o h1
 rw [if_neg h1,if_neg h1]
 by_cases h2:o.k=2
 ·rw [if_pos h2,if_pos h2]; exact doT2 h hi hn hm o h1 h2
 rw [if_neg h2,if_neg h2]
 by_cases h3:o.k=3
 ·rw [if_pos h3,if_neg (by omega)]; exact doT3 h hi hn hm o h1 h2 h3
 rw [if_neg h3]
 by_cases h10:o.k=10
 ·rw [if_pos h10,if_pos h10]; exact doT10 h hi hn hm o h1 h2 h3 (by omega) (by omega) (by omega) (by omega) (by omega) h10
 rw [if_neg h10,if_neg h10]
 by_cases h4:o.k=4
 ·rw [gd (j:=1) (by omega) (by decide) (by decide)]; exact doT4 h hi hn hm o h1 h2 h3 h4
 by_cases h5:o.k=5
 ·rw [gd (j:=2) (by omega) (by decide) (by decide)]; exact doT5 h hi hn hm o h1 h2 h3 h4 h5
 by_cases h6:o.k=6
 ·rw [gd (j:=3) (by omega) (by decide) (by decide)]; exact doT6 h hi hn hm o h1 h2 h3 h4 h5 h6
 by_cases h7:o.k=7
 ·rw [gd (j:=4) (by omega) (by decide) (by decide)]; exact doT7 h hi hn hm o h1 h2 h3 h4 h5 h6 h7
 by_cases h8:o.k=8
 ·rw [gd (j:=5) (by omega) (by decide) (by decide)]; exact doT8 h hi hn hm o h1 h2 h3 h4 h5 h6 h7 h8
 rw [gdo_id (by omega)]
 exact doT0 h hi hn hm o h1 h2 h3 h4 h5 h6 h7 h8 h10
end
end Lc
namespace Lc
open Go.RowKit Ba Mem En Go.Proofs.YtpiiblkiddcgcaaGreat.Ty Mo Go.Proofs.YtpiiblkiddcgcaaGreat.St Co
open Ri (MsgV tickV hearV)
open Qu (dropL atS btw firstA atF)
open Le (hasL ofL setL setE endL zeroL atP isS isT isP)
open Gr (loadR)
def key (l:LeaseV):Int×Int×Int:=(l.se,l.ca,l.fl)
def KR (a b:Int×Int×Int):Prop:=a.1≠b.1∧a.2.1≠b.2.1
structure UQ (K:KV):Prop where
  l:(K.L.map key).Pairwise KR
  q:(K.Q.map AskV.se).Pairwise (·≠·)
theorem find_none {α:Type} {p:α→Bool} {ls:List α} (h:(ls.findIdx? p).isSome=false):∀ x∈ls,p x=false:=by
 intro x hx
 have:ls.findIdx? p=none:=by simpa using h
 exact List.findIdx?_eq_none_iff.1 this x hx
theorem erase_filter {α:Type} (f:α→Int) (s:Int):∀ ls:List α,(ls.map f).Pairwise (·≠·)→(match ls.findIdx? (fun a=>f a == s) with | some k=>ls.eraseIdx k | none=>ls)=ls.filter (fun a=>f a != s)
  | [],_=>rfl
  | a::r,h=>by
    rw [List.map_cons,List.pairwise_cons] at h
    have ih:=erase_filter f s r h.2
    rw [List.findIdx?_cons]
    cases e:(f a == s) with
    | true =>
      have e1:f a=s:=by simpa using e
      have hr:r.filter (fun a=>f a != s)=r:=List.filter_eq_self.2 fun b hb=>by
        have:=h.1 (f b) (List.mem_map.2 ⟨b,hb,rfl⟩)
        simp only [bne_iff_ne,ne_eq]
        omega
      rw [List.filter_cons_of_neg (by simp [e1]),hr]; rfl
    | false =>
      rw [List.filter_cons_of_pos (by have : ¬ f a = s := by simpa using e
                                      simpa using this)]
      cases e2:r.findIdx? (fun a=>f a == s) with
      | none=>rw [e2] at ih; simp only [] at ih; rw [← ih]; rfl
      | some k=>rw [e2] at ih; simp only [] at ih; rw [← ih]; rfl
theorem key_se {ls:List LeaseV} (h:(ls.map key).Pairwise KR):(ls.map LeaseV.se).Pairwise (·≠·):=by
  rw [List.pairwise_map] at h ⊢
  exact h.imp fun h=>h.1
theorem end_filter {ls:List LeaseV} (h:(ls.map key).Pairwise KR) (s:Int):endL ls s=ls.filter (fun l=>l.se != s):=erase_filter LeaseV.se s ls (key_se h)
theorem drop_filter {ls:List AskV} (h:(ls.map AskV.se).Pairwise (·≠·)) (s:Int):dropL ls s=ls.filter (fun l=>l.se != s):=erase_filter AskV.se s ls h
theorem end_no {ls:List LeaseV} {s:Int} (h:¬ hasL ls s=true):endL ls s=ls:=by
 unfold endL; unfold hasL at h
 cases e:atP ls (isS s) with
 | none=>rfl
 | some k=>rw [e] at h; exact absurd rfl h
theorem set_key (c:CfgV) (ls:List LeaseV) (x:LeaseV):(setL c ls x).map key=ls.map key:=by
 unfold setL; split
 ·split
  ·rename_i k hk
   obtain ⟨hl,h1,_⟩:=Le.atP_some hk
   have h2:=h1 hl
   unfold isT at h2
   simp only [Bool.and_eq_true,beq_iff_eq] at h2
   apply List.ext_getElem
   ·simp
   ·intro i _ h4
    have h4:i < ls.length:=by simpa using h4
    rw [List.getElem_map,List.getElem_map,List.getElem_set]
    split
    ·rename_i e; subst e
     unfold key; rw [h2.1.1,h2.1.2,h2.2]
    ·rfl
  ·rfl
 ·rfl
section
variable {K:KV}
theorem UQ.new (c:CfgV):UQ (newK c):=⟨by simp [newK],by simp [newK]⟩
theorem UQ.ans (h:UQ K) (a:AskV):UQ (ansK K a):=by
  refine ⟨h.l, ?_⟩
  unfold ansK ansQ
  show ((if _ then _ else _:List AskV).map AskV.se).Pairwise (·≠·)
  split
  · split
    · exact h.q
    · unfold Qu.putL; split
      · rename_i he
        unfold Qu.putE at he
        split at he
        · cases he
        · rename_i hn
          rw [List.map_append,List.pairwise_append]
          refine ⟨h.q,by simp,fun x hx y hy=>?_⟩
          obtain ⟨b,hb,rfl⟩:=List.mem_map.1 hx
          have:=find_none (p:=Qu.isS a.se) (ls:=K.Q) (by simpa [atS] using hn) b hb
          have hy:y=a.se:=by simpa using hy
          subst hy
          simpa [Qu.isS] using this
      · exact h.q
  · exact h.q
theorem UQ.end_ (h:UQ K) (s:Int):UQ (endK K s):=by
 unfold Co.endK; split
 ·exact ⟨h.l.sublist ((end_sub _ _).map _),h.q⟩
 ·exact h
theorem UQ.set (h:UQ K) (l:LeaseV) (o:Bool):UQ (setK K l o):=by
 unfold setK; split
 ·exact h.end_ _
 ·exact ⟨by show ((setL _ _ _).map key).Pairwise KR; rw [set_key]; exact h.l,h.q⟩
theorem UQ.hear (h:UQ K) (s:Int) (x:MsgV):UQ (hearK K s x):=by
 unfold hearK; split
 ·exact h.set _ _
 ·exact h
theorem UQ.gone (h:UQ K) (s:Int):UQ (goneK K s) :=
 ⟨(h.end_ s).l,h.q.sublist ((drop_sub _ _).map _)⟩
theorem UQ.grp (h:UQ K) (G:Gr.GrV):UQ { K with G:=G }:=⟨h.l,h.q⟩
theorem UQ.fold (h:UQ K) (k:Nat):UQ (foldK K k).1:=by
 have key:∀ (ls:List LeaseV) (x:KV×List EvV),UQ x.1→UQ (ls.foldl stepK x).1:=by
  intro ls
  induction ls with
  | nil=>intro x h; exact h
  | cons l r ih=>intro x h; rw [List.foldl_cons]; exact ih _ (h.set _ _)
 exact key _ _ (h.grp _)
theorem UQ.grant (h:UQ K):UQ (grantK K):=by
 unfold grantK; split
 ·exact h
 ·rename_i a ha
  refine ⟨?_,h.q.sublist ((drop_sub _ _).map _)⟩
  show ((Le.putL _ _ _).map key).Pairwise KR
  unfold Le.putL; split
  ·rename_i he
   unfold Le.putE at he
   split at he
   ·split at he
    ·cases he
    ·rename_i hn
     rw [List.map_append,List.pairwise_append]
     refine ⟨h.l,by simp,fun x hx y hy=>?_⟩
     obtain ⟨b,hb,rfl⟩:=List.mem_map.1 hx
     have hy:y=Lc.key (grL K a):=by simpa using hy
     subst hy
     have:=find_none (p:=isP (grL K a)) (ls:=K.L) (by simpa [atP] using hn) b hb
     unfold isP at this
     simp only [Bool.or_eq_false_iff,beq_eq_false_iff_ne] at this
     exact this
   ·cases he
  ·exact h.l
theorem UQ.tick (h:UQ K):UQ (tickK K):=(h.fold _).grant
theorem UQ.obS {x:KV×List EvV} (h:UQ x.1) (l:LeaseV):UQ (obStep x l).1:=by
 unfold obStep; split
 ·exact (h.grp _).hear _ _
 ·split
  ·exact (h.grp _).hear _ _
  ·exact h
theorem UQ.ob (h:UQ K) (k:Nat):UQ (obF K k).1:=by
 have key:∀ (ls:List LeaseV) (x:KV×List EvV),UQ x.1→UQ (ls.foldl obStep x).1:=by
  intro ls
  induction ls with
  | nil=>intro x h; exact h
  | cons l r ih=>intro x h; rw [List.foldl_cons]; exact ih _ (UQ.obS h l)
 exact key _ _ h
theorem UQ.do_ (h:UQ K) (o:KopV):UQ (doK K o):=by
 unfold doK
 split
 ·exact h.ans _
 split
 ·exact h.hear _ _
 split
 ·exact h.gone _
 split
 ·exact UQ.ob h _
 ·exact h.grp _
end
end Lc
namespace Lc
open Go.RowKit Ba Mem En Go.Proofs.YtpiiblkiddcgcaaGreat.Ty Mo Go.Proofs.YtpiiblkiddcgcaaGreat.St Co
open Ri (MsgV tickV hearV trV sp rn mayRe)
open Qu (dropL atS btw firstA atF)
open Le (hasL ofL setL setE endL zeroL atP isS isT isP goodB)
open Tm (cl)
open Gr (loadR)
def bp (c:CfgV) (ph:Int):Int:=if ph=1 then trV c else if ph=2 then trV c+sp c.ho else if ph=3 then 2*trV c+sp c.ho else 2*trV c+2*sp c.ho
structure Bn (c:CfgV) (l:LeaseV):Prop where
 re:0≤l.re∧l.re≤rn c.re
 un:l.un≤l.gr+bp c l.ph+sp c.ho*l.re
 gd:goodB c l=true
 gr:0≤l.gr∧l.gr≤1000000
structure LI (c:CfgV) (now:Int) (l:LeaseV):Prop extends Bn c l where
 lt:now < l.un
theorem good_ph {c:CfgV} {l:LeaseV} (h:goodB c l=true):1≤l.ph∧l.ph≤4:=by
 unfold goodB at h
 simp only [Bool.and_eq_true,decide_eq_true_eq] at h
 exact ⟨h.1.2,h.2⟩
theorem good_of {c:CfgV} {l x:LeaseV} (h:goodB c l=true) (h1:x.se=l.se∧x.fl=l.fl∧x.fm=l.fm∧x.to=l.to∧x.ma=l.ma∧x.ca=l.ca) (h2:1≤x.ph∧x.ph≤4):goodB c x=true:=by
 unfold goodB Le.askOf at h ⊢
 obtain ⟨e1,e2,e3,e4,e5,e6⟩:=h1
 rw [e1,e2,e3,e4,e5,e6]
 simp only [Bool.and_eq_true,decide_eq_true_eq] at h ⊢
 exact ⟨⟨h.1.1,h2.1⟩,h2.2⟩
theorem cl_lt {a b:Int} (h:¬ cl a≤cl b) (hb:0≤b∧b≤1000000):b < a:=by
 unfold cl at h; (repeat' split at h) <;> omega
theorem cl_add {a b:Int} (ha:0≤a∧a≤1000000) (hb:0≤b∧b≤10000):cl (cl a+cl b)=a+b:=by
 rw [Tm.cl_id a (by omega) (by omega),Tm.cl_id b (by omega) (by omega),Tm.cl_id _ (by omega) (by omega)]
section
variable {c:CfgV} {l:LeaseV} {now:Int}
theorem rn_hi (n:Int):rn n≤1000:=by unfold rn; repeat' split <;> omega
theorem Bn.tick (h:Bn c l) (hn:0≤now∧now≤1000000) (x:CarV) (ho:(tickV c l x now).2.2=false):LI c now (tickV c l x now).1:=by
 have hs:=Ri.sp_lo c.ho
 have hs2:=Ri.sp_hi c.ho
 have hp:=good_ph h.gd
 have hr:=h.re
 have hu:=h.un
 have ha:=cl_add hn (b:=sp c.ho) (by omega)
 unfold tickV at ho ⊢
 split at ho
 ·cases ho
 rename_i hl
 rw [if_neg hl]
 have hlt:now < l.un:=cl_lt (fun h=>hl (.inr h)) hn
 split
 ·rename_i h1
  refine ⟨⟨hr, ?_,good_of h.gd ⟨rfl,rfl,rfl,rfl,rfl,rfl⟩ (by show 1≤(2:Int)∧(2:Int)≤4; decide),h.gr⟩,by show now < cl _; rw [ha]; omega⟩
  show cl _≤l.gr+bp c 2+sp c.ho*l.re
  rw [ha]; rw [h1.1] at hu
  have e1:bp c 1=trV c:=rfl
  have e2:bp c 2=trV c+sp c.ho:=rfl
  omega
 ·split
  ·rename_i h1
   refine ⟨⟨hr, ?_,good_of h.gd ⟨rfl,rfl,rfl,rfl,rfl,rfl⟩ (by show 1≤(4:Int)∧(4:Int)≤4; decide),h.gr⟩,by show now < cl _; rw [ha]; omega⟩
   show cl _≤l.gr+bp c 4+sp c.ho*l.re
   rw [ha]; rw [h1.1] at hu
   have e1:bp c 3=2*trV c+sp c.ho:=rfl
   have e2:bp c 4=2*trV c+2*sp c.ho:=rfl
   omega
  ·exact ⟨⟨hr,hu,good_of h.gd ⟨rfl,rfl,rfl,rfl,rfl,rfl⟩ hp,h.gr⟩,hlt⟩
theorem LI.hear (h:LI c now l) (hn:0≤now∧now≤1000000) (x:CarV) (m:MsgV):LI c now (hearV c l x now m).1:=by
 have hs:=Ri.sp_lo c.ho
 have hs2:=Ri.sp_hi c.ho
 have ht:=Ri.tr_lo c
 have ht2:=Ri.tr_hi c
 have hp:=good_ph h.gd
 have hr:=h.re
 have hu:=h.un
 have hlt:=h.lt
 have ha:=cl_add hn (b:=sp c.ho) (by omega)
 have hb:=cl_add hn (b:=trV c) (by omega)
 have same:LI c now ⟨l.se,l.fl,l.fm,l.to,l.ma,l.ca,l.ph,l.un,l.re,l.gr⟩:=h
 unfold hearV
 split
 ·rename_i h1
  split
  ·refine ⟨⟨hr, ?_,good_of h.gd ⟨rfl,rfl,rfl,rfl,rfl,rfl⟩ (by show 1≤(3:Int)∧(3:Int)≤4; decide),h.gr⟩,by show now < cl _; rw [hb]; omega⟩
   show cl _≤l.gr+bp c 3+sp c.ho*l.re
   rw [hb]; rw [h1.2] at hu
   have e1:bp c 2=trV c+sp c.ho:=rfl
   have e2:bp c 3=2*trV c+sp c.ho:=rfl
   omega
  ·exact same
 ·split
  ·exact same
  ·split
   ·rename_i h1
    have hm:=h1.2
    unfold mayRe at hm
    simp only [Bool.and_eq_true,decide_eq_true_eq] at hm
    have hx:=rn_hi c.re
    have hw:IntKind.i64.wrap (l.re+1)=l.re+1:=Gr.wrG _ (by omega) (by omega)
    refine ⟨⟨?_, ?_,good_of h.gd ⟨rfl,rfl,rfl,rfl,rfl,rfl⟩ hp,h.gr⟩,by show now < cl _; rw [ha]; omega⟩
    ·show 0≤IntKind.i64.wrap (l.re+1)∧IntKind.i64.wrap (l.re+1)≤_
     rw [hw]; omega
    ·show cl _≤l.gr+bp c l.ph+sp c.ho*IntKind.i64.wrap (l.re+1)
     rw [hw,ha,Int.mul_add,Int.mul_one]; omega
   ·exact same
theorem set_all {ls:List LeaseV} {x:LeaseV} (hU:(ls.map key).Pairwise KR) (hg:goodB c x=true):∀ y∈setL c ls x,y=x∨(y∈ls∧key y≠key x):=by
 intro y hy
 unfold setL at hy
 rw [if_pos hg] at hy
 split at hy
 ·rename_i k hat
  obtain ⟨hl,h1,_⟩:=Le.atP_some hat
  have h2:=h1 hl
  unfold isT at h2
  simp only [Bool.and_eq_true,beq_iff_eq] at h2
  obtain ⟨i,hi,rfl⟩:=List.getElem_of_mem hy
  rw [List.getElem_set]
  split
  ·exact .inl rfl
  ·rename_i hne
   have hi:i < ls.length:=by simpa using hi
   refine .inr ⟨List.getElem_mem hi,fun e=>?_⟩
   have e:(ls[i]).se=x.se:=congrArg Prod.fst e
   rw [List.pairwise_map,List.pairwise_iff_getElem] at hU
   rw [← h2.1.1] at e
   rcases Nat.lt_or_gt_of_ne hne with h | h
   ·exact (hU k i hl hi h).1 e.symm
   ·exact (hU i k hi hl h).1 e
 ·rename_i hat
  refine .inr ⟨hy,fun e=>?_⟩
  have:=List.findIdx?_eq_none_iff.1 hat y hy
  have e1:y.se=x.se:=congrArg Prod.fst e
  have e2:y.ca=x.ca:=congrArg (fun z=>z.2.1) e
  have e3:y.fl=x.fl:=congrArg (fun z=>z.2.2) e
  simp [isT,e1,e2,e3] at this
theorem tickV_key (x:CarV):key (tickV c l x now).1=key l:=by
 unfold tickV; (repeat' split) <;> rfl
theorem hearV_key (x:CarV) (m:MsgV):key (hearV c l x now m).1=key l:=by
 unfold hearV; (repeat' split) <;> rfl
end
section
variable {K:KV}
theorem end_now (K:KV) (s:Int):(Co.endK K s).G.now=K.G.now:=by unfold Co.endK; split; exact (Gr.give_w _).2; rfl
theorem set_now (K:KV) (l:LeaseV) (o:Bool):(setK K l o).G.now=K.G.now:=by
 unfold setK; split
 ·exact end_now _ _
 ·exact (Gr.aim_w _ _ _).2
theorem end_ne (h:UQ K) (s:Int):∀ y∈(Co.endK K s).L,y∈K.L∧y.se≠s:=by
 intro y hy
 unfold Co.endK at hy
 split at hy
 ·change y∈endL K.L s at hy
  rw [end_filter h.l] at hy
  have:=List.mem_filter.1 hy
  exact ⟨this.1,by simpa using this.2⟩
 ·rename_i hn
  refine ⟨hy,fun e=>?_⟩
  have:=find_none (p:=isS s) (ls:=K.L) (by simpa [hasL,atP] using hn) y hy
  simp [isS,e] at this
def EI (c:CfgV) (K:KV):Prop:=∀ l∈K.L,LI c K.G.now l
section
variable {c:CfgV} {n T m:Nat}
theorem EI.sub {K':KV} (h:EI c K) (hn:K'.G.now=K.G.now) (hs:∀ y∈K'.L,y∈K.L):EI c K':=fun l hl=>by rw [hn]; exact h l (hs l hl)
theorem EI.set (hc:K.G.c=c) (hU:UQ K) (h:EI c K) {l:LeaseV} (hl:LI c K.G.now l) (o:Bool):EI c (setK K l o):=by
 intro y hy
 rw [set_now]
 unfold setK at hy
 split at hy
 ·exact h y (end_ne hU _ y hy).1
 ·change y∈setL K.G.c K.L l at hy
  rw [hc] at hy
  rcases set_all hU.l hl.gd y hy with rfl | hy
  ·exact hl
  ·exact h y hy.1
theorem EI.hear (hc:K.G.c=c) (hU:UQ K) (hn:0≤K.G.now∧K.G.now≤1000000) (h:EI c K) (s:Int) (x:MsgV):EI c (hearK K s x):=by
 unfold hearK; split
 ·rename_i hL
  refine EI.set hc hU h ?_ _
  unfold hearR
  rw [hc]
  exact (h _ (has_mem hL).1).hear hn _ _
 ·exact h
theorem EI.fold {now:Int} (hn:0≤now∧now≤1000000):∀ (rest:List LeaseV) (x:KV×List EvV),x.1.G.now=now→x.1.G.c=c→UQ x.1→(∀ y∈rest,Bn c y)→(∀ y∈x.1.L,y∈rest∨LI c now y)→∀ y∈(rest.foldl stepK x).1.L,LI c now y
 | [],x,_,_,_,_,h=>fun y hy=>(h y hy).resolve_left (by simp)
 | l::r,x,h1,h2,h3,h4,h5=>by
  rw [List.foldl_cons]
  have hs:(stepK x l).1=setK x.1 (stepR x.1 l).1 (stepR x.1 l).2.2:=rfl
  refine EI.fold hn r (stepK x l) (by rw [hs,set_now]; exact h1) (by rw [hs,setK_c]; exact h2) (by rw [hs]; exact h3.set _ _) (fun y hy=>h4 y (List.mem_cons_of_mem _ hy)) ?_
  intro y hy
  rw [hs] at hy
  have hk:key (stepR x.1 l).1=key l:=by unfold stepR; exact tickV_key _
  cases ho:(stepR x.1 l).2.2 with
  | true =>
   rw [ho] at hy
   unfold setK at hy
   rw [if_pos rfl] at hy
   obtain ⟨hy1,hy2⟩:=end_ne h3 _ y hy
   rcases h5 y hy1 with h | h
   ·rcases List.mem_cons.1 h with rfl | h
    ·exact absurd (congrArg Prod.fst hk).symm hy2
    ·exact .inl h
   ·exact .inr h
  | false =>
   have hl:LI c now (stepR x.1 l).1:=by
    unfold stepR at ho ⊢
    rw [h1,h2] at ho ⊢
    exact (h4 l (List.mem_cons_self ..)).tick hn _ ho
   rw [ho] at hy
   unfold setK at hy
   rw [if_neg (by decide)] at hy
   change y∈setL x.1.G.c x.1.L _ at hy
   rw [h2] at hy
   rcases set_all h3.l hl.gd y hy with rfl | ⟨hy1,hy2⟩
   ·exact .inr hl
   ·rcases h5 y hy1 with h | h
    ·rcases List.mem_cons.1 h with rfl | h
     ·exact absurd hk.symm hy2
     ·exact .inl h
    ·exact .inr h
theorem EI.grant (hc:K.G.c=c) (hn:0≤K.G.now∧K.G.now≤1000000) (h:EI c K):EI c (grantK K):=by
 unfold grantK; split
 ·exact h
 ·rename_i a ha
  intro y hy
  have hnow:(grK K a).G.now=K.G.now:=(Gr.take_w _ _).2
  rw [hnow]
  change y∈Le.putL _ _ _ at hy
  unfold Le.putL at hy
  split at hy
  ·rename_i he
   rcases List.mem_append.1 hy with hy | hy
   ·exact h y hy
   ·rw [List.mem_singleton] at hy
    subst hy
    have ht:=Ri.tr_lo c
    have ht2:=Ri.tr_hi c
    have e:=cl_add hn (b:=trV c) (by omega)
    have hg:goodB c (grL K a)=true:=by
     unfold Le.putE at he
     split at he
     ·rename_i hg; rw [hc] at hg; exact hg
     ·cases he
    have hun:(grL K a).un=K.G.now+trV c:=by show cl (cl K.G.now+cl (trV K.G.c))=_; rw [hc,e]
    refine ⟨⟨?_, ?_,hg,hn⟩,by rw [hun]; omega⟩
    ·show (0:Int)≤0∧0≤rn c.re
     unfold rn; (repeat' split) <;> omega
    ·rw [hun]
     show K.G.now+trV c≤K.G.now+trV c+sp c.ho*0
     omega
  ·exact h y hy
end
end
structure PI (c:CfgV) (n T:Nat) (K:KV):Prop where
 k:KI c n T T K
 u:UQ K
 e:EI c K
 t:K.G.now≤T
section
variable {c:CfgV} {n T:Nat} {K:KV}
theorem PI.new (c:CfgV):PI c 0 0 (newK c):=⟨KI.new c,UQ.new c,(fun l hl=>by cases hl),(by show (0:Int)≤0; omega)⟩
theorem PI.more {n' T':Nat} (h:PI c n T K) (h1:n≤n') (h2:T≤T'):PI c n' T' K:=⟨h.k.more h1 h2 h2,h.u,h.e,by have:=h.t; omega⟩
theorem hear_now (K:KV) (s:Int) (x:MsgV):(hearK K s x).G.now=K.G.now:=by unfold hearK; split; exact set_now _ _ _; rfl
theorem obS_pi {x:KV×List EvV} (hT:T≤1000000) (h:PI c n T x.1) (l:LeaseV):PI c n T (obStep x l).1:=by
 have ld:∀ v,PI c n T (ldK x.1 l v):=fun v=>⟨KI.ld h.k l v,h.u.grp _,EI.sub h.e (Gr.load_w _ _).2 (fun _ hy=>hy),by show (loadR x.1.G l.ca v).1.now≤T; rw [(Gr.load_w _ _).2]; exact h.t⟩
 have hr:∀ v m,PI c n T (hearK (ldK x.1 l v) l.se m):=fun v m=>⟨(ld v).k.hear _ _,(ld v).u.hear _ _,EI.hear (ld v).k.g.1 (ld v).u ⟨(ld v).k.now.1,by have:=(ld v).t; omega⟩ (ld v).e _ _,by rw [hear_now]; exact (ld v).t⟩
 unfold obStep; split
 ·exact hr _ _
 ·split
  ·exact hr _ _
  ·exact h
theorem PI.ob (hT:T≤1000000) (h:PI c n T K) (k:Nat):PI c n T (obF K k).1:=by
 have key:∀ (ls:List LeaseV) (x:KV×List EvV),PI c n T x.1→PI c n T (ls.foldl obStep x).1:=by
  intro ls
  induction ls with
  | nil=>intro x h; exact h
  | cons l r ih=>intro x h; rw [List.foldl_cons]; exact ih _ (obS_pi hT h l)
 exact key _ _ h
theorem PI.do_ (h:PI c n T K) (hT:T≤1000000) (o:KopV):PI c (n+1) T (doK K o):=by
 have hk:=KI.do_ h.k o
 have hu:=h.u.do_ o
 have hn:0≤K.G.now∧K.G.now≤1000000:=⟨h.k.now.1,by have:=h.t; omega⟩
 refine ⟨hk,hu, ?_, ?_⟩
 ·unfold doK
  split
  ·exact h.e
  split
  ·exact EI.hear h.k.g.1 h.u hn h.e _ _
  split
  ·exact EI.sub h.e (end_now K o.q.se) (fun y hy=>(end_ne h.u _ y hy).1)
  split
  ·exact (PI.ob hT h _).e
  ·exact EI.sub h.e (gdo_w _ _).1 (fun _ hy=>hy)
 ·unfold doK
  split
  ·exact h.t
  split
  ·rw [hear_now]; exact h.t
  split
  ·show (Co.endK K o.q.se).G.now≤T; rw [end_now]; exact h.t
  split
  ·exact (PI.ob hT h _).t
  ·show (gdo K.G o).now≤T; rw [(gdo_w _ _).1]; exact h.t
theorem fold_now (K:KV) (k:Nat):(foldK K k).1.G.now=(tkK1 K).G.now:=by
 have key:∀ (ls:List LeaseV) (x:KV×List EvV),(ls.foldl stepK x).1.G.now=x.1.G.now:=by
  intro ls
  induction ls with
  | nil=>intro x; rfl
  | cons l r ih=>intro x; rw [List.foldl_cons,ih]; exact set_now _ _ _
 exact key _ _
theorem grant_now (K:KV):(grantK K).G.now=K.G.now:=by unfold grantK; split; rfl; exact (Gr.take_w _ _).2
theorem tk1_now (K:KV) (h:0≤K.G.now∧K.G.now≤1000000):(tkK1 K).G.now=K.G.now+1:=by
 show cl (cl K.G.now+cl 1)=_
 exact cl_add h (by decide)
theorem PI.tick (h:PI c n T K) (hT:T < 1000000):PI c n (T+1) (tickK K):=by
 have hn:0≤K.G.now∧K.G.now≤1000000:=⟨h.k.now.1,by have:=h.t; omega⟩
 have h1:=tk1_now K hn
 have hf:=fold_now K K.L.length
 have hn2:0≤(tkK1 K).G.now∧(tkK1 K).G.now≤1000000:=by rw [h1]; have:=h.t; omega
 refine ⟨h.k.tick,h.u.tick, ?_, ?_⟩
 ·refine EI.grant ((h.k.fold _).g.1) (by rw [hf]; exact hn2) ?_
  intro y hy
  rw [hf]
  have hL:K.L.take K.L.length=K.L:=List.take_length
  unfold foldK at hy
  rw [hL] at hy
  exact EI.fold hn2 K.L (tkK1 K,[]) rfl h.k.g.1 (h.u.grp _) (fun y hy=>(h.e y hy).toBn) (fun y hy=>.inl hy) y hy
 ·show (grantK _).G.now≤_
  rw [grant_now,hf,h1]
  have:=h.t
  omega
def boundV (c:CfgV):Int:=2*trV c+sp c.ho*(2+rn c.re)
theorem LI.bound {l:LeaseV} {now:Int} (h:LI c now l):now - l.gr < boundV c:=by
 have hp:=good_ph h.gd
 have h1:=h.un
 have h2:=h.lt
 have hs:=Ri.sp_lo c.ho
 have ht:=Ri.tr_lo c
 have hb:bp c l.ph≤2*trV c+2*sp c.ho:=by unfold bp; (repeat' split) <;> omega
 have hm:sp c.ho*l.re≤sp c.ho*rn c.re:=Int.mul_le_mul_of_nonneg_left h.re.2 (by omega)
 unfold boundV
 rw [Int.mul_add]
 omega
end
end Lc
namespace Lc
open Go.RowKit Ba Mem En Go.Proofs.YtpiiblkiddcgcaaGreat.Ty Mo Go.Proofs.YtpiiblkiddcgcaaGreat.St Co
open Ri (trV sp rn)
open Qu (btw)
set_option maxRecDepth 100000
attribute [local irreducible] Go.Calls
theorem nearestT (n lo hi:Int) (w:World):Calls Tryz.prog 189 #[.int .i64 n,.int .i64 lo,.int .i64 hi] w fun e w'=>e=.returned (.int .i64 (btw n lo hi))∧Since w w':=by
 refine ent tab_ok [.i .i64 n,.i .i64 lo,.i .i64 hi] Tryz.func189 Tryz.ntmps189 rfl rfl ?_
 repeat' (first | refine gs_ ?_|((conv=>whnf); first | refine b3_ (fun h=>?_) (fun h=>?_)|refine fin_s ?_))
 all_goals (refine congrArg (Value.int .i64) ?_; unfold btw; (repeat' split) <;> omega)
theorem spanT (n:Int) (w:World):Calls Tryz.prog 132 #[.int .i64 n] w fun e w'=>e=.returned (.int .i64 (sp n))∧Since w w':=by
 refine ent tab_ok [.i .i64 n] Tryz.func132 Tryz.ntmps132 rfl rfl ?_
 repeat' (first | refine gs_ ?_|((conv=>whnf); first | refine callS (f:=189) (.i .i64 (btw n 1 1000)) (nearestT n 1 1000) ?_|refine fin_s ?_))
 all_goals rfl
theorem floorsT (n:Int) (w:World):Calls Tryz.prog 112 #[.int .i64 n] w fun e w'=>e=.returned (.int .i64 (fl n))∧Since w w':=by
 refine ent tab_ok [.i .i64 n] Tryz.func112 Tryz.ntmps112 rfl rfl ?_
 repeat' (first | refine gs_ ?_|((conv=>whnf); first | refine b3_ (fun h=>?_) (fun h=>?_)|refine fin_s ?_))
 all_goals (refine congrArg (Value.int .i64) ?_; unfold fl; (repeat' split) <;> omega)
theorem renewT (c:CfgV) (w:World):Calls Tryz.prog 197 #[(aCfg c)] w fun e w'=>e=.returned (.int .i64 (rn c.re))∧Since w w':=by
 refine ent tab_ok [.a (sCfg c)] Tryz.func197 Tryz.ntmps197 rfl rfl ?_
 repeat' (first | refine gs_ ?_|((conv=>whnf); first | intro b | refine callS (f:=189) (.i .i64 (btw c.re 0 1000)) (nearestT c.re 0 1000) ?_|refine fin_s ?_))
 all_goals rfl
theorem quotaT (c:CfgV) (w:World):Calls Tryz.prog 138 #[(aCfg c)] w fun e w'=>e=.returned (.int .i64 (btw c.qo 1 8))∧Since w w':=by
 refine ent tab_ok [.a (sCfg c)] Tryz.func138 Tryz.ntmps138 rfl rfl ?_
 repeat' (first | refine gs_ ?_|((conv=>whnf); first | intro b | refine callS (f:=189) (.i .i64 (btw c.qo 1 8)) (nearestT c.qo 1 8) ?_|refine fin_s ?_))
 all_goals rfl
theorem tripRT (c:CfgV) (w:World):Calls Tryz.prog 140 #[(aCfg c)] w fun e w'=>e=.returned (.int .i64 (trV c))∧Since w w':=by
 have h1:=fl_lo c.fl
 have h2:=fl_hi c.fl
 have h3:=Ri.sp_lo c.dr
 have h4:=Ri.sp_hi c.dr
 refine ent tab_ok [.a (sCfg c)] Tryz.func140 Tryz.ntmps140 rfl rfl ?_
 repeat' (first | refine gs_ ?_|((conv=>whnf); first | intro b | refine wr_i ?_|refine callS (f:=132) (.i .i64 (sp c.dr)) (spanT c.dr) ?_|refine callS (f:=112) (.i .i64 (fl c.fl)) (floorsT c.fl) ?_|refine fin_s ?_))
 all_goals rfl
end Lc
namespace En
open Go.RowKit Ba Mem
section
variable {X:Cx} {s:St} {o:Oper}
theorem op_open {K:St→Prop} {π:Type} (i:Nat) {A:Asr} (row:π→Row) (hA:s.ob[i]?=some A) (hrw:A.rw=true) (hst:∀ w,A.st w→∃ p,(row p).g∈A.F∧(row p).pre.length=(row p).off∧Blk w (row p).g (row p).t (rowA [] (row p)))
  (hok:∀ p,okL 0 (row p).cs=true) (h:∀ p,OpVC X o ⟨s.fr,s.m++[row p],s.ob.eraseIdx i⟩ K):OpVC X o s K:=⟨fun a w Q hR=>by
 obtain ⟨p,h1,h2,h3⟩:=hst w (hR.h.obj A (List.mem_of_getElem? hA))
 have hE:=Ext.app s.m [row p]
 have hd:rowA (s.m++[row p]) (row p)=rowA [] (row p):=by unfold rowA; rw [denL0 (hok p)]
 refine Oper.wp_mono (fun a' w' ⟨s',r1,r2,r3⟩=>⟨s',r1,hE.trans r2,r3⟩) ((h p).out a w Q ⟨hR.ds,hR.sz,hR.fr.ext hE,hR.h.open_ hA hrw (row p) h1 (by rw [hd]; exact h3) (okL_mono (Nat.zero_le _) _ (hok p)) h2⟩)⟩
theorem cell_k {w:World} {g off k:Nat} {cs:List Value} {v:Value} (h:w.rangeAt g off cs) (hk:cs[k]?=some v):w.rangeAt g (off+k) [v]:=fun j u hj=>by
 cases j with
 | zero=>cases hj; exact h k v hk
 | succ j=>simp at hj
end
end En
namespace Rg
open Go.RowKit Ba Mem En Mo Go.Proofs.YtpiiblkiddcgcaaGreat.Ty Go.Proofs.YtpiiblkiddcgcaaGreat.St Gr
open Ct (cfgA carA)
open Et (carsO)
set_option maxRecDepth 100000
attribute [local irreducible] Go.Calls
structure RP where
 A1:Option Addr
 c1:Nat
 A2:Option Addr
 c2:Nat
def RO (lo q:Nat) (G:GrV) (P:RP) (w:World):Prop :=
 lo≤q∧Blk w q 72 (grpA G (.slice P.A1 G.cars.length P.c1) (.slice P.A2 G.waits.length P.c2))∧CarsAt lo P.A1 G.cars.length P.c1 G.cars w∧WaitsAt lo P.A2 G.waits.length P.c2 G.waits w
def FP (q:Nat) (P:RP):List Nat:=q::(blkOf P.A1++blkOf P.A2)
section
variable {w w':World} {lo q b:Nat} {G:GrV} {P:RP} {T:List Nat}
theorem RO.upd (k:Upd T w w') (h:RO lo q G P w) (hT:∀ g∈FP q P,g∉T):RO lo q G P w' :=
 ⟨h.1,k.blk h.2.1 (hT _ (by simp [FP])),k.own h.2.2.1 (fun g hg=>hT g (by simp [FP,hg])),k.own h.2.2.2 (fun g hg=>hT g (by simp [FP,hg]))⟩
theorem RO.low (h:RO lo q G P w):∀ g∈FP q P,lo≤g:=by
 intro g hg
 rcases List.mem_cons.1 hg with rfl | hg
 ·exact h.1
 ·exact (List.mem_append.1 hg).elim (own_low h.2.2.1 g) (own_low h.2.2.2 g)
theorem RO.lt (h:RO lo q G P w):∀ g∈FP q P,g < w.heap.size:=by
 intro g hg
 rcases List.mem_cons.1 hg with rfl | hg
 ·exact h.2.1.lt
 ·exact (List.mem_append.1 hg).elim (own_lt h.2.2.1 g) (own_lt h.2.2.2 g)
theorem RO.base {lo':Nat} (h:RO lo q G P w) (hb:lo'≤lo):RO lo' q G P w:=⟨Nat.le_trans hb h.1,h.2.1,own_base h.2.2.1 hb,own_base h.2.2.2 hb⟩
end
def rgO (lo q:Nat) (G:GrV) (P:RP) (rw:Bool):Asr:=⟨FP q P,rw,RO lo q G P,fun k h hs=>hs.upd k h,fun h=>h.lt⟩
abbrev roM (q:Nat) (G:GrV) (A1:Option Addr) (n1 c1:Nat) (A2:Option Addr) (n2 c2:Nat):List Row:=[⟨q,72,true,0,[],[.i .i64 G.c.ca,.i .i64 G.c.fl,.i .i64 G.c.ft,.i .i64 G.c.se,.i .i64 G.c.dr,.i .i64 G.c.dw,.i .i64 G.c.ho,.i .i64 G.c.re,.i .i64 G.c.yi,.i .i64 G.c.qu,.i .i64 G.c.qo,.i .i64 G.c.lo,.i .i64 G.c.sl,.i .i64 G.c.rt,.i .i64 G.c.cp,.i .i64 G.c.tr,.i .i64 G.c.de,.i .i64 G.c.wi,.v (.slice A1 n1 c1),.v (.slice A2 n2 c2),.i .i64 G.now],[],true⟩]
theorem hold_ro {lo q n:Nat} {G:GrV} {P:RP} {w:World} (hg:RO lo q G P w):Hold ⟨Tryz.prog,tab,FP q P,w,n,[]⟩ (roM q G P.A1 G.cars.length P.c1 P.A2 G.waits.length P.c2) [carsO lo P.A1 G.cars.length P.c1 G.cars true,waitsO lo P.A2 G.waits.length P.c2 G.waits true] w:=by
 obtain ⟨A1,c1,A2,c2⟩:=P
 obtain ⟨h0,B,O1,O2⟩:=hg
 have hq1:q∉blkOf A1:=own_ne_ty O1 B (by decide)
 have hq2:q∉blkOf A2:=own_ne_ty O2 B (by decide)
 refine Hold.addObj (Hold.addObj (Hold.addRow (m:=[]) (Hold.nil _ tab _ n w) ⟨q,72,true,0,[],[.i .i64 G.c.ca,.i .i64 G.c.fl,.i .i64 G.c.ft,.i .i64 G.c.se,.i .i64 G.c.dr,.i .i64 G.c.dw,.i .i64 G.c.ho,.i .i64 G.c.re,.i .i64 G.c.yi,.i .i64 G.c.qu,.i .i64 G.c.qo,.i .i64 G.c.lo,.i .i64 G.c.sl,.i .i64 G.c.rt,.i .i64 G.c.cp,.i .i64 G.c.tr,.i .i64 G.c.de,.i .i64 G.c.wi,.v (.slice A1 G.cars.length c1),.v (.slice A2 G.waits.length c2),.i .i64 G.now],[],true⟩ B (fun _=>.inl (by simp [FP])) (by intro q hq; cases hq) (by intro A hA; cases hA)) (carsO lo A1 G.cars.length c1 G.cars true) O1 (fun _ g hg=>.inl (List.mem_cons_of_mem _ (List.mem_append.2 (.inl hg)))) (by intro r hr _; simp only [List.nil_append,List.mem_singleton] at hr; subst hr; exact hq1) (by intro A hA; cases hA))
  (waitsO lo A2 G.waits.length c2 G.waits true) O2 (fun _ g hg=>.inl (List.mem_cons_of_mem _ (List.mem_append.2 (.inr hg)))) (by intro r hr _; simp only [List.nil_append,List.mem_singleton] at hr; subst hr; exact hq2) ?_
 intro A hA
 simp only [List.nil_append,List.mem_singleton] at hA
 subst hA
 intro _ g hg hg2
 rcases own_at O1 with ⟨h,_⟩ | ⟨g1,cur,h,_,B1,_⟩
 ·have h:A1=none:=h
  subst h; cases hg
 ·have h:A1=some ⟨g1,0,none⟩:=h
  subst h
  have:g=g1:=by simpa [blkOf,carsO] using hg
  subst this
  exact own_ne_ty O2 B1 (by decide) hg2
def RX (lo q:Nat) (P:RP) (w:World) (v:Value) (G:GrV) (e:Ending) (w':World):Prop:=∃ P':RP,e=.returned v∧RO lo q G P' w'∧Upd (FP q P) w w'∧∀ g∈FP q P',g∈FP q P∨w.heap.size≤g
theorem RX.parts {lo q:Nat} {P:RP} {w w':World} {v:Value} {G:GrV} {e:Ending} (h:RX lo q P w v G e w'):∃ x:RP,e=.returned v∧Blk w' q 72 (grpA G (.slice x.A1 G.cars.length x.c1) (.slice x.A2 G.waits.length x.c2))∧(pairO (carsO lo x.A1 G.cars.length x.c1 G.cars true) (waitsO lo x.A2 G.waits.length x.c2 G.waits true)).st w'∧Upd (q::(pairO (carsO lo P.A1 0 0 [] true) (waitsO lo P.A2 0 0 [] true)).F) w w'∧∀ g∈(pairO (carsO lo x.A1 G.cars.length x.c1 G.cars true) (waitsO lo x.A2 G.waits.length x.c2 G.waits true)).F,g∈(pairO (carsO lo P.A1 0 0 [] true) (waitsO lo P.A2 0 0 [] true)).F∨w.heap.size≤g:=by
 obtain ⟨x,h1,⟨h2,h3,h4,h5⟩,h6,h7⟩:=h
 refine ⟨x,h1,h3,⟨h4,h5⟩,h6,fun g hg=>?_⟩
 rcases h7 g (List.mem_cons_of_mem _ hg) with h | h
 ·rcases List.mem_cons.1 h with rfl | h
  ·rcases List.mem_append.1 hg with hg | hg
   ·exact absurd hg (own_ne_ty h4 h3 (by decide))
   ·exact absurd hg (own_ne_ty h5 h3 (by decide))
  ·exact .inl h
 ·exact .inr h
theorem fin_ro {lo q n n1 n2 c1 c2 lo1 lo2:Nat} (i j:Nat) {G:GrV} {A1 A2:Option Addr} {P:RP} {w:World} {V:Value} {v:SV} {cs:List SV} {ls:List CarV} {ws:List WaitV} {st:St}
  (hr:st.m[0]?=some ⟨q,72,true,0,[],cs,[],true⟩) (hi:st.ob[i]?=some (carsO lo1 A1 n1 c1 ls true)) (hj:st.ob[j]?=some (waitsO lo2 A2 n2 c2 ws true))
  (hv:den st.m v=V) (h0:lo≤q) (hl1:lo≤lo1) (hl2:lo≤lo2) (h1:n1=G.cars.length) (h2:n2=G.waits.length) (h3:ls=G.cars) (h4:ws=G.waits) (hcs:(denL st.m cs).toArray=grpA G (.slice A1 n1 c1) (.slice A2 n2 c2)) :
  Fin ⟨Tryz.prog,tab,FP q P,w,n,[]⟩ (RX lo q P w V G) v st:=by
 subst h1 h2 h3 h4
 refine fin fun w' hH=>?_
 have oc:=List.mem_of_getElem? hi
 have ow:=List.mem_of_getElem? hj
 refine ⟨⟨A1,c1,A2,c2⟩,by rw [hv],⟨h0, ?_,own_base (hH.obj _ oc) hl1,own_base (hH.obj _ ow) hl2⟩,hH.upd,fun g hg=>?_⟩
 ·have:=hH.row 0 _ hr rfl
  rw [rowA_nil rfl rfl] at this
  rw [← hcs]; exact this
 ·rcases List.mem_cons.1 hg with rfl | hg
  ·exact (hH.wf 0 _ hr rfl).2.2 rfl
  ·exact (List.mem_append.1 hg).elim (hH.own _ oc rfl g) (hH.own _ ow rfl g)
theorem fin_rc {lo q n n1 n2 c1 c2 lo1 lo2 g x:Nat} (k j:Nat) {G:GrV} {A2:Option Addr} {P:RP} {w:World} {V:Value} {v:SV} {cs ce:List SV} {ls:List CarV} {ws:List WaitV} {st:St} {y:CarV} (p:cPS lo1 g n1 c1 x ls)
  (hr:st.m[0]?=some ⟨q,72,true,0,[],cs,[],true⟩) (hk:st.m[k]?=some ⟨g,67,true,0+x*15,p.1.1,ce,p.1.2,true⟩) (hj:st.ob[j]?=some (waitsO lo2 A2 n2 c2 ws true))
  (hv:den st.m v=V) (h0:lo≤q) (hl1:lo≤lo1) (hl2:lo≤lo2) (h1:n1=G.cars.length) (h2:n2=G.waits.length) (h3:ls.set x y=G.cars) (h4:ws=G.waits) (hcs:(denL st.m cs).toArray=grpA G (.slice (some ⟨g,0,none⟩) n1 c1) (.slice A2 n2 c2)) (hce:(denL st.m ce).toArray=carA y) :
  Fin ⟨Tryz.prog,tab,FP q P,w,n,[]⟩ (RX lo q P w V G) v st:=by
 subst h1 h2 h4
 refine fin fun w' hH=>?_
 have ow:=List.mem_of_getElem? hj
 have hb:CarsAt lo1 (some ⟨g,0,none⟩) G.cars.length c1 G.cars w':=by
  have hw:=hH.row k _ hk rfl
  have q0:=p.2.2 y w' (by rw [← hce]; exact hw)
  rw [h3] at q0; exact q0
 refine ⟨⟨some ⟨g,0,none⟩,c1,A2,c2⟩,by rw [hv],⟨h0, ?_,own_base hb hl1,own_base (hH.obj _ ow) hl2⟩,hH.upd,fun b hg=>?_⟩
 ·have:=hH.row 0 _ hr rfl
  rw [rowA_nil rfl rfl] at this
  rw [← hcs]; exact this
 ·rcases List.mem_cons.1 hg with rfl | hg
  ·exact (hH.wf 0 _ hr rfl).2.2 rfl
  ·rcases List.mem_append.1 hg with hg | hg
   ·have e:b=g:=by simpa [blkOf] using hg
    rw [e]; exact (hH.wf k _ hk rfl).2.2 rfl
   ·exact hH.own _ ow rfl b hg
def waitE:Ek WaitV:=⟨76,4,waitL,waitL_len,waitL_one⟩
def carE:Ek CarV:=⟨67,15,carL,carL_len,carL_one⟩
end Rg
end Go.Proofs.YtpiiblkiddcgcaaGreat
