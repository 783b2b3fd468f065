/-
  Wanted: part 7.
  No condition.
-/
import Derived.Test.YtnoehplnmdajnaaGreatDoorPH6
import Derived.Test.YtnoehplnmdajnaaGreatDoorPH4
import Derived.RangeFuncNested
import Derived.RangeFuncLeaves
import Derived.RangeFuncOwn
import Derived.RangeFuncCalls
import Derived.Shelf.Abstract
import Derived.WalkKit
import Derived.TacticsIn
import Derived.RegionIn
import Derived.OrdersIn
import Derived.AtR
set_option linter.all false
namespace Go.Proofs.YtnoehplnmdajnaaGreatDoor
namespace Sp
open Go.RowKit Ba Mem En Go.Proofs.YtnoehplnmdajnaaGreatDoor.Ty Gw
open Co (Hold.ob)
open Sx Sw
set_option maxRecDepth 100000
def plV (b:Nat) (x:Bool×Nat):Value:=match x.1 with
 | true=>.iface 61 (.pointer (some ⟨b,x.2,none⟩))
 | false=>.iface 79 (.pointer (some ⟨b,x.2,none⟩))
def plE (b:Nat):Ek (Bool×Nat):=⟨20,1,fun x=>[plV b x],fun _=>rfl,fun a u hu=>by
 rw [List.mem_singleton] at hu; subst hu; obtain ⟨k,i⟩:=a; cases k <;> rfl⟩
def pl18:List (Bool×Nat):=[(true,0),(true,1),(true,2),(true,3),(true,4),(true,5),(true,6),(true,7),(true,8),(true,9),(true,10),(true,11),(true,12),(true,13),(true,14),(true,15),(true,16),(true,17)]
theorem pvMkE {X:Cx} {s:St} {o:Oper} {t:TypeId} {x:Operand} {v:SV} {v':Value} (ho:o.op=.makeInterface t x) (hx:evO x s.fr=some v) (hc:X.P.concrete t=true) (hv:den s.m v=v'):PV X o s (.v (.iface t v')):=by
 have:=pvMk (X:=X) (s:=s) ho hx hc
 rw [hv] at this
 exact this
attribute [local irreducible] Go.Calls
set_option maxHeartbeats 4000000 in
theorem placesP (b:Nat) (w:World):Calls Tryz.prog 30 #[.pointer (some ⟨b,0,none⟩)] w fun e w'=>∃ g:Nat,e=.returned (.slice (some ⟨g,0,none⟩) 18 18)∧(plE b).At w.heap.size (some ⟨g,0,none⟩) 18 18 pl18 w'∧Since w w':=by
 refine ent tab_ok [.v (.pointer (some ⟨b,0,none⟩))] Tryz.func30 Tryz.ntmps30 rfl rfl ?_
 repeat' ((conv=>whnf); first | refine sgo ⟨tab_ok⟩ ?_|refine br_not ?_|refine br_t rfl ?_|refine br_f rfl ?_|refine br_t (by assumption) ?_|refine br_f (by assumption) ?_|refine br_t (decide_eq_true (by assumption)) ?_|refine br_f (decide_eq_false (by assumption)) ?_|refine br_t (beq_iff_eq.2 (by assumption)) ?_|refine br_f (beq_eq_false_iff_ne.2 (by assumption)) ?_|refine drA (id:=1) ⟨tab_ok⟩ [72] ?_|refine drA ⟨tab_ok⟩ [] ?_|refine kpt ?_|refine br_t (decide_eq_true (by omega)) ?_|refine br_f (decide_eq_false (by omega)) ?_|refine punv (by rfl) (by rfl) ?_|refine pufv ⟨tab_ok⟩ (by rfl) (by rfl) (by rfl) (by rfl) ?_|refine puP (pvMkE (v':=.pointer (some ⟨b,_,none⟩)) (by rfl) (by rfl) (by kernel_rfl) (by simp only [Go.WideShapes.add_plain,den]; rfl)) ?_|refine opbo ⟨tab_ok⟩ (plE b) pl18 [.tmp 6,.tmp 10,.tmp 14,.tmp 18,.tmp 22,.tmp 26,.tmp 30,.tmp 34,.tmp 38,.tmp 42,.tmp 46,.tmp 50,.tmp 54,.tmp 58,.tmp 62,.tmp 66,.tmp 70,.tmp 74] [.v (.iface 61 (.pointer (some ⟨b,0,none⟩))),.v (.iface 61 (.pointer (some ⟨b,1,none⟩))),.v (.iface 61 (.pointer (some ⟨b,2,none⟩))),.v (.iface 61 (.pointer (some ⟨b,3,none⟩))),.v (.iface 61 (.pointer (some ⟨b,4,none⟩))),.v (.iface 61 (.pointer (some ⟨b,5,none⟩))),.v (.iface 61 (.pointer (some ⟨b,6,none⟩))),.v (.iface 61 (.pointer (some ⟨b,7,none⟩))),.v (.iface 61 (.pointer (some ⟨b,8,none⟩))),.v (.iface 61 (.pointer (some ⟨b,9,none⟩))),.v (.iface 61 (.pointer (some ⟨b,10,none⟩))),.v (.iface 61 (.pointer (some ⟨b,11,none⟩))),.v (.iface 61 (.pointer (some ⟨b,12,none⟩))),.v (.iface 61 (.pointer (some ⟨b,13,none⟩))),.v (.iface 61 (.pointer (some ⟨b,14,none⟩))),.v (.iface 61 (.pointer (some ⟨b,15,none⟩))),.v (.iface 61 (.pointer (some ⟨b,16,none⟩))),.v (.iface 61 (.pointer (some ⟨b,17,none⟩)))] (by rfl) (by rfl) (by rfl) (by rfl) rfl (fun g=>?_)|refine fin fun w' hH=>⟨g,rfl,Hold.ob hH (A:=rwO (plE b) w.heap.size (some ⟨g,0,none⟩) 18 18 pl18 true) 0 rfl,hH.upd.since⟩|refine fin_s ?_|refine fin_r ?_ ?_|refine fin_e ?_ ?_)
end Sp
namespace Sp
open Go.RowKit Ba Mem En Go.Proofs.YtnoehplnmdajnaaGreatDoor.Ty Gw
open Co (Hold.ob)
open Sx Sw
set_option maxRecDepth 100000
theorem sufY {s:List UInt8} (h:s.getLast?=some 10) (hl:s.length≤1000000) (w:World):Calls Tryz.prog 42 #[.string ⟨s.toArray⟩,.string ⟨#[10]⟩] w fun e w'=>e=.returned (.tuple #[.string ⟨s.dropLast.toArray⟩,.bool true])∧Since w w':=by
 refine (Go.Proofs.Any.strings_CutSuffix Tryz.lays104 ⟨s.toArray⟩ ⟨#[10]⟩ w (by rw [tx_size]; omega)).mono ?_
 rintro e w' ⟨rfl,rfl⟩
 refine ⟨?_,Since.refl _⟩
 show Ending.returned (.tuple #[.string ⟨(Lib.trimSuffix s [10]).toArray⟩,.bool (Lib.hasSuffix s [10])])=_
 rw [suf_yes h,suf_is,decide_eq_true h]
theorem trim_le (s:List UInt8):(Lib.trimSuffix s [10]).length≤s.length:=by
 unfold Lib.trimSuffix
 split
 ·rw [List.length_take]; omega
 ·exact Nat.le_refl _
theorem sufN {s:List UInt8} (h:s.getLast?≠some 10) (hl:s.length≤1000000) (w:World):Calls Tryz.prog 42 #[.string ⟨s.toArray⟩,.string ⟨#[10]⟩] w fun e w'=>e=.returned (.tuple #[.string ⟨(Lib.trimSuffix s [10]).toArray⟩,.bool false])∧Since w w':=by
 refine (Go.Proofs.Any.strings_CutSuffix Tryz.lays104 ⟨s.toArray⟩ ⟨#[10]⟩ w (by rw [tx_size]; omega)).mono ?_
 rintro e w' ⟨rfl,rfl⟩
 refine ⟨?_,Since.refl _⟩
 show Ending.returned (.tuple #[.string ⟨(Lib.trimSuffix s [10]).toArray⟩,.bool (Lib.hasSuffix s [10])])=_
 rw [suf_is,decide_eq_false h]
theorem splitC {s:List UInt8} {w:World} (hl:s.length≤900000) (hg:GkS w):Calls Tryz.prog 43 #[.string ⟨s.toArray⟩,.string ⟨#[32]⟩] w fun e w'=>∃ g:Nat,e=.returned (.slice (some ⟨g,0,none⟩) (spl s).length (spl s).length)∧strE.At w.heap.size (some ⟨g,0,none⟩) (spl s).length (spl s).length (spl s) w'∧Since w w':=by
 obtain ⟨m,hm⟩:=hg.m
 refine (Go.Proofs.Any.strings_Split { Tryz.laysM146 with } Tryz.laysM146.i9 ⟨s.toArray⟩ ⟨#[32]⟩ m w (by rw [tx_size]; omega) hm (by decide)).mono ?_
 rintro e w' ⟨rfl,rfl⟩
 rw [splitB_len,splitB_spl]
 refine ⟨w.heap.size,rfl, ?_,Since.alloc (Since.refl w) _⟩
 have hb:=Blk.new w 9 ((List.map Value.string (List.map (fun w=>(⟨w.toArray⟩:ByteArray)) (spl s))).toArray)
 have e:List.map Value.string (List.map (fun w=>(⟨w.toArray⟩:ByteArray)) (spl s))=rowsOf strE.c (spl s):=by
  rw [List.map_map]
  generalize spl s=l
  induction l with
  | nil=>rfl
  | cons a l ih=>show _::_=_::rowsOf strE.c l; rw [← ih]; rfl
 rw [e] at hb ⊢
 exact own_new hb (Nat.le_refl _) (by rw [← e]; simp) (by have:=spl_total s; omega)
def pwIs:PW→Wd→Prop
 | .nu z,.n y=>z=y
 | .da _ n _ zs,.d l=>zs=zsN l∧n=l.length
 | _,_=>False
def pws:List PW→List Wd→Prop
 | [],[]=>True
 | p::ps,x::xs=>pwIs p x∧pws ps xs
 | _,_=>False
theorem pws_add:∀ {ps:List PW} {xs:List Wd} {p:PW} {x:Wd},pws ps xs→pwIs p x→pws (ps++[p]) (xs++[x])
 | [],[],_,_,_,h=>⟨h,trivial⟩
 | [],_::_,_,_,h,_=>h.elim
 | _::_,[],_,_,h,_=>h.elim
 | _::_,_::_,_,_,h,h2=>⟨h.1,pws_add h.2 h2⟩
def reP (w:World) (b:Nat) (T:TypeId) (y:Option (List Wd)) (e:Ending) (w':World):Prop:=e=.returned (.bool y.isSome)∧Upd [b] w w'∧∀ xs,y=some xs→∃ vs:List PW,pws vs xs∧PlAt w.heap.size b T vs [] w'
theorem re_no {w w':World} {b:Nat} {T:TypeId} {y:Option (List Wd)} {e:Ending} (hy:y=none) (he:e=.returned (.bool false)) (hu:Upd [b] w w'):reP w b T y e w':=by
 subst hy; exact ⟨he,hu,fun xs h=>by cases h⟩
theorem re_yes {w w':World} {b:Nat} {T:TypeId} {y:Option (List Wd)} {xs:List Wd} {vs:List PW} {e:Ending} (hy:y=some xs) (hv:pws vs xs) (hp:PlAt w.heap.size b T vs [] w') (he:e=.returned (.bool true)) (hu:Upd [b] w w'):reP w b T y e w':=by
 subst hy; exact ⟨he,hu,fun ys h=>by cases h; exact ⟨vs,hv,hp⟩⟩
structure ReI (ks:List Bool) (ws:List (List UInt8)) (n i:Nat) (vs:List PW) (rest:List Value):Prop where
 le:i≤n
 l:vs.length=i
 r:rest.length+i=n
 v:∃ xs,pws vs xs∧wdsV ks ws=(wdsV (ks.drop i) (ws.drop i)).map fun l=>xs++l
theorem ReI.z {ks:List Bool} {ws:List (List UInt8)} {n:Nat} {rest:List Value} (h:rest.length=n):ReI ks ws n 0 [] rest:=⟨Nat.zero_le _,rfl,h,[],trivial,by
 show _=Option.map (fun l=>[]++l) (wdsV (ks.drop 0) (ws.drop 0))
 rw [List.drop_zero,List.drop_zero]
 cases wdsV ks ws <;> rfl⟩
theorem ReI.more {ks:List Bool} {ws:List (List UInt8)} {n i:Nat} {vs:List PW} {r0:Value} {rest:List Value} {k:Bool} {q:List UInt8} {p:PW} {x:Wd} (h:ReI ks ws n i vs (r0::rest)) (hk:ks[i]?=some k) (hw:ws[i]?=some q) (hx:wdV k q=some x) (hp:pwIs p x):ReI ks ws n (i+1) (vs++[p]) rest:=by
 obtain ⟨xs,h1,h2⟩:=h.v
 have hr:=h.r
 rw [List.length_cons] at hr
 exact ⟨by omega,by rw [List.length_append,h.l]; rfl,by omega,xs++[x],pws_add h1 hp,wds_more hk hw h2 hx⟩
theorem ReI.bad {ks:List Bool} {ws:List (List UInt8)} {n i:Nat} {vs:List PW} {rest:List Value} {k:Bool} {q:List UInt8} (h:ReI ks ws n i vs rest) (hk:ks[i]?=some k) (hw:ws[i]?=some q) (hx:wdV k q=none):wdsV ks ws=none:=by
 obtain ⟨xs,h1,h2⟩:=h.v
 exact wds_bad hk hw h2 hx
theorem ReI.end_ {ks:List Bool} {ws:List (List UInt8)} {n i:Nat} {vs:List PW} {rest:List Value} (h:ReI ks ws n i vs rest) (hi:n≤i) (hk:ks.length=n):rest=[]∧∃ xs,pws vs xs∧wdsV ks ws=some xs:=by
 obtain ⟨xs,h1,h2⟩:=h.v
 have hle:=h.le
 have e:i=ks.length:=by omega
 have hr:=h.r
 rw [e] at h2
 exact ⟨List.length_eq_zero_iff.1 (by omega),xs,h1,wds_end h2⟩
theorem numberY {s:List UInt8} {m:Int} {w:World} (h:numV s=some m) (hl:s.length≤1000000) (hg:GkS w):Calls Tryz.prog 44 #[.string ⟨s.toArray⟩] w fun e w'=>e=.returned (.tuple #[.int .i64 m,.bool true])∧Since w w':=by
 refine (numberP s hl hg).mono ?_
 rintro e w' ⟨v,rfl,h2,h3⟩
 rw [h2 m h,h]
 exact ⟨rfl,h3⟩
theorem numberN2 {s:List UInt8} {w:World} (h:numV s=none) (hl:s.length≤1000000) (hg:GkS w):Calls Tryz.prog 44 #[.string ⟨s.toArray⟩] w fun e w'=>∃ v:Int,e=.returned (.tuple #[.int .i64 v,.bool false])∧Since w w':=by
 refine (numberP s hl hg).mono ?_
 rintro e w' ⟨v,rfl,h2,h3⟩
 rw [h]
 exact ⟨v,rfl,h3⟩
theorem hold_re {pls:List (Bool×Nat)} {g n c lo b nt:Nat} {T:TypeId} {rest:List Value} {w:World} (hg:GkS w) (hA:(plE b).At lo (some ⟨g,0,none⟩) n c pls w) (hp:PlAt w.heap.size b T [] rest w) (hbg:b≠g) (hbk:b∉gkO.F):Hold ⟨Tryz.prog,tab,[b],w,nt,[]⟩ [] [gkO,rwO (plE b) lo (some ⟨g,0,none⟩) n c pls false,plO w.heap.size b T [] rest] w:=by
 refine Hold.addObj (Hold.addObj (Hold.addObj (Hold.nil _ tab [b] _ w) gkO hg (by intro k; cases k) (by intro r hr; cases hr) (by intro A hA; cases hA)) (rwO (plE b) lo (some ⟨g,0,none⟩) n c pls false) hA (by intro h; cases h) (by intro r hr; cases hr) (by intro A hA hw; rw [List.mem_singleton.1 hA] at hw; rcases hw with h | h <;> cases h)) (plO w.heap.size b T [] rest) hp (fun _ x hx=>.inl hx) (by intro r hr; cases hr) ?_
 intro A hA _ x hx hxb
 have hxb:x=b:=List.mem_singleton.1 hxb
 subst hxb
 have hA:A∈[gkO,rwO (plE x) lo (some ⟨g,0,none⟩) n c pls false]:=hA
 rcases List.mem_cons.1 hA with rfl | hA
 ·exact hbk hx
 ·rw [List.mem_singleton.1 hA] at hx
  exact hbg (List.mem_singleton.1 hx)
attribute [local irreducible] Go.Calls spl numV datV zsN wdsV
set_option maxHeartbeats 8000000 in
theorem readP (s:List UInt8) (hl:s.length≤900000) {pls:List (Bool×Nat)} {g n c lo b:Nat} {T:TypeId} {rest:List Value} {w:World} (hg:GkS w) (hA:(plE b).At lo (some ⟨g,0,none⟩) n c pls w) (hp:PlAt w.heap.size b T [] rest w) (hpn:pls.length=n) (hi:∀ (i:Nat) (x:Bool×Nat),pls[i]?=some x→x.2=i) (hr:rest.length=n) (hn:n≤100) (hbg:b≠g) (hbk:b∉gkO.F):Calls Tryz.prog 29 #[.string ⟨s.toArray⟩,.slice (some ⟨g,0,none⟩) n c] w (reP w b T (readV (pls.map (·.1)) s)):=by
 by_cases hs:s.getLast?=some 10
 ·have hdl:s.dropLast.length≤900000:=by rw [List.length_dropLast]; omega
  obtain ⟨t,ht⟩:∃ t,s.dropLast=t:=⟨_,rfl⟩
  have hsuf:=fun w=>sufY hs (by omega) w
  rw [ht] at hsuf hdl
  have hrv:readV (pls.map (·.1)) s=if (spl t).length=n then wdsV (pls.map (·.1)) (spl t) else none:=by
   unfold readV
   rw [ht,List.length_map,hpn]
   by_cases h:(spl t).length=n
   ·rw [if_pos ⟨hs,h⟩,if_pos h]
   ·rw [if_neg (fun h2=>h h2.2),if_neg h]
  rw [hrv]
  have hwl:∀ (i:Nat) (q:List UInt8),(spl t)[i]?=some q→q.length≤900000:=fun i q hq=>by
   have:=word_len (s:=t) (List.mem_of_getElem? hq); omega
  have hsp:=fun (w:World) (hg:GkS w)=>splitC hdl hg
  obtain ⟨ws,hws⟩:∃ ws,spl t=ws:=⟨_,rfl⟩
  rw [hws] at hwl hsp ⊢
  by_cases hwn:ws.length=n
  ·rw [if_pos hwn]
   refine entH tab_ok (hold_re hg hA hp hbg hbk) [tx s,.v (.slice (some ⟨g,0,none⟩) n c)] Tryz.func29 Tryz.ntmps29 rfl rfl ?_
   repeat' ((conv=>whnf); first | refine sgo ⟨tab_ok⟩ ?_|refine br_not ?_|refine br_t rfl ?_|refine br_f rfl ?_|refine br_t (by assumption) ?_|refine br_f (by assumption) ?_|refine br_t (decide_eq_true (by assumption)) ?_|refine br_f (decide_eq_false (by assumption)) ?_|refine br_t (beq_iff_eq.2 (by assumption)) ?_|refine br_f (beq_eq_false_iff_ne.2 (by assumption)) ?_|refine drA ⟨tab_ok⟩ [] ?_|refine kpt ?_|refine br_t (decide_eq_true (by omega)) ?_|refine br_f (decide_eq_false (by omega)) ?_|refine callS (f:=42) (.t [tx t,.b true]) (fun w=>hsuf w) ?_|refine callN (f:=43) (ι:=Nat) (fun y=>.v (.slice (some ⟨y,0,none⟩) n n)) (fun y=>rwO strE w.heap.size (some ⟨y,0,none⟩) n n ws true) (fun w1 hH=>(hsp w1 (Hold.ob hH (A:=gkO) 0 rfl)).mono (by rw [hwn]; rintro e w' ⟨y,rfl,h1,h2⟩; exact ⟨y,rfl,Ek.base h1 hH.upd.size,h2,Ek.lows h1⟩)) (fun gw=>?_)|refine fin_s ?_|refine fin_r ?_ ?_|refine fin_e ?_ ?_)
   conv=>whnf
   refine lp ⟨tab_ok⟩ (ι:={y:Nat×List PW×List Value // ReI (pls.map (·.1)) ws n y.1 y.2.1 y.2.2}) (fun y=>match y with | ⟨(i,vs,rs),_⟩=>⟨[(7,.v (.slice (some ⟨gw,0,none⟩) n n)),(29,.v (.slice (some ⟨g,0,none⟩) n c)),(30,.i .i64 (n:Int)),(31,.i .i64 (i:Int))],[],[gkO,rwO (plE b) lo (some ⟨g,0,none⟩) n c pls false,plO w.heap.size b T vs rs,rwO strE w.heap.size (some ⟨gw,0,none⟩) n n ws true]⟩) (fun y=>n - y.1.1) ⟨(0,[],rest),ReI.z hr⟩ (wk ?_) ?_
   ·repeat' (first | exact trivial | rfl | ((conv=>whnf); refine And.intro ?_ ?_))
   rintro ⟨⟨i,vs,rs⟩,hI0⟩
   have hI:ReI (pls.map (·.1)) ws n i vs rs:=hI0
   have hile:=hI.le
   have hvl:=hI.l
   have hrl:=hI.r
   by_cases hlt:i < n
   ·obtain ⟨⟨k,q⟩,hk⟩:∃ x,pls[i]?=some x:=⟨_,List.getElem?_eq_getElem (by omega)⟩
    have hqi:q=i:=hi i _ hk
    subst hqi
    have hkk:(pls.map (·.1))[q]?=some k:=by rw [List.getElem?_map,hk]; rfl
    obtain ⟨x,hx⟩:∃ x,ws[q]?=some x:=⟨_,List.getElem?_eq_getElem (by omega)⟩
    have hxl:=hwl q x hx
    obtain ⟨r0,rs,rfl⟩:∃ r0 r',rs=r0::r':=by
     cases rs with
     | nil=>simp at hrl; omega
     | cons a b=>exact ⟨a,b,rfl⟩
    cases k with
    | true =>
     cases hz:numV x with
     | none =>
      have hno:=hI.bad hkk hx (by show (numV x).map Wd.n=none; rw [hz]; rfl)
      repeat' ((conv=>whnf); first | refine sgo ⟨tab_ok⟩ ?_|refine br_not ?_|refine br_t rfl ?_|refine br_f rfl ?_|refine br_t (by assumption) ?_|refine br_f (by assumption) ?_|refine br_t (decide_eq_true (by assumption)) ?_|refine br_f (decide_eq_false (by assumption)) ?_|refine br_t (beq_iff_eq.2 (by assumption)) ?_|refine br_f (beq_eq_false_iff_ne.2 (by assumption)) ?_|refine drA ⟨tab_ok⟩ [] ?_|refine kpt ?_|refine br_t (decide_eq_true (by omega)) ?_|refine br_f (decide_eq_false (by omega)) ?_|refine wr_i ?_|refine opnv (by rfl) (by rfl) ?_|refine opiv ⟨tab_ok⟩ (by rfl) (by rfl) (by rfl) (by rfl) (by rfl) (by rfl) ⟨by omega,by omega⟩ ?_|refine opxc (g:=g) (off:=0+q*1) (.v (.iface 61 (.pointer (some ⟨b,q,none⟩)))) (fun w1 hH=>Ek.rng (Hold.ob hH (A:=rwO (plE b) lo (some ⟨g,0,none⟩) n c pls false) 1 rfl) hk) ⟨tab_ok⟩ (by rfl) (by rfl) (by first | (simp only [Go.WideShapes.add_plain]; done)|(simp only [Go.WideShapes.add_plain]; rfl)) ?_|refine opxc (g:=gw) (off:=0+q*1) (tx x) (fun w1 hH=>Ek.rng (Hold.ob hH (A:=rwO strE w.heap.size (some ⟨gw,0,none⟩) n n ws true) 3 rfl) hx) ⟨tab_ok⟩ (by rfl) (by rfl) (by first | (simp only [Go.WideShapes.add_plain]; done)|(simp only [Go.WideShapes.add_plain]; rfl)) ?_|refine opP (pvTa (aT:=61) (.t [.v (.pointer (some ⟨b,q,none⟩)),.b true]) (by rfl) (by rfl) (fun w=>by kernel_rfl)) ?_|refine callN (f:=44) (ι:=Int) (fun v=>.t [.i .i64 v,.b false]) (fun _=>nilO) (fun w1 hH=>(numberN2 hz (by omega) (Hold.ob hH (A:=gkO) 0 rfl)).mono (by rintro e w' ⟨v,rfl,h⟩; exact ⟨v,rfl,trivial,h,by intro g hg; cases hg⟩)) (fun z=>?_)|refine opsPn 2 z (lo:=w.heap.size) (b:=b) (T:=T) (vs:=vs) (r0:=r0) (rest:=rs) (by rfl) (by rfl) hvl.symm (by rfl) (by rfl) (by kernel_rfl) ?_|refine fin fun w' hH=>re_no hno rfl hH.upd | refine fin_s ?_|refine fin_r ?_ ?_|refine fin_e ?_ ?_)
     | some z =>
      have hmore:=hI.more (p:=.nu z) (x:=.n z) hkk hx (by show (numV x).map Wd.n=_; rw [hz]; rfl) rfl
      repeat' ((conv=>whnf); first | refine sgo ⟨tab_ok⟩ ?_|refine br_not ?_|refine br_t rfl ?_|refine br_f rfl ?_|refine br_t (by assumption) ?_|refine br_f (by assumption) ?_|refine br_t (decide_eq_true (by assumption)) ?_|refine br_f (decide_eq_false (by assumption)) ?_|refine br_t (beq_iff_eq.2 (by assumption)) ?_|refine br_f (beq_eq_false_iff_ne.2 (by assumption)) ?_|refine drA ⟨tab_ok⟩ [] ?_|refine kpt ?_|refine br_t (decide_eq_true (by omega)) ?_|refine br_f (decide_eq_false (by omega)) ?_|refine wr_i ?_|refine opnv (by rfl) (by rfl) ?_|refine opiv ⟨tab_ok⟩ (by rfl) (by rfl) (by rfl) (by rfl) (by rfl) (by rfl) ⟨by omega,by omega⟩ ?_|refine opxc (g:=g) (off:=0+q*1) (.v (.iface 61 (.pointer (some ⟨b,q,none⟩)))) (fun w1 hH=>Ek.rng (Hold.ob hH (A:=rwO (plE b) lo (some ⟨g,0,none⟩) n c pls false) 1 rfl) hk) ⟨tab_ok⟩ (by rfl) (by rfl) (by first | (simp only [Go.WideShapes.add_plain]; done)|(simp only [Go.WideShapes.add_plain]; rfl)) ?_|refine opxc (g:=gw) (off:=0+q*1) (tx x) (fun w1 hH=>Ek.rng (Hold.ob hH (A:=rwO strE w.heap.size (some ⟨gw,0,none⟩) n n ws true) 3 rfl) hx) ⟨tab_ok⟩ (by rfl) (by rfl) (by first | (simp only [Go.WideShapes.add_plain]; done)|(simp only [Go.WideShapes.add_plain]; rfl)) ?_|refine opP (pvTa (aT:=61) (.t [.v (.pointer (some ⟨b,q,none⟩)),.b true]) (by rfl) (by rfl) (fun w=>by kernel_rfl)) ?_|refine callH (f:=44) (.t [.i .i64 z,.b true]) (fun w1 hH=>numberY hz (by omega) (Hold.ob hH (A:=gkO) 0 rfl)) ?_|refine opsPn 2 z (lo:=w.heap.size) (b:=b) (T:=T) (vs:=vs) (r0:=r0) (rest:=rs) (by rfl) (by rfl) hvl.symm (by rfl) (by rfl) (by kernel_rfl) ?_|refine En.back ⟨(q+1,vs++[PW.nu z],rs),hmore⟩ (wkd ?_) ?_|refine fin_s ?_|refine fin_r ?_ ?_|refine fin_e ?_ ?_)
      all_goals first | (show n - (q+1) < n - q; omega)|skip
      all_goals (repeat' (first | exact trivial | rfl | ((conv=>whnf); refine And.intro ?_ ?_)))
    | false =>
     cases hz:datV x with
     | none =>
      have hno:=hI.bad hkk hx (by show (datV x).map Wd.d=none; rw [hz]; rfl)
      repeat' ((conv=>whnf); first | refine sgo ⟨tab_ok⟩ ?_|refine br_not ?_|refine br_t rfl ?_|refine br_f rfl ?_|refine br_t (by assumption) ?_|refine br_f (by assumption) ?_|refine br_t (decide_eq_true (by assumption)) ?_|refine br_f (decide_eq_false (by assumption)) ?_|refine br_t (beq_iff_eq.2 (by assumption)) ?_|refine br_f (beq_eq_false_iff_ne.2 (by assumption)) ?_|refine drA ⟨tab_ok⟩ [] ?_|refine kpt ?_|refine br_t (decide_eq_true (by omega)) ?_|refine br_f (decide_eq_false (by omega)) ?_|refine wr_i ?_|refine opnv (by rfl) (by rfl) ?_|refine opiv ⟨tab_ok⟩ (by rfl) (by rfl) (by rfl) (by rfl) (by rfl) (by rfl) ⟨by omega,by omega⟩ ?_|refine opxc (g:=g) (off:=0+q*1) (.v (.iface 79 (.pointer (some ⟨b,q,none⟩)))) (fun w1 hH=>Ek.rng (Hold.ob hH (A:=rwO (plE b) lo (some ⟨g,0,none⟩) n c pls false) 1 rfl) hk) ⟨tab_ok⟩ (by rfl) (by rfl) (by first | (simp only [Go.WideShapes.add_plain]; done)|(simp only [Go.WideShapes.add_plain]; rfl)) ?_|refine opxc (g:=gw) (off:=0+q*1) (tx x) (fun w1 hH=>Ek.rng (Hold.ob hH (A:=rwO strE w.heap.size (some ⟨gw,0,none⟩) n n ws true) 3 rfl) hx) ⟨tab_ok⟩ (by rfl) (by rfl) (by first | (simp only [Go.WideShapes.add_plain]; done)|(simp only [Go.WideShapes.add_plain]; rfl)) ?_|refine opP (pvTa (aT:=61) (.t [.v (.pointer none),.b false]) (by rfl) (by rfl) (fun w=>by kernel_rfl)) ?_|refine opP (pvTa (aT:=79) (.t [.v (.pointer (some ⟨b,q,none⟩)),.b true]) (by rfl) (by rfl) (fun w=>by kernel_rfl)) ?_|refine callN (f:=45) (ι:=Option Addr×Nat) (fun z=>.t [.v (.slice z.1 0 z.2),.b false]) (fun z=>rwO byteE w.heap.size z.1 0 z.2 [] true) (fun w1 hH=>(dataP x (by omega) w1).mono (by intro e w' h; rw [hz] at h; obtain ⟨z,rfl,h1,h2⟩:=h; exact ⟨z,rfl,Ek.base (by rw [← zsN_0]; exact h1) hH.upd.size,h2,Ek.lows h1⟩)) (fun z=>?_)|refine opsPd 2 4 (lo:=w.heap.size) (b:=b) (T:=T) (vs:=vs) (r0:=r0) (rest:=rs) (A:=z.1) (n:=0) (c:=z.2) (zs:=[]) (by rfl) (by rfl) hvl.symm (by rfl) (by rfl) (by rfl) (by decide) (by kernel_rfl) ?_|refine fin fun w' hH=>re_no hno rfl hH.upd | refine fin_s ?_|refine fin_r ?_ ?_|refine fin_e ?_ ?_)
     | some d =>
      have hdl2:d.length=(zsN d).length:=(zsN_len d).symm
      repeat' ((conv=>whnf); first | refine sgo ⟨tab_ok⟩ ?_|refine br_not ?_|refine br_t rfl ?_|refine br_f rfl ?_|refine br_t (by assumption) ?_|refine br_f (by assumption) ?_|refine br_t (decide_eq_true (by assumption)) ?_|refine br_f (decide_eq_false (by assumption)) ?_|refine br_t (beq_iff_eq.2 (by assumption)) ?_|refine br_f (beq_eq_false_iff_ne.2 (by assumption)) ?_|refine drA ⟨tab_ok⟩ [] ?_|refine kpt ?_|refine br_t (decide_eq_true (by omega)) ?_|refine br_f (decide_eq_false (by omega)) ?_|refine wr_i ?_|refine opnv (by rfl) (by rfl) ?_|refine opiv ⟨tab_ok⟩ (by rfl) (by rfl) (by rfl) (by rfl) (by rfl) (by rfl) ⟨by omega,by omega⟩ ?_|refine opxc (g:=g) (off:=0+q*1) (.v (.iface 79 (.pointer (some ⟨b,q,none⟩)))) (fun w1 hH=>Ek.rng (Hold.ob hH (A:=rwO (plE b) lo (some ⟨g,0,none⟩) n c pls false) 1 rfl) hk) ⟨tab_ok⟩ (by rfl) (by rfl) (by first | (simp only [Go.WideShapes.add_plain]; done)|(simp only [Go.WideShapes.add_plain]; rfl)) ?_|refine opxc (g:=gw) (off:=0+q*1) (tx x) (fun w1 hH=>Ek.rng (Hold.ob hH (A:=rwO strE w.heap.size (some ⟨gw,0,none⟩) n n ws true) 3 rfl) hx) ⟨tab_ok⟩ (by rfl) (by rfl) (by first | (simp only [Go.WideShapes.add_plain]; done)|(simp only [Go.WideShapes.add_plain]; rfl)) ?_|refine opP (pvTa (aT:=61) (.t [.v (.pointer none),.b false]) (by rfl) (by rfl) (fun w=>by kernel_rfl)) ?_|refine opP (pvTa (aT:=79) (.t [.v (.pointer (some ⟨b,q,none⟩)),.b true]) (by rfl) (by rfl) (fun w=>by kernel_rfl)) ?_|refine callN (f:=45) (ι:=Option Addr×Nat) (fun z=>.t [.v (.slice z.1 (zsN d).length z.2),.b true]) (fun z=>rwO byteE w.heap.size z.1 (zsN d).length z.2 (zsN d) true) (fun w1 hH=>(dataP x (by omega) w1).mono (by intro e w' h; rw [hz] at h; obtain ⟨z,he,h1,h2⟩:=h; refine ⟨z,by rw [zsN_len]; exact he,Ek.base (by rw [zsN_len]; exact h1) hH.upd.size,h2,Ek.lows h1⟩)) (fun z=>?_)|refine opsPd 2 4 (lo:=w.heap.size) (b:=b) (T:=T) (vs:=vs) (r0:=r0) (rest:=rs) (A:=z.1) (n:=(zsN d).length) (c:=z.2) (zs:=zsN d) (by rfl) (by rfl) hvl.symm (by rfl) (by rfl) (by rfl) (by decide) (by kernel_rfl) ?_|refine En.back ⟨(q+1,vs++[PW.da z.1 (zsN d).length z.2 (zsN d)],rs),hI.more (p:=.da z.1 (zsN d).length z.2 (zsN d)) (x:=.d d) hkk hx (by show (datV x).map Wd.d=_; rw [hz]; rfl) ⟨rfl,zsN_len d⟩⟩ (wkd ?_) ?_|refine fin_s ?_|refine fin_r ?_ ?_|refine fin_e ?_ ?_)
      all_goals first | (show n - (q+1) < n - q; omega)|skip
      all_goals (repeat' (first | exact trivial | rfl | ((conv=>whnf); refine And.intro ?_ ?_)))
   ·obtain ⟨hrs,xs,hps,hyes⟩:=hI.end_ (by omega) (by rw [List.length_map,hpn])
    repeat' ((conv=>whnf); first | refine sgo ⟨tab_ok⟩ ?_|refine br_not ?_|refine br_t rfl ?_|refine br_f rfl ?_|refine br_t (by assumption) ?_|refine br_f (by assumption) ?_|refine br_t (decide_eq_true (by assumption)) ?_|refine br_f (decide_eq_false (by assumption)) ?_|refine br_t (beq_iff_eq.2 (by assumption)) ?_|refine br_f (beq_eq_false_iff_ne.2 (by assumption)) ?_|refine drA ⟨tab_ok⟩ [] ?_|refine kpt ?_|refine br_t (decide_eq_true (by omega)) ?_|refine br_f (decide_eq_false (by omega)) ?_|refine fin fun w' hH=>re_yes hyes hps (by have h:=Hold.ob hH (A:=plO w.heap.size b T vs rs) 2 rfl; rw [hrs] at h; exact h) rfl hH.upd | refine fin_s ?_|refine fin_r ?_ ?_|refine fin_e ?_ ?_)
  ·rw [if_neg hwn]
   have hne:((ws.length:Int) == (n:Int))=false:=beq_eq_false_iff_ne.2 (by omega)
   refine entH tab_ok (hold_re hg hA hp hbg hbk) [tx s,.v (.slice (some ⟨g,0,none⟩) n c)] Tryz.func29 Tryz.ntmps29 rfl rfl ?_
   repeat' ((conv=>whnf); first | refine sgo ⟨tab_ok⟩ ?_|refine br_not ?_|refine br_t rfl ?_|refine br_f rfl ?_|refine br_t (by assumption) ?_|refine br_f (by assumption) ?_|refine br_t (decide_eq_true (by assumption)) ?_|refine br_f (decide_eq_false (by assumption)) ?_|refine br_t (beq_iff_eq.2 (by assumption)) ?_|refine br_f (beq_eq_false_iff_ne.2 (by assumption)) ?_|refine drA ⟨tab_ok⟩ [] ?_|refine kpt ?_|refine br_t (decide_eq_true (by omega)) ?_|refine br_f (decide_eq_false (by omega)) ?_|refine br_f hne ?_|refine callS (f:=42) (.t [tx t,.b true]) (fun w=>hsuf w) ?_|refine callN (f:=43) (ι:=Nat) (fun y=>.v (.slice (some ⟨y,0,none⟩) ws.length ws.length)) (fun y=>rwO strE w.heap.size (some ⟨y,0,none⟩) ws.length ws.length ws true) (fun w1 hH=>(hsp w1 (Hold.ob hH (A:=gkO) 0 rfl)).mono (by rintro e w' ⟨y,rfl,h1,h2⟩; exact ⟨y,rfl,Ek.base h1 hH.upd.size,h2,Ek.lows h1⟩)) (fun gw=>?_)|refine fin fun w' hH=>re_no rfl rfl hH.upd | refine fin_s ?_|refine fin_r ?_ ?_|refine fin_e ?_ ?_)
 ·have hno:readV (pls.map (·.1)) s=none:=by
   unfold readV; rw [if_neg (fun h=>hs h.1)]
  have hsuf:=fun w=>sufN hs (by omega) w
  have htl:=trim_le s
  obtain ⟨t,ht⟩:∃ t,Lib.trimSuffix s [10]=t:=⟨_,rfl⟩
  rw [ht] at hsuf htl
  have hsp:=fun (w:World) (hg:GkS w)=>splitC (s:=t) (by omega) hg
  refine entH tab_ok (hold_re hg hA hp hbg hbk) [tx s,.v (.slice (some ⟨g,0,none⟩) n c)] Tryz.func29 Tryz.ntmps29 rfl rfl ?_
  repeat' ((conv=>whnf); first | refine sgo ⟨tab_ok⟩ ?_|refine br_not ?_|refine br_t rfl ?_|refine br_f rfl ?_|refine br_t (by assumption) ?_|refine br_f (by assumption) ?_|refine br_t (decide_eq_true (by assumption)) ?_|refine br_f (decide_eq_false (by assumption)) ?_|refine br_t (beq_iff_eq.2 (by assumption)) ?_|refine br_f (beq_eq_false_iff_ne.2 (by assumption)) ?_|refine drA ⟨tab_ok⟩ [] ?_|refine kpt ?_|refine br_t (decide_eq_true (by omega)) ?_|refine br_f (decide_eq_false (by omega)) ?_|refine callS (f:=42) (.t [tx t,.b false]) (fun w=>hsuf w) ?_|refine callN (f:=43) (ι:=Nat) (fun y=>.v (.slice (some ⟨y,0,none⟩) (spl t).length (spl t).length)) (fun y=>nilO) (fun w1 hH=>(hsp w1 (Hold.ob hH (A:=gkO) 0 rfl)).mono (by rintro e w' ⟨y,rfl,h1,h2⟩; exact ⟨y,rfl,trivial,h2,by intro g hg; cases hg⟩)) (fun gw=>?_)|refine fin fun w' hH=>re_no hno rfl hH.upd | refine fin_s ?_|refine fin_r ?_ ?_|refine fin_e ?_ ?_)
end Sp
namespace Sp
open Go.RowKit Ba Mem En Go.Proofs.YtnoehplnmdajnaaGreatDoor.Ty Gw
open Co (Hold.ob)
open Sx Sw
set_option maxRecDepth 100000
theorem readH {X:Cx} {m:List Row} {ob:List Asr} {w:World} (hH:Hold X m ob w) (i j:Nat) {lo lo2 g n c b:Nat} {T:TypeId} {rest:List Value} {pls:List (Bool×Nat)} (hG:ob[0]?=some gkO) (hA:ob[i]?=some (plO lo b T [] rest)) (hC:ob[j]?=some (rwO (plE b) lo2 (some ⟨g,0,none⟩) n c pls true)) (s:List UInt8) (hl:s.length≤900000) (hpn:pls.length=n) (hi:∀ (i:Nat) (x:Bool×Nat),pls[i]?=some x→x.2=i) (hr:rest.length=n) (hn:n≤100) (hij:i≠j):Calls Tryz.prog 29 #[.string ⟨s.toArray⟩,.slice (some ⟨g,0,none⟩) n c] w (reP w b T (readV (pls.map (·.1)) s)):=by
 have h1:=hH.obj _ (List.mem_of_getElem? hA)
 have hb:b∈plF b ([]:List PW):=pl_mem.2 (.inl rfl)
 have hi0:i≠0:=by rintro rfl; rw [hG] at hA; have:=congrArg Asr.rw (Option.some.inj hA); cases this
 refine readP s hl (hH.obj _ (List.mem_of_getElem? hG)) (lo:=lo2) (hH.obj _ (List.mem_of_getElem? hC)) ⟨h1.1,by intro x hx; cases hx⟩ hpn hi hr hn ?_ ?_
 ·exact fun e=>pair_at (R:=DisR) (fun _ _ h=>h.symm) hH.dis hA hC hij (.inl rfl) b hb (by rw [e]; exact List.mem_singleton.2 rfl)
 ·exact pair_at (R:=DisR) (fun _ _ h=>h.symm) hH.dis hA hG hi0 (.inl rfl) b hb
theorem pl18_at:∀ (i:Nat) (x:Bool×Nat),pl18[i]?=some x→x.2=i:=fun i x h=>by
 have hi:i < 18:=(List.getElem?_eq_some_iff.1 h).1
 have:∀ i:Fin 18,(pl18[i.val]?).map (·.2)=some i.val:=by decide
 have:=this ⟨i,hi⟩
 simp only [h,Option.map_some] at this
 exact Option.some.inj this
theorem pl18_k:pl18.map (·.1)=kC:=by decide
theorem pws_nu:∀ {vs:List PW} {l:List Int},pws vs (l.map Wd.n)→vs=l.map PW.nu
 | [],[],_=>rfl
 | [],_::_,h=>h.elim
 | _::_,[],h=>h.elim
 | p::ps,x::xs,h=>by
  have h1:=h.1
  cases p with
  | nu z =>
   have e:z=x:=h1
   rw [e,pws_nu h.2]; rfl
  | da A n c zs=>exact h1.elim
theorem pl_nu {lo lo' b:Nat} {T:TypeId} {l:List Int} {rest:List Value} {w:World} (h:PlAt lo b T (l.map PW.nu) rest w):PlAt lo' b T (l.map PW.nu) rest w:=⟨h.1,fun x hx=>by
 obtain ⟨z,_,rfl⟩:=List.mem_map.1 hx
 exact ⟨trivial,by intro h; cases h⟩⟩
theorem pl_nuF {k lo b:Nat} {T:TypeId} {l:List Int} {rest:List Value}:∀ g∈(plO lo b T (l.map PW.nu) rest).F,g∈(plO lo b T ([]:List PW) rest).F∨k≤g:=fun g hg=>by
 rcases pl_mem.1 hg with rfl | ⟨x,hx,hg⟩
 ·exact .inl (pl_mem.2 (.inl rfl))
 ·obtain ⟨z,_,rfl⟩:=List.mem_map.1 hx
  cases hg
theorem nums_n:∀ {ws:List (List UInt8)} {l:List Int},numsV ws=some l→l.length=ws.length
 | [],l,h=>by cases h; rfl
 | w::ws,l,h=>by
  rw [numsV_c] at h
  cases hw:numV w with
  | none=>rw [hw] at h; cases h
  | some z =>
   cases hr:numsV ws with
   | none=>rw [hw,hr] at h; cases h
   | some r =>
    rw [hw,hr] at h
    cases h
    rw [List.length_cons,List.length_cons,nums_n hr]
theorem set_18 {s:List UInt8} {l:List Int} (h:setV s=some l):l.length=18:=by
 unfold setV at h
 split at h
 ·split at h
  ·rename_i h18
   rw [nums_n h,h18]
  ·cases h
 ·cases h
attribute [local irreducible] Go.Calls
set_option maxHeartbeats 8000000 in
theorem setP (s:List UInt8) (hs:s.length≤900000) {w:World} (hg:GkS w):Calls Tryz.prog 15 #[.string ⟨s.toArray⟩] w (seP w (setV s)):=by
 have hrc:=readC s
 rw [← pl18_k] at hrc
 cases hsv:setV s with
 | none =>
  have hv:readV (pl18.map (·.1)) s=none:=by rw [hrc,hsv]; rfl
  refine entH tab_ok (hold_gk hg) [tx s] Tryz.func15 Tryz.ntmps15 rfl rfl ?_
  repeat' ((conv=>whnf); first | refine sgo ⟨tab_ok⟩ ?_|refine br_not ?_|refine br_t rfl ?_|refine br_f rfl ?_|refine br_t (by assumption) ?_|refine br_f (by assumption) ?_|refine br_t (decide_eq_true (by assumption)) ?_|refine br_f (decide_eq_false (by assumption)) ?_|refine br_t (beq_iff_eq.2 (by assumption)) ?_|refine br_f (beq_eq_false_iff_ne.2 (by assumption)) ?_|refine drA ⟨tab_ok⟩ [] ?_|refine kpt ?_|refine br_t (decide_eq_true (by omega)) ?_|refine br_f (decide_eq_false (by omega)) ?_|refine fin_s ?_|refine fin_r ?_ ?_|refine fin_e ?_ ?_)
  conv=>whnf
  intro b0
  repeat' ((conv=>whnf); first | refine sgo ⟨tab_ok⟩ ?_|refine br_not ?_|refine br_t rfl ?_|refine br_f rfl ?_|refine br_t (by assumption) ?_|refine br_f (by assumption) ?_|refine br_t (decide_eq_true (by assumption)) ?_|refine br_f (decide_eq_false (by assumption)) ?_|refine br_t (beq_iff_eq.2 (by assumption)) ?_|refine br_f (beq_eq_false_iff_ne.2 (by assumption)) ?_|refine drA ⟨tab_ok⟩ [] ?_|refine kpt ?_|refine br_t (decide_eq_true (by omega)) ?_|refine br_f (decide_eq_false (by omega)) ?_|refine fin_s ?_|refine fin_r ?_ ?_|refine fin_e ?_ ?_)
  conv=>whnf
  intro b1
  repeat' ((conv=>whnf); first | refine sgo ⟨tab_ok⟩ ?_|refine br_not ?_|refine br_t rfl ?_|refine br_f rfl ?_|refine br_t (by assumption) ?_|refine br_f (by assumption) ?_|refine br_t (decide_eq_true (by assumption)) ?_|refine br_f (decide_eq_false (by assumption)) ?_|refine br_t (beq_iff_eq.2 (by assumption)) ?_|refine br_f (beq_eq_false_iff_ne.2 (by assumption)) ?_|refine drA ⟨tab_ok⟩ [] ?_|refine kpt ?_|refine br_t (decide_eq_true (by omega)) ?_|refine br_f (decide_eq_false (by omega)) ?_|refine rowX (f:=30) 1 (plO w.heap.size b1 23 [] (List.replicate 18 (.int .i64 0))) (by rfl) (by rfl) (by rfl) (fun w h=>⟨h,by intro x hx; cases hx⟩) (by rfl) ?_|refine callN (f:=30) (ι:=Nat) (fun g=>.v (.slice (some ⟨g,0,none⟩) 18 18)) (fun g=>rwO (plE b1) w.heap.size (some ⟨g,0,none⟩) 18 18 pl18 true) (fun w1 hH=>(placesP b1 w1).mono (by rintro e w' ⟨g,rfl,h1,h2⟩; exact ⟨g,rfl,Ek.base h1 hH.upd.size,h2,Ek.lows h1⟩)) (fun g=>?_)|refine callO (f:=29) 1 (A:=plO w.heap.size b1 23 [] (List.replicate 18 (.int .i64 0))) (ι:=Unit) (fun _=>.b false) (fun _=>nilO) (fun w1 hH _=>(readH hH 1 2 (lo:=w.heap.size) (b:=b1) (T:=23) (rest:=List.replicate 18 (.int .i64 0)) (g:=g) (n:=18) (c:=18) (pls:=pl18) (by rfl) (by rfl) (by rfl) s hs rfl pl18_at rfl (by decide) (by decide)).mono (by rw [hv]; rintro e w' ⟨rfl,h2,_⟩; exact ⟨(),rfl,trivial,h2,by intro g hg; cases hg⟩)) (fun _=>?_)|refine fin fun w' hH=>se_no rfl rfl hH.upd.since | refine fin_s ?_|refine fin_r ?_ ?_|refine fin_e ?_ ?_)
 | some l =>
  obtain ⟨a0,a1,a2,a3,a4,a5,a6,a7,a8,a9,a10,a11,a12,a13,a14,a15,a16,a17,rfl⟩:=at18 (set_18 hsv)
  have hv:readV (pl18.map (·.1)) s=some (List.map Wd.n [a0,a1,a2,a3,a4,a5,a6,a7,a8,a9,a10,a11,a12,a13,a14,a15,a16,a17]):=by rw [hrc,hsv]; rfl
  refine entH tab_ok (hold_gk hg) [tx s] Tryz.func15 Tryz.ntmps15 rfl rfl ?_
  repeat' ((conv=>whnf); first | refine sgo ⟨tab_ok⟩ ?_|refine br_not ?_|refine br_t rfl ?_|refine br_f rfl ?_|refine br_t (by assumption) ?_|refine br_f (by assumption) ?_|refine br_t (decide_eq_true (by assumption)) ?_|refine br_f (decide_eq_false (by assumption)) ?_|refine br_t (beq_iff_eq.2 (by assumption)) ?_|refine br_f (beq_eq_false_iff_ne.2 (by assumption)) ?_|refine drA ⟨tab_ok⟩ [] ?_|refine kpt ?_|refine br_t (decide_eq_true (by omega)) ?_|refine br_f (decide_eq_false (by omega)) ?_|refine fin_s ?_|refine fin_r ?_ ?_|refine fin_e ?_ ?_)
  conv=>whnf
  intro b0
  repeat' ((conv=>whnf); first | refine sgo ⟨tab_ok⟩ ?_|refine br_not ?_|refine br_t rfl ?_|refine br_f rfl ?_|refine br_t (by assumption) ?_|refine br_f (by assumption) ?_|refine br_t (decide_eq_true (by assumption)) ?_|refine br_f (decide_eq_false (by assumption)) ?_|refine br_t (beq_iff_eq.2 (by assumption)) ?_|refine br_f (beq_eq_false_iff_ne.2 (by assumption)) ?_|refine drA ⟨tab_ok⟩ [] ?_|refine kpt ?_|refine br_t (decide_eq_true (by omega)) ?_|refine br_f (decide_eq_false (by omega)) ?_|refine fin_s ?_|refine fin_r ?_ ?_|refine fin_e ?_ ?_)
  conv=>whnf
  intro b1
  repeat' ((conv=>whnf); first | refine sgo ⟨tab_ok⟩ ?_|refine br_not ?_|refine br_t rfl ?_|refine br_f rfl ?_|refine br_t (by assumption) ?_|refine br_f (by assumption) ?_|refine br_t (decide_eq_true (by assumption)) ?_|refine br_f (decide_eq_false (by assumption)) ?_|refine br_t (beq_iff_eq.2 (by assumption)) ?_|refine br_f (beq_eq_false_iff_ne.2 (by assumption)) ?_|refine drA ⟨tab_ok⟩ [] ?_|refine kpt ?_|refine br_t (decide_eq_true (by omega)) ?_|refine br_f (decide_eq_false (by omega)) ?_|refine rowX (f:=30) 1 (plO w.heap.size b1 23 [] (List.replicate 18 (.int .i64 0))) (by rfl) (by rfl) (by rfl) (fun w h=>⟨h,by intro x hx; cases hx⟩) (by rfl) ?_|refine callN (f:=30) (ι:=Nat) (fun g=>.v (.slice (some ⟨g,0,none⟩) 18 18)) (fun g=>rwO (plE b1) w.heap.size (some ⟨g,0,none⟩) 18 18 pl18 true) (fun w1 hH=>(placesP b1 w1).mono (by rintro e w' ⟨g,rfl,h1,h2⟩; exact ⟨g,rfl,Ek.base h1 hH.upd.size,h2,Ek.lows h1⟩)) (fun g=>?_)|refine callO (f:=29) 1 (A:=plO w.heap.size b1 23 [] (List.replicate 18 (.int .i64 0))) (ι:=Unit) (fun _=>.b true) (fun _=>plO w.heap.size b1 23 (List.map PW.nu [a0,a1,a2,a3,a4,a5,a6,a7,a8,a9,a10,a11,a12,a13,a14,a15,a16,a17]) []) (fun w1 hH _=>(readH hH 1 2 (lo:=w.heap.size) (b:=b1) (T:=23) (rest:=List.replicate 18 (.int .i64 0)) (g:=g) (n:=18) (c:=18) (pls:=pl18) (by rfl) (by rfl) (by rfl) s hs rfl pl18_at rfl (by decide) (by decide)).mono (by rw [hv]; rintro e w' ⟨rfl,h2,h3⟩; obtain ⟨vs,p1,p2⟩:=h3 _ rfl; rw [pws_nu p1] at p2; exact ⟨(),rfl,pl_nu p2,h2,pl_nuF⟩)) (fun _=>?_)|refine opixp (j:=1) (q:=0) (r:=⟨b1,23,false,0,[],[.i .i64 0,.i .i64 0,.i .i64 0,.i .i64 0,.i .i64 0,.i .i64 0,.i .i64 0,.i .i64 0,.i .i64 0,.i .i64 0,.i .i64 0,.i .i64 0,.i .i64 0,.i .i64 0,.i .i64 0,.i .i64 0,.i .i64 0,.i .i64 0],[],true⟩) [.i .i64 a0,.i .i64 a1,.i .i64 a2,.i .i64 a3,.i .i64 a4,.i .i64 a5,.i .i64 a6,.i .i64 a7,.i .i64 a8,.i .i64 a9,.i .i64 a10,.i .i64 a11,.i .i64 a12,.i .i64 a13,.i .i64 a14,.i .i64 a15,.i .i64 a16,.i .i64 a17] (by rfl) (fun w1 hH=>pl_all (Hold.ob hH (A:=plO w.heap.size b1 23 _ _) 1 rfl)) ⟨tab_ok⟩ (by rfl) (by rfl) ?_ (by rfl) (by rfl)|refine fin fun w' hH=>se_yes rfl rfl hH.upd.since | refine fin_s ?_|refine fin_r ?_ ?_|refine fin_e ?_ ?_)
end Sp
namespace Rn
open Go.RowKit Ba Mem
def NC (W:World) (g:Nat):Prop:=∃ o:Obj,W.heap[g]?=some o∧o.isCells=false
def OwnB {α:Type} (lo B:Nat) (I:List α→World→Prop):Prop:=∀ s (W W':World) (T:List Nat),I s W→Upd T W W'→(∀ g∈T,g=B∨(lo≤g∧NC W g))→I s W'
def AbB {α:Type} (B:Nat) (J:List α→World→Prop):Prop:=∀ s (A A':World),J s A→Upd [B] A A'→J s A'
theorem upd_put (W:World) (l:Nat) (o:Obj):Upd [l] W (W.putObj l o) :=
 ⟨rfl,rfl,rfl,by simp [World.putObj],fun k _ hk=>World.putObj_heap_other (fun e=>hk (by rw [e]; exact List.mem_singleton.2 rfl))⟩
theorem OwnB.put {α:Type} {lo B:Nat} {I:List α→World→Prop} (h:OwnB lo B I) {s:List α} {W:World} {l:Nat} {o:Obj} (o':Obj) (hs:I s W) (hl:W.heap[l]?=some o) (ho:o.isCells=false) (hlo:lo≤l):I s (W.putObj l o') :=
 h s W _ [l] hs (upd_put W l o') (fun g hg=>.inr (by rw [List.mem_singleton.1 hg]; exact ⟨hlo,o,hl,ho⟩))
def Itr {α:Type} (P:Program) (gf:Nat) (lb:Array Value) (enc:α→Value) (B:Nat) (S Sp:List α→Prop) (N:Nat) (w:World):Prop :=
 ∀ (n l:Nat) (J Jx:List α→World→Prop) (W:World),Upd [] w W→AbB B J→AbB B Jx →
  (∀ pre x W1,J pre W1→pre.length < N→YieldAt Fence.wide n P l #[enc x] W1 fun e W'=>(e=.returned (.bool true)∧J (pre++[x]) W'∧W'.heap[B]?=W1.heap[B]?)∨(e=.returned (.bool false)∧Jx (pre++[x]) W')) →
  J [] W →
  CallsIn Fence.wide (n+1) P gf (#[.func (.yield l) #[] #[]]++lb) W fun e W'=>(∃ v,e=.returned v)∧((∃ xs,S xs∧J xs W')∨(∃ pre,Sp pre∧Jx pre W'))
def bodyP {α:Type} (B:Nat) (I Ix:List α→World→Prop) (xs:List α) (W:World):Exit→Act→World→Prop
 | .normal,_,W'=>(∀ (k:Nat) (o:Obj),W.heap[k]?=some o→(o.isCells=false∨k=B)→W'.heap[k]?=some o)∧I xs W'
 | .ret,_,W'=>(∀ (k:Nat) (o:Obj),W.heap[k]?=some o→(o.isCells=false∨k=B)→W'.heap[k]?=some o)∧Ix xs W'
 | _,_,_=>False
theorem rangeB {α:Type} {P:Program} {g:Operand} {ps:Array Tmp} {assign body:Code} {Q:Exit→Act→World→Prop} {a:Act} {w:World} (n:Nat)
  {gf:Nat} {lb:Array Value} (hg:a.eval g=.func (.func gf) #[] lb) (eg:∀ args w,(callFunc gf args).run P w=.ok (.enter gf args) w)
  {enc:α→Value} {B:Nat} {S Sp:List α→Prop} {N:Nat} (hseq:Itr P gf lb enc B S Sp N w) (hB:B < w.heap.size) (hps:ps.size=1)
  (I Ix:List α→World→Prop) (hI:OwnB w.heap.size B I) (hIx:OwnB w.heap.size B Ix) (h0:I [] w) (a₁:α→Act)
  (hassign:∀ (l:Nat) (x:α) (W:World) (K:Act→World→Prop),K (a₁ x) W→assign.wpIn (Fence.wide.inRound l) n P (Exit.then K (fun _ _ _=>False)) { tmps:=(ps.zip #[enc x]).foldl (fun t (p,v)=>t.setIfInBounds p v) a.tmps,defers:=[] } W)
  (hbody:∀ (l:Nat) (pre:List α) (x:α) (W:World),I pre W→pre.length < N→body.wpIn (Fence.wide.inRound l) n P (bodyP B I Ix (pre++[x]) W) (a₁ x) W)
  (hdone:∀ (D:Nat) (xs:List α) (W:World),w.heap.size≤D→S xs→I xs W→W.heap[D]?=some (.deferred (some []))→Q .normal { a with defers:={ target:=.collected D,args:=#[] }::a.defers } W)
  (hstop:∀ (D:Nat) (pre:List α) (W:World),w.heap.size≤D→Sp pre→Ix pre W→W.heap[D]?=some (.deferred (some []))→Code.ret.wpIn Fence.wide (n+2) P Q { a with defers:={ target:=.collected D,args:=#[] }::a.defers } W) :
  (Code.rangeFunc g ps assign body).wpIn Fence.wide (n+2) P Q a w:=by
 refine wpIn_rangeFunc (fun fn _=>?_)
 obtain ⟨rec,hrec⟩:∃ rec:LoopState→Option Code→Loop,rec=fun st pe=>{ state:=st,pending:=pe,fn,tmps:=a.tmps,params:=ps,assign,body,defers:=w.heap.size }:=⟨_,rfl⟩
 obtain ⟨L,hL⟩:∃ L,L=w.heap.size+1:=⟨_,rfl⟩
 obtain ⟨D,hD⟩:∃ D,D=w.heap.size:=⟨_,rfl⟩
 obtain ⟨W1,hW1⟩:∃ W1,W1=(w.alloc (.deferred (some []))).alloc (.loop (rec .ready none)):=⟨_,rfl⟩
 have hu1:Upd [] w W1:=by rw [hW1]; exact Upd.of_since (Since.alloc (Since.alloc (Since.refl w) _) _)
 have hl1:W1.heap[L]?=some (.loop (rec .ready none)):=by
  have:=World.alloc_heap_new (w.alloc (.deferred (some []))) (.loop (rec .ready none))
  rw [World.size_alloc] at this
  rw [hW1,hL]; exact this
 have hd1:W1.heap[D]?=some (.deferred (some [])):=by
  rw [hW1,hD]
  show ((w.heap.push _).push _)[w.heap.size]?=_
  simp [Array.getElem?_push]
 have hDL:D≠L:=by omega
 have hBD:B≠D:=by omega
 have hBL:B≠L:=by omega
 refine ⟨L,[{ target:=.collected D,args:=#[] }],W1,{ target:=.fn (.func gf) lb,args:=#[.func (.yield L) #[] #[]] },W1,gf,#[.func (.yield L) #[] #[]]++lb,W1, ?_, ?_,fun _ _=>trivial, ?_,fun h=>by simp [Fence.wide] at h, ?_⟩
 ·rw [hW1,hrec,hL,hD]; exact run_enterLoop_outer _ _ _ _ _
 ·simp only [resolve,hg]
  simp [go_sem]
 ·simp [invoke,go_sem,eg]
 -- the two records beside what the owner says
 let Bk:LoopState→Option Code→World→Prop:=fun st pe W=>W.heap[L]?=some (.loop (rec st pe))∧W.heap[D]?=some (.deferred (some []))
 have bk_ab:∀ {st pe} {A A':World},Bk st pe A→Upd [B] A A'→Bk st pe A':=fun {st pe A A'} h u =>
  ⟨(u.block L (Array.getElem?_eq_some_iff.1 h.1).1 (by simpa using Ne.symm hBL)).trans h.1,(u.block D (Array.getElem?_eq_some_iff.1 h.2).1 (by simpa using Ne.symm hBD)).trans h.2⟩
 have hI1:I [] W1:=hI [] w W1 [] h0 hu1 (by intro g hg; cases hg)
 refine (hseq n L (fun pre W=>I pre W∧Bk .ready none W) (fun pre W=>Ix pre W∧Bk .done (some .ret) W) W1 hu1
  (fun s A A' h u=>⟨hI s A A' [B] h.1 u (fun g hg=>.inl (List.mem_singleton.1 hg)),bk_ab h.2 u⟩)
  (fun s A A' h u=>⟨hIx s A A' [B] h.1 u (fun g hg=>.inl (List.mem_singleton.1 hg)),bk_ab h.2 u⟩) ?_ ⟨hI1,hl1,hd1⟩).mono ?_
 ·rintro pre x W ⟨hi,hl,hd⟩ hN
  have hlt:L < W.heap.size:=(Array.getElem?_eq_some_iff.1 hl).1
  have hy:=run_yield (P:=P) (args:=#[enc x]) hl (by rw [hrec]; exact hps.symm)
  rw [hrec] at hy
  refine ⟨fn,_,assign,body,hy,roundIn_of_wpIn trivial (hassign L x W _ ⟨_,run_beginRound hl (by rw [hrec]), ?_⟩)⟩
  obtain ⟨W2,hW2⟩:∃ W2,W2=W.putObj L (.loop { rec .ready none with state:=.busy }):=⟨_,rfl⟩
  rw [← hW2]
  have hl2:W2.heap[L]?=some (.loop { rec .ready none with state:=.busy }):=by rw [hW2]; exact World.putObj_heap_same hlt
  have hd2:W2.heap[D]?=some (.deferred (some [])):=by rw [hW2]; exact (World.putObj_heap_other hDL).trans hd
  have hb2:W2.heap[B]?=W.heap[B]?:=by rw [hW2]; exact World.putObj_heap_other hBL
  have hi2:I pre W2:=by rw [hW2]; exact hI.put _ hi hl rfl (by omega)
  have fin:∀ (jump:Option Code) (W3:World),(∀ (k:Nat) (o:Obj),W2.heap[k]?=some o→(o.isCells=false∨k=B)→W3.heap[k]?=some o) →
    (Instr.endRound L jump).run P W3=.ok (.bool jump.isNone) (W3.putObj L (.loop (rec (if jump.isNone then .ready else .done) jump)))∧W3.heap[L]?=some (.loop { rec .ready none with state:=.busy })∧Bk (if jump.isNone then .ready else .done) jump (W3.putObj L (.loop (rec (if jump.isNone then .ready else .done) jump))):=fun jump W3 hk=>by
   have hl3:=hk L _ hl2 (.inl rfl)
   have hr:(Instr.endRound L jump).run P W3=.ok (.bool jump.isNone) (W3.putObj L (.loop (rec (if jump.isNone then .ready else .done) jump))):=by
    have:=run_endRound (P:=P) jump hl3
    rw [hrec] at this ⊢; exact this
   refine ⟨hr,hl3,World.putObj_heap_same (Array.getElem?_eq_some_iff.1 hl3).1,(World.putObj_heap_other hDL).trans (hk D _ hd2 (.inl rfl))⟩
  refine wpIn_mono (hbody L pre x W2 hi2 hN) ?_
  rintro e a3 W3 hp
  cases e with
  | normal =>
   obtain ⟨hk3,hi3⟩:=hp
   obtain ⟨hr,hl3,hb3⟩:=fin none W3 hk3
   refine ⟨_,_,hr,.inl ⟨rfl,⟨hI.put _ hi3 hl3 rfl (by omega),hb3⟩, ?_⟩⟩
   rw [World.putObj_heap_other hBL,← hb2]
   cases hq:W2.heap[B]? with
   | none =>
    exfalso
    have h1:B < W1.heap.size:=Nat.lt_of_lt_of_le hB hu1.size
    have hBlt:W2.heap.size≤B:=by
     rcases Nat.lt_or_ge B W2.heap.size with h | h
     ·rw [Array.getElem?_eq_getElem h] at hq; cases hq
     ·exact h
    have:L < W2.heap.size:=(Array.getElem?_eq_some_iff.1 hl2).1
    omega
   | some o=>exact hk3 B o hq (.inr rfl)
  | ret =>
   obtain ⟨hk3,hi3⟩:=hp
   obtain ⟨hr,hl3,hb3⟩:=fin (some .ret) W3 hk3
   exact ⟨_,_,hr,.inr ⟨rfl,hIx.put _ hi3 hl3 rfl (by omega),hb3⟩⟩
  | exit id=>exact hp.elim
  | goto t=>exact hp.elim
  | panic ch=>exact hp.elim
  | outgrown=>exact hp.elim
 ·rintro e W2 ⟨⟨v,rfl⟩,(⟨xs,hS,hi,hl,hd⟩ | ⟨pre,hSp,hi,hl,hd⟩)⟩
  ·refine ⟨none,W2.putObj L (.loop { rec .ready none with state:=.exhausted }), ?_, ?_⟩
   ·have:=run_endLoop (P:=P) hl (by rw [hrec]; simp)
    rw [hrec] at this ⊢; exact this
   ·rw [hD] at hd ⊢
    exact hdone _ xs _ (Nat.le_refl _) hS (hI.put _ hi hl rfl (by omega)) ((World.putObj_heap_other (by omega)).trans hd)
  ·refine ⟨some .ret,W2.putObj L (.loop { rec .done (some .ret) with state:=.exhausted }), ?_, ?_⟩
   ·have:=run_endLoop (P:=P) hl (by rw [hrec]; simp)
    rw [hrec] at this ⊢; exact this
   ·rw [hD] at hd ⊢
    exact hstop _ pre _ (Nat.le_refl _) hSp (hIx.put _ hi hl rfl (by omega)) ((World.putObj_heap_other (by omega)).trans hd)
end Rn
namespace Sp
open Go.RowKit Ba Mem En Go.Proofs.YtnoehplnmdajnaaGreatDoor.Ty Gw Rn
open Co (Hold.ob)
open Sx Sw
set_option maxRecDepth 100000
abbrev Ln:Type:={x:List UInt8 // x.length≤200000}
def lnV (x:Ln):Value:=.string ⟨x.1.toArray⟩
def bx (w:World) (B:Nat) (s:List UInt8):Prop:=Blk w B 9 #[.string ⟨s.toArray⟩]
theorem bx_cell {w:World} {B:Nat} {s:List UInt8} (h:bx w B s):w.cell? ⟨B,0,none⟩=some (.string ⟨s.toArray⟩):=Blk.cell h 0
theorem bx_frz {w:World} {B:Nat} {s:List UInt8} (h:bx w B s):w.frozen? ⟨B,0,none⟩=false:=Blk.frozen h 0
theorem ibC (s:List UInt8) (w:World):Calls Tryz.prog 14 #[.string ⟨s.toArray⟩,.int .u8 10] w fun e w'=>e=.returned (.int .i64 (Lib.indexByte s 10))∧w'=w:=by
 refine (Go.Proofs.Any.strings_IndexByte Tryz.lays137 ⟨s.toArray⟩ 10 w).mono ?_
 rintro e w' ⟨rfl,rfl⟩
 exact ⟨rfl,rfl⟩
structure LnI (s:List UInt8) (B:Nat) (J:List Ln→World→Prop) (w:World) (xs:List Ln) (r:List UInt8):Prop where
 b:bx w B r
 le:r.length≤s.length
 j:J xs w
 e:xs.map (·.1)++lnE r=lnE s
def lnM (B:Nat) (w:World):Nat:=match w.cell? ⟨B,0,none⟩ with
 | some (.string b)=>b.size
 | _=>0
theorem exN (r:List UInt8) (k:Nat):(⟨r.toArray⟩:ByteArray).extract 0 k=⟨(r.take k).toArray⟩:=by rw [ByteArray.extract_mk]; simp
theorem exD (r:List UInt8) (k:Nat):(⟨r.toArray⟩:ByteArray).extract k r.length=⟨(r.drop k).toArray⟩:=by
 rw [ByteArray.extract_mk]
 have:(r.drop k).take (r.length - k)=r.drop k:=List.take_of_length_le (by rw [List.length_drop]; omega)
 simp [this]
theorem exE (r:List UInt8):ByteArray.empty=⟨(r.drop r.length).toArray⟩:=by rw [List.drop_length]; rfl
theorem lnM_is {B:Nat} {w:World} {r:List UInt8} (h:bx w B r):lnM B w=r.length:=by
 unfold lnM
 rw [bx_cell h]
 exact tx_size r
theorem LnI.next {s:List UInt8} {B:Nat} {J:List Ln→World→Prop} {w w1:World} {xs:List Ln} {r:List UInt8} {k:Nat} {x:Ln} (h:LnI s B J w xs r) (hr:r≠[]) (hk:cutN r=k) (hx:x.1=r.take k) (hJ:AbB B J) (hb:bx w1 B r) (hj:J (xs++[x]) w1):LnI s B J (w1.setCell ⟨B,0,none⟩ (.string ⟨(r.drop k).toArray⟩)) (xs++[x]) (r.drop k)∧lnM B (w1.setCell ⟨B,0,none⟩ (.string ⟨(r.drop k).toArray⟩)) < lnM B w:=by
 have hk0:=cutN_pos hr
 have hle:=cutN_le r
 have e:=setCell_eq_setRow w1 B 0 #[.string ⟨r.toArray⟩] 9 (0,0) (.string ⟨(r.drop k).toArray⟩) hb
 have hb2:bx (w1.setCell ⟨B,0,none⟩ (.string ⟨(r.drop k).toArray⟩)) B (r.drop k):=by rw [e]; exact Blk.row hb _
 have hu:Upd [B] w1 (w1.setCell ⟨B,0,none⟩ (.string ⟨(r.drop k).toArray⟩)):=by rw [e]; exact (Upd.refl _ w1).setRow (.inl (List.mem_singleton.2 rfl)) _
 refine ⟨⟨hb2,by have:=h.le; rw [List.length_drop]; omega,hJ _ _ _ hj hu, ?_⟩,by rw [lnM_is hb2,lnM_is h.b,List.length_drop]; omega⟩
 have:=h.e
 rw [lnE_cons hr,hk] at this
 rw [List.map_append,List.append_assoc,← this]
 show _++([x.1]++_)=_
 rw [hx]; rfl
attribute [local irreducible] Go.Calls
attribute [local go_sem] Oper.semAt_some
set_option maxHeartbeats 4000000 in
theorem linesP (s:List UInt8) (B:Nat) (w:World) (hb:bx w B s) (hl:s.length≤200000):Itr Tryz.prog 49 #[.pointer (some ⟨B,0,none⟩)] lnV B (fun xs=>xs.map (·.1)=lnE s) (fun pre=>∃ r,pre.map (·.1)++r=lnE s) (lnE s).length w:=by
 intro n l J Jx W hu hJ hJx hY h0
 have hb':bx W B s:=hu.blk hb (by intro h; cases h)
 refine callsIn_of_wp Tryz.func49 rfl trivial ?_ rfl
 simp only [Tryz.ntmps49,List.size_toArray,List.length_cons,List.length_nil,Nat.reduceAdd,Nat.reduceSub,Array.replicate_succ,Array.replicate_zero,List.push_toArray,List.append_toArray,List.nil_append,List.cons_append]
 apply wpIn_block
 refine wpIn_loop (fun a w=>∃ xs r u2 u3 u4 u5 u6 u7 u8 u9 u10 u11 u12 u13 u14 u15 u16 u17 u18 u19 u20 u21,LnI s B J w xs r∧a={ tmps:=#[.func (.yield l) #[] #[],.pointer (some ⟨B,0,none⟩),u2,u3,u4,u5,u6,u7,u8,u9,u10,u11,u12,u13,u14,u15,u16,u17,u18,u19,u20,u21],defers:=[] }) (fun _ w=>lnM B w) ⟨[],s,_,_,_,_,_,_,_,_,_,_,_,_,_,_,_,_,_,_,_,_,⟨hb',Nat.le_refl _,h0,rfl⟩,rfl⟩ ?_
 rintro a w1 ⟨xs,r,u2,u3,u4,u5,u6,u7,u8,u9,u10,u11,u12,u13,u14,u15,u16,u17,u18,u19,u20,u21,hI,rfl⟩
 have hc:=bx_cell hI.b
 have hf:=bx_frz hI.b
 by_cases hr:r=[]
 ·subst hr
  have he:=hI.e
  rw [lnE_nil,List.append_nil] at he
  gi_wp2
  go_end0
  exact ⟨⟨_,rfl⟩,.inl ⟨xs,he,hI.j⟩⟩
 ·have hpos:0 < r.length:=List.length_pos_iff.2 hr
  have hre:(!r.isEmpty)=true:=by cases r <;> simp_all
  have hle:=hI.le
  have hk1:=cutN_le r
  have hk0:=cutN_pos hr
  have hln:=lnE_cons hr
  have hnx:=hI.e
  rw [hln] at hnx
  obtain ⟨k,hk⟩:∃ k,cutN r=k:=⟨_,rfl⟩
  rw [hk] at hk1 hk0 hnx
  have hlt:xs.length < (lnE s).length:=by rw [← hnx,List.length_append,List.length_map,List.length_cons]; omega
  obtain ⟨fn1,t1,a1,b1,hy1,hR1⟩:=hY xs ⟨r.take k,by rw [List.length_take]; omega⟩ w1 hI.j hlt
  have hy2:(Instr.yield l #[.string ⟨(r.take k).toArray⟩]).run Tryz.prog w1=.ok (.round l fn1 t1 a1 b1) w1:=hy1
  have HY:=Lib.hid hy2
  clear hy1 hy2
  have hib:(Lib.indexByte r 10 = -1∧k=r.length)∨∃ i:Nat,Lib.indexByte r 10=(i:Int)∧k=i+1:=by
   rw [← hk]; unfold cutN
   cases hn:nl r with
   | none=>exact .inl ⟨ib_none hn,rfl⟩
   | some i=>exact .inr ⟨i,ib_some hn,rfl⟩
  have hcall:=ibC r w1
  rcases hib with ⟨hi,he⟩ | ⟨i,hi,he⟩
  ·rw [hi] at hcall
   subst he
   gi_wp2
   refine ⟨trivial,(callsIn_wide.2 hcall).mono ?_⟩
   rintro e w' ⟨rfl,rfl⟩
   gi_wp2
   rw [exN,HY.out]
   refine ⟨(by intro h; cases h),hR1.mono ?_⟩
   rintro e W1 (⟨rfl,hJ1,hB⟩ | ⟨rfl,hx1⟩)
   ·have hb1:bx W1 B r:=hB.trans hI.b
    have hc1:=bx_cell hb1
    have hf1:=bx_frz hb1
    gi_wp2
    rw [exE r]
    obtain ⟨h1,h2⟩:=hI.next hr hk rfl hJ hb1 hJ1
    exact ⟨⟨_,_,_,_,_,_,_,_,_,_,_,_,_,_,_,_,_,_,_,_,_,_,h1,rfl⟩,h2⟩
   ·gi_wp2
    refine bodyPost_ret (results_none rfl _ _ _) rfl ?_
    exact ⟨⟨_,rfl⟩,.inr ⟨_,⟨_,by rw [List.map_append,List.append_assoc]; exact hnx⟩,hx1⟩⟩
  ·rw [hi] at hcall
   subst he
   gi_wp2
   refine ⟨trivial,(callsIn_wide.2 hcall).mono ?_⟩
   rintro e w' ⟨rfl,rfl⟩
   gi_wp2
   rw [exN,HY.out]
   refine ⟨(by intro h; cases h),hR1.mono ?_⟩
   rintro e W1 (⟨rfl,hJ1,hB⟩ | ⟨rfl,hx1⟩)
   ·have hb1:bx W1 B r:=hB.trans hI.b
    have hc1:=bx_cell hb1
    have hf1:=bx_frz hb1
    gi_wp2
    rw [exD r]
    obtain ⟨h1,h2⟩:=hI.next hr hk rfl hJ hb1 hJ1
    exact ⟨⟨_,_,_,_,_,_,_,_,_,_,_,_,_,_,_,_,_,_,_,_,_,_,h1,rfl⟩,h2⟩
   ·gi_wp2
    refine bodyPost_ret (results_none rfl _ _ _) rfl ?_
    exact ⟨⟨_,rfl⟩,.inr ⟨_,⟨_,by rw [List.map_append,List.append_assoc]; exact hnx⟩,hx1⟩⟩
end Sp
namespace Sp
open Go.RowKit Ba Mem En Go.Proofs.YtnoehplnmdajnaaGreatDoor.Ty Gw Rn
open Co (Hold.ob)
open Sx Sw
set_option maxRecDepth 100000
def lnF (B:Nat):Value:=.func (.func 49) #[] #[.pointer (some ⟨B,0,none⟩)]
theorem linesC (s:List UInt8) (w:World):Calls Tryz.prog 32 #[.string ⟨s.toArray⟩] w fun e w'=>∃ B,e=.returned (lnF B)∧w.heap.size≤B∧bx w' B s∧Since w w':=by
 go_enter Tryz.func32,Tryz.ntmps32
 go_wp2
 refine bodyPost_ret (results_tmp rfl _ _ _) rfl ?_
 exact ⟨w.heap.size,rfl,Nat.le_refl _,Blk.new _ _ _,Since.alloc (Since.refl w) _⟩
end Sp
namespace En
open Go.RowKit Ba Mem
def ndO (o:Oper):Bool:=match o.op with
 | .defer _=>false
 | _=>true
def ndC:Code→Bool
 | .region _ ops _=>ops.toList.all ndO
 | .seq a b=>ndC a && ndC b
 | .cond _ a b=>ndC a && ndC b
 | .block _ c=>ndC c
 | _=>true
theorem ndO_of {o:Oper} (h:ndO o=true) (c:Call):o.op≠.defer c:=fun e=>by
 unfold ndO at h; rw [e] at h; cases h
section
variable {P:Program} {o:Oper} {a:Act} {w:World} {K:Act→World→Prop} {Q:Exit→Act→World→Prop} {ops:Array Oper} (l n:Nat)
theorem op_in (hd:ndO o=true) (h:o.wp P a w K Q):o.wpIn (Fence.wide.inRound l) n P a w K Q:=by
 refine ⟨fun _ _=>trivial, ?_⟩
 rw [Oper.semAt_eq _ _ _ (ndO_of hd)]
 unfold Oper.wp at h
 generalize (execOp a.eval o).run P w=r at *
 cases r with
 | ok x w' =>
  cases x <;> simp only [Oper.upon,Oper.uponIn] at h ⊢ <;>
   first
    | exact h
    | exact ⟨(by intro h; cases h),CallsIn.inRound l (callsIn_wide.2 h)⟩
    | exact ⟨(by intro h; cases h),fun c cs _=>let ⟨v,w2,r,s⟩:=h c cs; ⟨v,w2,r,stepsIn_wide.2 s⟩⟩
    | exact h.elim
 | halt x w'=>cases x <;> simp only [Oper.upon,Oper.uponIn] at h ⊢ <;> first | exact h | exact h.elim
theorem list_in (hQ:¬ LetsOut Q):∀ {os:List Oper} {a:Act} {w:World},os.all ndO=true→wpList P ops Q os a w→wpListIn (Fence.wide.inRound l) n P ops Q os a w
 | [],_,_,_,h=>h
 | o::os,a,w,hd,h=>by
  simp only [List.all_cons,Bool.and_eq_true] at hd
  unfold wpList at h
  unfold wpListIn
  split at h
  ·rename_i hw
   rw [if_pos hw]
   exact Oper.wpIn_mono (fun a w k=>list_in hQ hd.2 k) (op_in l n hd.1 (h.resolve_right fun h=>hQ h.2))
  ·rename_i hw
   rw [if_neg hw]
   exact ⟨fun _ _=>trivial,list_in hQ hd.2 h⟩
theorem wpOp_in (hQ:¬ LetsOut Q) (hd:ops.toList.all ndO=true) {i:Nat} (h:wpOp P ops Q i K a w):wpOpIn (Fence.wide.inRound l) n P ops Q i K a w:=by
 unfold wpOp at h
 unfold wpOpIn
 cases ho:ops[i]? with
 | none=>simp only [ho] at h ⊢; exact h
 | some o =>
  simp only [ho] at h ⊢
  have hdo:ndO o=true:=List.all_eq_true.1 hd o (by rw [Array.mem_toList_iff]; exact Array.mem_of_getElem? ho)
  split at h
  ·rename_i hw
   rw [if_pos hw]
   exact op_in l n hdo (h.resolve_right fun h=>hQ h.2)
  ·rename_i hw
   rw [if_neg hw]
   exact ⟨fun _ _=>trivial,h⟩
theorem any_in (hQ:¬ LetsOut Q) (hd:ops.toList.all ndO=true):∀ {k:Nat} {L:Array Bool} {a:Act} {w:World},wpAny P .any ops Q k L a w→wpAnyIn (Fence.wide.inRound l) n P .any ops Q k L a w
 | 0,_,_,_,h=>h
 | k+1,L,a,w,h=>⟨h.1,fun i hi=>wpOpIn_mono (fun a w k=>any_in hQ hd k) (wpOp_in l n hQ hd (h.2 i hi))⟩
end
structure SmI (X:Cx) (l n:Nat) (c:Code) (s:St) (K:Exit→St→Prop):Prop where
 out:∀ (a:Act) w,Rel X s a w→c.wpIn (Fence.wide.inRound l) n X.P (Qof X K) a w
def runI (X:Cx) (l n:Nat):Code→St→(Exit→St→Prop)→Prop
 | .skip,s,K=>K .normal s
 | .region id ops d,s,K=>match d with
  | false=>steps X ops.toList ops.toList s (K .normal)
  | true=>SmI X l n (.region id ops true) s K
 | .seq a b,s,K=>match isReg a with
  | true=>runI X l n a s (sq K fun s=>runI X l n b s K)
  | false=>SmI X l n (.seq a b) s K
 | .cond c a b,s,K=>ev c s.fr fun v=>match v with
  | .b t=>Br t (runI X l n a s K) (runI X l n b s K)
  | _=>False
 | .block id c,s,K=>runI X l n c s (inB id K)
 | .exit id,s,K=>K (.exit id) s
 | .ret,s,K=>K .ret s
 | c,s,K=>SmI X l n c s K
section
variable {X:Cx} {l n:Nat} {s:St}
theorem runI_of (hX:X.Ok):∀ {c:Code} {s:St} {K:Exit→St→Prop},ndC c=true→runI X l n c s K→SmI X l n c s K
 | .skip,s,K,_,h=>by refine ⟨?_⟩; exact fun a w hR=>wpIn_skip ⟨s,hR,h⟩
 | .exit id,s,K,_,h=>by refine ⟨?_⟩; exact fun a w hR=>wpIn_exit ⟨s,hR,h⟩
 | .ret,s,K,_,h=>by refine ⟨?_⟩; exact fun a w hR=>wpIn_ret ⟨s,hR,h⟩
 | .region id ops d,s,K,hd,h=>by
  unfold runI at h
  cases d with
  | true=>exact h
  | false =>
   refine ⟨?_⟩
   exact fun a w hR=>wpIn_region_list (list_in l n (fun h=>by obtain ⟨a,w,h⟩:=h; exact h) hd (steps_of hX (K:=K .normal) (fun a w s hR h=>⟨s,hR,h⟩) hR h))
 | .seq x y,s,K,hd,h=>by
  unfold runI at h
  unfold ndC at hd
  rw [Bool.and_eq_true] at hd
  split at h
  ·refine ⟨?_⟩
   intro a w hR
   have h1:=runI_of hX hd.1 h
   replace h1:=h1.out
   refine wpIn_seq (wpIn_mono (h1 a w hR) (Qof.seq fun s a w hR hN=>?_))
   have h2:=runI_of hX hd.2 hN
   replace h2:=h2.out
   exact h2 a w hR
  ·exact h
 | .cond c x y,s,K,hd,h=>by
  unfold runI at h
  unfold ndC at hd
  rw [Bool.and_eq_true] at hd
  refine ⟨?_⟩
  intro a w hR
  obtain ⟨v,h1,h2,h⟩:=ev_of hR.fr h
  cases v with
  | b t =>
   replace h:=h.out
   refine wpIn_cond (t:=t) (by rw [h2]; rfl) ?_
   cases t with
   | true=>have h3:=runI_of hX hd.1 (h.1 rfl); replace h3:=h3.out; exact h3 a w hR
   | false=>have h3:=runI_of hX hd.2 (h.2 rfl); replace h3:=h3.out; exact h3 a w hR
  | _=>exact h.elim
 | .block id c,s,K,hd,h=>by
  unfold runI at h
  have h1:=runI_of (c:=c) hX (show ndC c=true from hd) h
  replace h1:=h1.out; refine ⟨?_⟩
  exact fun a w hR=>wpIn_block (wpIn_mono (h1 a w hR) Qof.block)
 | .loop c,s,K,_,h=>h
 | .rangeFunc f p x y,s,K,_,h=>h
 | .scope c,s,K,_,h=>h
 | .label l,s,K,_,h=>h
 | .goto l,s,K,_,h=>h
 | .refuse r,s,K,_,h=>h
theorem sgoI (hX:X.Ok) {x y:Code} {K:Exit→St→Prop} (h:runI X l n x s (sq K fun s=>runI X l n y s K)) (hd:(ndC x && ndC y)=true:=by kernel_rfl):SmI X l n (.seq x y) s K:=by
 rw [Bool.and_eq_true] at hd
 refine ⟨?_⟩
 intro a w hR
 have h1:=runI_of hX hd.1 h
 replace h1:=h1.out
 refine wpIn_seq (wpIn_mono (h1 a w hR) (Qof.seq fun s a w hR hN=>?_))
 have h2:=runI_of hX hd.2 hN
 replace h2:=h2.out
 exact h2 a w hR
theorem drI (hX:X.Ok) (ef:List Nat) {id:Nat} {ops:Array Oper} {K:Exit→St→Prop}
  (h:stoK ef ops.toList s.fr 0 ops.toList fun sts=>allK s.m 0 fun all=>exD X ops.toList all s.m sts (planOf ef ops.toList) [] s (K .normal)) (hm:X.P.follows .mixedOrders=true:=by kernel_rfl)
  (hc:(Region.noSelect ops && chk ops ops.size (Array.replicate ops.size false) (planOf ef ops.toList))=true:=by kernel_rfl) (hd:ops.toList.all ndO=true:=by kernel_rfl):SmI X l n (.region id ops true) s K:=by
 refine ⟨?_⟩
 intro a w hR
 simp only [Bool.and_eq_true] at hc
 obtain ⟨sts,h,hsts⟩:=stoK_of h
 obtain ⟨all,h,hall⟩:=allK_of h
 have hR':Rel X s a w.drew:=⟨hR.ds,hR.sz,hR.fr,hR.h.drew⟩
 have hW:W0 s.m:=fun j r hj hl=>⟨(hR.h.wf j r hj hl).1,(hR.h.wf j r hj hl).2.1⟩
 have hst:Sts ops sts:=fun q hq=>by
  obtain ⟨k,o,e1,e2,e3⟩:=hsts q hq
  rw [Nat.zero_add] at e1
  exact ⟨o,by rw [e1]; simpa using e2,e3⟩
 have hcl:Clo ops (Array.replicate ops.size false):=fun k o ho hk=>by
  have hlt:=(Array.getElem?_eq_some_iff.1 ho).1
  simp [hlt] at hk
 have hA:=exD_of (K:=K .normal) (Q:=Qof X K) hX hW (fun j=>by rw [hall]; omega) hst hc.1 (fun a w s hR h=>(⟨s,hR,h⟩:Qof X K .normal a w)) (fun c a w h=>h) hc.2 hcl hR' ⟨Ext.refl _,fun j r hr _=>hr⟩ (fun j hj=>by cases hj) h
 exact wpIn_region_any hm (any_in l n (fun h=>by obtain ⟨a,w,h⟩:=h; exact h) hd hA.out)
end
end En
namespace En
open Go.RowKit Ba Mem Rn
def fpt (m:List Row) (ob:List Asr):List Nat:=(m.filter fun r=>r.live && r.rw).map (·.g)++(ob.filter (·.rw)).flatMap (·.F)
section
variable {P:Program} {T:Tab} {w W W':World} {n n' n2:Nat} {ds ds' ds2:List Deferred} {m m':List Row} {ob ob':List Asr}
theorem fpt_mem {g:Nat}:g∈fpt m ob↔(∃ (j:Nat) (r:Row),m[j]?=some r∧r.live=true∧r.rw=true∧r.g=g)∨∃ A∈ob,A.rw=true∧g∈A.F:=by
 unfold fpt
 rw [List.mem_append]
 constructor
 ·rintro (h | h)
  ·obtain ⟨r,hr,rfl⟩:=List.mem_map.1 h
   obtain ⟨h1,h2⟩:=List.mem_filter.1 hr
   rw [Bool.and_eq_true] at h2
   obtain ⟨j,hj⟩:=List.getElem?_of_mem h1
   exact .inl ⟨j,r,hj,h2.1,h2.2,rfl⟩
  ·obtain ⟨A,hA,hg⟩:=List.mem_flatMap.1 h
   obtain ⟨h1,h2⟩:=List.mem_filter.1 hA
   exact .inr ⟨A,h1,h2,hg⟩
 ·rintro (⟨j,r,hj,h1,h2,rfl⟩ | ⟨A,hA,h1,hg⟩)
  ·exact .inl (List.mem_map.2 ⟨r,List.mem_filter.2 ⟨List.mem_of_getElem? hj,by rw [h1,h2]; rfl⟩,rfl⟩)
  ·exact .inr (List.mem_flatMap.2 ⟨A,List.mem_filter.2 ⟨hA,h1⟩,hg⟩)
theorem Hold.into (h:Hold ⟨P,T,[],w,n,ds⟩ m ob W):Hold ⟨P,T,fpt m ob,W,n',ds'⟩ m ob W :=
 ⟨Upd.refl _ _,h.row,fun j r hj hl=>⟨(h.wf j r hj hl).1,(h.wf j r hj hl).2.1,fun hrw=>.inl (fpt_mem.2 (.inl ⟨j,r,hj,hl,hrw,rfl⟩))⟩,h.ne,h.obj,h.far,fun A hA hrw g hg=>.inl (fpt_mem.2 (.inr ⟨A,hA,hrw,hg⟩)),h.dis⟩
theorem fpt_lo (h:Hold ⟨P,T,[],w,n,ds⟩ m ob W) {g:Nat} (hg:g∈fpt m ob):w.heap.size≤g:=by
 rcases fpt_mem.1 hg with ⟨j,r,hj,h1,h2,rfl⟩ | ⟨A,hA,h1,hg⟩
 ·exact ((h.wf j r hj h1).2.2 h2).resolve_left (by intro h; cases h)
 ·exact (h.own A hA h1 g hg).resolve_left (by intro h; cases h)
theorem Hold.outof (h:Hold ⟨P,T,[],w,n,ds⟩ m ob W) (k:Hold ⟨P,T,fpt m ob,W,n',ds'⟩ m' ob' W'):Hold ⟨P,T,[],w,n2,ds2⟩ m' ob' W' :=
 ⟨h.upd.comp k.upd (fun g hg=>.inr (fpt_lo h hg)),k.row,fun j r hj hl=>⟨(k.wf j r hj hl).1,(k.wf j r hj hl).2.1,fun hrw=>.inr (by
  rcases (k.wf j r hj hl).2.2 hrw with h1 | h1
  ·exact fpt_lo h h1
  ·exact Nat.le_trans h.upd.size h1)⟩,k.ne,k.obj,k.far,fun A hA hrw g hg=>.inr (by
  rcases k.own A hA hrw g hg with h1 | h1
  ·exact fpt_lo h h1
  ·exact Nat.le_trans h.upd.size h1),k.dis⟩
theorem Hold.stay {S:List Nat} (h:Hold ⟨P,T,[],w,n,ds⟩ m ob W) (u:Upd S W W') (hS:∀ g∈S,w.heap.size≤g) (hrow:∀ (j:Nat) (r:Row),m[j]?=some r→r.live=true→r.g∉S) (hob:∀ A∈ob,A.st W'):Hold ⟨P,T,[],w,n,ds⟩ m ob W' :=
 ⟨h.upd.comp u (fun g hg=>.inr (hS g hg)),fun j r hj hl=>u.blk (h.row j r hj hl) (hrow j r hj hl),h.wf,h.ne,hob,h.far,h.own,h.dis⟩
def Cl (A:Asr):Prop:=∀ W g,A.st W→g∈A.F→¬ NC W g
theorem nc_blk {g:Nat} {t:TypeId} {cs:Array Value} (h:Blk W g t cs):¬ NC W g:=by
 rintro ⟨o,h1,h2⟩
 have h:W.heap[g]?=some (.cells cs t (0,0)):=h
 rw [h] at h1
 cases h1; cases h2
theorem nc_cell {g i:Nat} {v:Value} (h:W.cell? ⟨g,i,none⟩=some v):¬ NC W g:=by
 rintro ⟨o,h1,h2⟩
 unfold World.cell? at h
 rw [h1] at h
 cases o <;> simp_all [Obj.isCells]
theorem nc_own {lo size n c:Nat} {e:TypeId} {A:Option Addr} {xs:List Value} (h:W.ownsRow lo e size (.slice A n c) n xs) {g:Nat} (hg:g∈blkOf A):¬ NC W g:=by
 rcases h.2 with h2 | ⟨b,cap,cur,hv,hbg,hblk,rest⟩
 ·have:A=none:=by injection h2.1
  subst this; cases hg
 ·have:A=some ⟨b,0,none⟩:=by injection hv
  subst this
  have hg:g=b:=List.mem_singleton.1 hg
  subst hg
  exact nc_blk hblk
def bxO (B:Nat):Asr:=⟨[B],false,fun w=>B < w.heap.size,fun u _ h=>Nat.lt_of_lt_of_le h u.size,fun h g hg=>by rw [List.mem_singleton] at hg; subst hg; exact h⟩
theorem fpt_cl {X:Cx} (h:Hold X m ob W) (hcl:∀ A∈ob,A.rw=true→Cl A) {g:Nat} (hg:g∈fpt m ob):¬ NC W g:=by
 rcases fpt_mem.1 hg with ⟨j,r,hj,h1,h2,rfl⟩ | ⟨A,hA,h1,hg⟩
 ·exact nc_blk (h.row j r hj h1)
 ·exact hcl A hA h1 W g (h.obj A hA) hg
theorem fpt_bx {X:Cx} (h:Hold X m ob W) {B:Nat} (hB:bxO B∈ob):B∉fpt m ob:=by
 intro hg
 have hBB:B∈(bxO B).F:=List.mem_singleton.2 rfl
 rcases fpt_mem.1 hg with ⟨j,r,hj,h1,h2,rfl⟩ | ⟨A,hA,h1,hg⟩
 ·exact h.far _ hB j r hj h1 hBB
 ·obtain ⟨i,hi⟩:=List.getElem?_of_mem hA
  obtain ⟨k,hk⟩:=List.getElem?_of_mem hB
  have hne:i≠k:=by
   rintro rfl
   rw [hi] at hk
   have e:=Option.some.inj hk
   rw [e] at h1; cases h1
  exact pair_at (R:=DisR) (fun _ _ h=>h.symm) h.dis hi hk hne (.inl h1) B hg hBB
end
end En
namespace En
open Go.RowKit Ba Mem Rn
structure SmW (X:Cx) (n:Nat) (c:Code) (s:St) (Q:Exit→Act→World→Prop):Prop where
 out:∀ (a:Act) w,Rel X s a w→c.wpIn Fence.wide n X.P Q a w
section
variable {X:Cx} {n:Nat} {s:St} {Q:Exit→Act→World→Prop}
theorem wreg (hX:X.Ok) {id:Nat} {ops:Array Oper} {y:Code} (h:run X (.region id ops false) s (sq (fun _ _=>False) fun s=>SmW X n y s Q)):SmW X n (.seq (.region id ops false) y) s Q:=⟨fun a w hR=>by
 refine wpIn_seq (wpIn_mono (wpIn_wide.2 ((run_of hX h).out a w hR)) fun e a w k=>?_)
 cases e with
 | normal=>obtain ⟨s,hR,h⟩:=k; exact h.out a w hR
 | exit id=>obtain ⟨s,hR,h⟩:=k; exact h.elim
 | ret=>obtain ⟨s,hR,h⟩:=k; exact h.elim
 | _=>exact k.elim⟩
theorem wret (h:∀ a w,Rel X s a w→Q .ret a w):SmW X n .ret s Q:=⟨fun a w hR=>wpIn_ret (h a w hR)⟩
theorem wsq {x y:Code} (h:SmW X n x s (Exit.then (y.wpIn Fence.wide n X.P Q) Q)):SmW X n (.seq x y) s Q:=⟨fun a w hR=>wpIn_seq (h.out a w hR)⟩
theorem entW {P:Program} {T:Tab} {f:FuncId} {fn:Func} {c:Code} {n N:Nat} {args:Array Value} {w:World} {R:Ending→World→Prop} {S:List Nat} {m:List Row} {ob:List Asr} (hH:Hold ⟨P,T,S,w,n,[]⟩ m ob w) (vs:List SV)
  (hf:P.funcs[f]?=some fn) (hn:fn.ntmps=n) (hb:fn.body=some c) (hargs:(denL m vs).toArray=args)
  (h:numbK 0 vs fun fr=>SmW ⟨P,T,S,w,n,[]⟩ N c ⟨fr,m,ob⟩ (bodyPostM Fence.wide N P fn R))
  (hok:(okL m.length vs && Nat.ble vs.length n)=true:=by rfl):Calls P f args w R:=by
 simp only [Bool.and_eq_true] at hok
 have hle:=Nat.le_of_ble_eq_true hok.2
 refine (callsIn_wide (n:=N)).1 (callsIn_of_wp_marks hf hb trivial ?_)
 have h:=numbK_of h
 refine h.out _ _ ⟨rfl, ?_,fun k v hv=>?_,hH⟩
 ·subst hargs; simp [denL_len,hn]; omega
 ·obtain ⟨_,h2⟩:=numb_lk hv
  simp only [Nat.sub_zero] at h2
  refine ⟨okL_at hok.1 h2, ?_⟩
  subst hargs
  have hlt:k < (denL m vs).toArray.size:=by simp [denL_len]; exact (List.getElem?_eq_some_iff.1 h2).1
  rw [Array.getElem?_append_left hlt,List.getElem?_toArray,denL_get,h2]; rfl
theorem leaves_of {P:Program} {fn:Func} {R:Ending→World→Prop} {a:Act} {D N:Nat} {w:World} (hd:a.defers=[{ target:=.collected D,args:=#[] }]) (hD:w.heap[D]?=some (.deferred (some []))) (h:bodyPost P fn R .ret { tmps:=a.tmps,defers:=[] } (w.putObj D (.deferred none))):bodyPostM Fence.wide N P fn R .ret a w:=by
 show LeavesInM Fence.wide N P fn a.tmps R a.defers .returning w
 rw [hd]
 exact ⟨by simp,.inl ⟨_,_,rfl,run_takeDeferred hD,h.2⟩⟩
theorem upd_obj (W:World) (l:Nat) (o:Obj):Upd [l] W (W.putObj l o):=Rn.upd_put W l o
theorem ret_of {P:Program} {T:Tab} {fn:Func} {R:Ending→World→Prop} {a2:Act} {w W w2:World} {D N n:Nat} {m:List Row} {ob:List Asr} {s2:St} (hH:Hold ⟨P,T,[],w,n,[]⟩ m ob W) (hcl:∀ A∈ob,A.rw=true→Cl A) (hD:W.heap[D]?=some (.deferred (some []))) (hlo:w.heap.size≤D)
  (hR2:Rel ⟨P,T,fpt m ob,W,n,[{ target:=.collected D,args:=#[] }]⟩ s2 a2 w2) (hob:∀ W',Upd [D] w2 W'→NC w2 D→∀ C∈s2.ob,C.st W') (hX:(⟨P,T,[],w,n,[]⟩:Cx).Ok) (hfin:finK ⟨P,T,[],w,n,[]⟩ fn R .ret s2):bodyPostM Fence.wide N P fn R .ret a2 w2:=by
 have hnc:NC W D:=⟨_,hD,rfl⟩
 have hD2:w2.heap[D]?=some (.deferred (some [])):=(hR2.h.upd.block D (Array.getElem?_eq_some_iff.1 hD).1 (fun h=>fpt_cl hH hcl h hnc)).trans hD
 have hnc2:NC w2 D:=⟨_,hD2,rfl⟩
 have u:=upd_obj w2 D (.deferred none)
 have h3:Hold ⟨P,T,[],w,n,[]⟩ s2.m s2.ob (w2.putObj D (.deferred none)):=(hH.outof (n2:=n) (ds2:=[]) hR2.h).stay u (fun g hg=>by rw [List.mem_singleton.1 hg]; exact hlo) (fun j r hj hl hg=>by
  have e:=List.mem_singleton.1 hg
  exact nc_blk (hR2.h.row j r hj hl) (by rw [e]; exact hnc2)) (hob _ u hnc2)
 exact leaves_of hR2.ds hD2 (fin_of hX rfl .ret _ _ ⟨s2,⟨rfl,hR2.sz,hR2.fr,h3⟩,hfin⟩)
theorem round_of {l k:Nat} {c:Code} {Q:Exit→Act→World→Prop} {a:Act} {w:World} {K:Exit→St→Prop} (h:SmI X l k c s K) (hR:Rel X s a w) (hQ:∀ e a w,Qof X K e a w→Q e a w):c.wpIn (Fence.wide.inRound l) k X.P Q a w:=wpIn_mono (h.out a w hR) hQ
def rdA (a:Act) (p q:Nat) (v:Value):Act:={ tmps:=(a.tmps.setIfInBounds p v).setIfInBounds q v,defers:=[] }
theorem assign_of {P:Program} {a:Act} {id p q l n:Nat} {o:Oper} {v:Value} {K:Act→World→Prop} {W:World} (ho:o.op=.assign (.tmp p)) (hd:o.dst=some q) (hg:o.guard=none) (hp:p < a.tmps.size) (h:K (rdA a p q v) W) :
  (Code.region id #[o] false).wpIn (Fence.wide.inRound l) n P (Exit.then K (fun _ _ _=>False)) { tmps:=((#[p]:Array Tmp).zip #[v]).foldl (fun t (p,v)=>t.setIfInBounds p v) a.tmps,defers:=[] } W:=by
 have e:((#[p]:Array Tmp).zip #[v]).foldl (fun t (p,v)=>t.setIfInBounds p v) a.tmps=a.tmps.setIfInBounds p v:=by simp [Array.zip]
 rw [e]
 refine wpIn_region_list ?_
 show wpListIn _ _ _ _ _ [o] _ _
 unfold wpListIn
 have hw:Region.wanted o (yielded #[o] (a.tmps.setIfInBounds p v))=true:=by unfold Region.wanted; rw [hg]
 refine (if_pos ?_).mpr ?_
 ·exact hw
 ·refine op_in l n (by unfold ndO; rw [ho]) ?_
  unfold Oper.wp
  have he:(execOp (Act.eval { tmps:=a.tmps.setIfInBounds p v,defers:=[] }) o).run P W=.ok (.value v) W:=by
   unfold execOp
   simp only [ho]
   simp [Act.eval,Array.getD_eq_getD_getElem?,hp]
  show o.upon P _ _ _ ((execOp (Act.eval { tmps:=a.tmps.setIfInBounds p v,defers:=[] }) o).run P W)
  rw [he]
  rw [Oper.upon_value]
  unfold wpListIn Act.put
  rw [hd]
  exact h
end
end En
namespace Sw
open Go.RowKit Ba Mem En Go.Proofs.YtnoehplnmdajnaaGreatDoor.Ty Gw
open Co (Hold.ob)
open Sx
set_option maxRecDepth 100000
def DdAt (lo:Nat) (os:List StepD) (w:World):Prop:=∀ x∈os,byteE.At lo x.A x.n x.c x.d w
def ddF (os:List StepD):List Nat:=os.flatMap fun x=>blkOf x.A
theorem dd_mem {os:List StepD} {g:Nat}:g∈ddF os↔∃ x∈os,g∈blkOf x.A:=by simp [ddF,List.mem_flatMap]
def ddO (lo:Nat) (os:List StepD):Asr:=⟨ddF os,true,DdAt lo os,fun u hd h x hx=>u.own (h x hx) (fun g hg=>hd g (dd_mem.2 ⟨x,hx,hg⟩)),fun h g hg=>by
 obtain ⟨x,hx,hg⟩:=dd_mem.1 hg
 exact own_lt (h x hx) g hg⟩
theorem DdAt.nil (lo:Nat) (w:World):DdAt lo [] w:=fun x hx=>by cases hx
def stZ (x:SP) (z:Option Addr×Nat):StepD:=⟨x.k,x.a,x.b,z.1,(zsN x.d).length,z.2,zsN x.d⟩
theorem stZ_sp (x:SP) (z:Option Addr×Nat):spD (stZ x z)=x:=by
 unfold spD stZ zsN
 simp only [List.map_map]
 congr 1
 conv=>rhs; rw [← List.map_id x.d]
 exact List.map_congr_left fun b _=>by simp
def okZ (os:List StepD):Prop:=∀ o∈os,∃ x z,o=stZ x z
theorem okZ.nil:okZ []:=fun o h=>by cases h
theorem okZ.add {os:List StepD} {x:SP} {z:Option Addr×Nat} (h:okZ os):okZ (os++[stZ x z]):=fun o ho=>by
 rcases List.mem_append.1 ho with ho | ho
 ·exact h o ho
 ·rw [List.mem_singleton.1 ho]; exact ⟨x,z,rfl⟩
def rdP (w:World) (y:List SP×Nat) (e:Ending) (w':World):Prop:=∃ (os:List StepD) (z:Option Addr×Nat),os.map spD=y.1∧okZ os∧e=.returned (.tuple #[.slice z.1 os.length z.2,.int .i64 (y.2:Int),.int .i64 (if y.2=0 then 0 else 8)])∧stepE.At w.heap.size z.1 os.length z.2 os w'∧DdAt w.heap.size os w'∧Since w w'
theorem rdP_no {w w':World} {e:Ending} {y:List SP×Nat} {n:Nat} (hy:y=([],n+1)) (he:e=.returned (.tuple #[.slice none 0 0,.int .i64 ((n+1:Nat):Int),.int .i64 8])) (hs:Since w w'):rdP w y e w':=by
 subst hy
 exact ⟨[],(none,0),rfl,okZ.nil,by rw [he]; simp,Ek.nil _ _ _,DdAt.nil _ _,hs⟩
theorem rdP_yes {w w':World} {e:Ending} {y:List SP×Nat} {os:List StepD} {B:Option Addr} {cb:Nat} (hy:y=(os.map spD,0)) (hz:okZ os) (he:e=.returned (.tuple #[.slice B os.length cb,.int .i64 0,.int .i64 0])) (h1:(rwO stepE w.heap.size B os.length cb os true).st w') (h2:(ddO w.heap.size os).st w') (hs:Since w w'):rdP w y e w':=by
 subst hy
 exact ⟨os,(B,cb),rfl,hz,by rw [he]; simp,h1,h2,hs⟩
structure RdI (s:List UInt8) (i a:Nat) (os:List StepD):Prop where
 le:i≤s.length
 la:a≤i
 no:NoB 10 s a i
 n:os.length≤i
 v:rdT 0 [] s=rdT os.length (os.map spD) (s.drop a)
 z:okZ os
theorem RdI.zero (s:List UInt8):RdI s 0 0 []:=⟨Nat.zero_le _,Nat.le_refl _,NoB.nil,Nat.le_refl _,rfl,okZ.nil⟩
theorem RdI.more {s:List UInt8} {i a:Nat} {os:List StepD} {c:UInt8} (h:RdI s i a os) (hc:s[i]?=some c) (hb:c≠10):RdI s (i+1) a os:=by
 have hl:i < s.length:=(List.getElem?_eq_some_iff.1 hc).1
 exact ⟨by omega,by have:=h.la; omega,h.no.next h.la hc hb,by have:=h.n; omega,h.v,h.z⟩
theorem RdI.bad {s:List UInt8} {i a:Nat} {os:List StepD} (h:RdI s i a os) (hc:s[i]?=some 10) (hl:lineV (piece s a i)=none):rdT 0 [] s=([],os.length+1):=by
 rw [h.v]
 exact rd_bad h.la h.no hc (by rw [← piece_is]; exact hl)
theorem RdI.line {s:List UInt8} {i a:Nat} {os:List StepD} {x:SP} {z:StepD} (h:RdI s i a os) (hc:s[i]?=some 10) (hl:lineV (piece s a i)=some x) (hz:spD z=x) (hz2:okZ (os++[z])):RdI s (i+1) (i+1) (os++[z]):=by
 have hlt:i < s.length:=(List.getElem?_eq_some_iff.1 hc).1
 refine ⟨by omega,Nat.le_refl _,NoB.nil,by have:=h.n; rw [List.length_append]; simp; omega, ?_,hz2⟩
 rw [h.v,rd_ok h.la h.no hc (x:=x) (by rw [← piece_is]; exact hl),List.length_append,List.map_append]
 simp [hz]
theorem RdI.left {s:List UInt8} {i a:Nat} {os:List StepD} (h:RdI s i a os) (hi:s.length≤i) (ha:a < s.length):rdT 0 [] s=([],os.length+1):=by
 have e:i=s.length:=by have:=h.le; omega
 subst e
 rw [h.v]
 exact rd_left h.no ha
theorem RdI.all {s:List UInt8} {i a:Nat} {os:List StepD} (h:RdI s i a os) (ha:s.length≤a):rdT 0 [] s=(os.map spD,0):=by
 rw [h.v]; exact rd_all ha
theorem rlD {lo:Nat} {os:List StepD} {s:List UInt8} {x:SP} {w:World} (hs:s.length≤900000) (hx:lineV s=some x) (h:DdAt lo os w) (hlo:lo≤w.heap.size):Calls Tryz.prog 13 #[.string ⟨s.toArray⟩] w fun e w'=>∃ z:Option Addr×Nat,e=.returned (.tuple #[.agg #[.int .i64 x.k,.int .i64 x.a,.int .i64 x.b,.slice z.1 (zsN x.d).length z.2],.bool true])∧DdAt lo (os++[stZ x z]) w'∧Upd (ddF os) w w'∧∀ g∈ddF (os++[stZ x z]),g∈ddF os∨w.heap.size≤g:=by
 refine (rlR s hs w).mono ?_
 intro e w' hp
 rw [hx] at hp
 obtain ⟨z,rfl,h1,h2⟩:=hp
 refine ⟨z,rfl,fun y hy=>?_,Upd.of_since h2,fun g hg=>?_⟩
 ·rcases List.mem_append.1 hy with hy | hy
  ·exact keep_own h2 (h y hy)
  ·rw [List.mem_singleton] at hy; subst hy; exact Ek.base h1 hlo
 ·obtain ⟨y,hy,hg⟩:=dd_mem.1 hg
  rcases List.mem_append.1 hy with hy | hy
  ·exact .inl (dd_mem.2 ⟨y,hy,hg⟩)
  ·rw [List.mem_singleton] at hy; subst hy; exact .inr (Ek.lows h1 g hg)
theorem rlN {s:List UInt8} {w:World} (hs:s.length≤900000) (hx:lineV s=none):Calls Tryz.prog 13 #[.string ⟨s.toArray⟩] w fun e w'=>∃ z:Option Addr×Nat,e=.returned (.tuple #[.agg #[.int .i64 0,.int .i64 0,.int .i64 0,.slice z.1 0 z.2],.bool false])∧byteE.At w.heap.size z.1 0 z.2 [] w'∧Since w w':=by
 refine (rlR s hs w).mono ?_
 intro e w' hp
 rw [hx] at hp
 obtain ⟨z,rfl,h1,h2⟩:=hp
 refine ⟨z, ?_, ?_,h2⟩
 ·show Ending.returned (.tuple #[.agg #[_,_,_,.slice z.1 (zsN []).length z.2],_])=_
  rw [zsN_0]; rfl
 ·rw [← zsN_0]; exact h1
attribute [local irreducible] Go.Calls lineV piece zsN
set_option maxHeartbeats 8000000 in
theorem readR (s:List UInt8) (hs:s.length≤900000) (w:World):Calls Tryz.prog 6 #[.string ⟨s.toArray⟩] w (rdP w (rdT 0 [] s)):=by
 refine entH tab_ok (Hold.addObj (Hold.addObj (Hold.nil _ tab [] _ w) (rwO stepE w.heap.size none 0 0 [] true) (Ek.nil _ _ _) (by intro _ g hg; cases hg) (by intro r hr; cases hr) (by intro A hA; cases hA)) (ddO w.heap.size []) (DdAt.nil _ _) (by intro _ g hg; cases hg) (by intro r hr; cases hr) (by intro A hA _ g hg hg2; cases hg2)) [tx s] Tryz.func6 Tryz.ntmps6 rfl rfl ?_
 repeat' ((conv=>whnf); first | refine sgo ⟨tab_ok⟩ ?_|refine br_not ?_|refine br_t rfl ?_|refine br_f rfl ?_|refine br_t (by assumption) ?_|refine br_f (by assumption) ?_|refine br_t (decide_eq_true (by assumption)) ?_|refine br_f (decide_eq_false (by assumption)) ?_|refine br_t (beq_iff_eq.2 (by assumption)) ?_|refine br_f (beq_eq_false_iff_ne.2 (by assumption)) ?_|refine drA ⟨tab_ok⟩ [] ?_|refine kpt ?_|refine br_t (decide_eq_true (by omega)) ?_|refine br_f (decide_eq_false (by omega)) ?_|refine fin_s ?_|refine fin_r ?_ ?_|refine fin_e ?_ ?_)
 conv=>whnf
 refine lp ⟨tab_ok⟩ (ι:={y:Nat×Nat×Nat×Option Addr×Nat×List StepD // RdI s y.1 y.2.1 y.2.2.2.2.2∧y.2.2.1=y.2.2.2.2.2.length+1}) (fun y=>match y with | ⟨(i,a,nn,B,cb,os),_⟩=>⟨[(0,tx s),(5,.v (.slice B os.length cb)),(6,.i .i64 (a:Int)),(7,.i .i64 (nn:Int)),(8,.i .i64 (i:Int))],[],[rwO stepE w.heap.size B os.length cb os true,ddO w.heap.size os]⟩) (fun y=>s.length - y.1.1) ⟨(0,0,1,none,0,[]),RdI.zero s,rfl⟩ (wk ?_) ?_
 ·repeat' (first | exact trivial | rfl | ((conv=>whnf); refine And.intro ?_ ?_))
 rintro ⟨⟨i,a,nn,B,cb,os⟩,hI0,hn0⟩
 have hI:RdI s i a os:=hI0
 have hnn:nn=os.length+1:=hn0
 subst hnn
 have hn:=hI.n
 have hle:=hI.le
 have ha:=hI.la
 have wn:IntKind.i64.wrap (((os.length+1:Nat):Int)+1)=((os.length+1+1:Nat):Int):=by rw [show ((os.length+1:Nat):Int)+1=((os.length+1+1:Nat):Int) by omega]; exact wr64 _ (by omega) (by omega)
 by_cases hlt:i < s.length
 ·obtain ⟨c,hc⟩:∃ c,s[i]?=some c:=⟨_,List.getElem?_eq_getElem hlt⟩
  by_cases h10:c=10
  ·subst h10
   have hpl:(piece s a i).length≤900000:=Nat.le_trans (piece_len s a i) hs
   rcases hx:lineV (piece s a i) with _|x
   ·have hno:=hI.bad hc hx
    repeat' ((conv=>whnf); first | refine sgo ⟨tab_ok⟩ ?_|refine br_not ?_|refine br_t rfl ?_|refine br_f rfl ?_|refine br_t (by assumption) ?_|refine br_f (by assumption) ?_|refine br_t (decide_eq_true (by assumption)) ?_|refine br_f (decide_eq_false (by assumption)) ?_|refine br_t (beq_iff_eq.2 (by assumption)) ?_|refine br_f (beq_eq_false_iff_ne.2 (by assumption)) ?_|intro b0 | refine drA ⟨tab_ok⟩ [] ?_|refine kpt ?_|refine br_t (decide_eq_true (by omega)) ?_|refine br_f (decide_eq_false (by omega)) ?_|refine wr_i ?_|refine opP (pvLen (xs:=s) (by rfl) (by rfl) Tryz.underlying9) ?_|refine opP (pvIdx (xs:=s) (j:=i) (by rfl) (by rfl) (by rfl) rfl hc Tryz.underlying9) ?_|refine opP (pvPc (xs:=s) a i (by rfl) (by rfl) (by rfl) (by rfl) ⟨⟨rfl,rfl⟩,ha,by omega⟩ Tryz.underlying9) ?_|refine callN (f:=13) (ι:=Option Addr×Nat) (fun z=>.t [.a [.i .i64 0,.i .i64 0,.i .i64 0,.v (.slice z.1 0 z.2)],.b false]) (fun z=>rwO byteE w.heap.size z.1 0 z.2 [] true) (fun w1 hH=>(rlN hpl hx).mono (by rintro e w' ⟨z,rfl,h1,h2⟩; exact ⟨z,rfl,Ek.base h1 hH.upd.size,h2,Ek.lows h1⟩)) (fun z=>?_)|refine fin fun w' hH=>rdP_no hno rfl hH.upd.since | refine fin_s ?_|refine fin_r ?_ ?_|refine fin_e ?_ ?_)
   ·have hok:∀ z:Option Addr×Nat,RdI s (i+1) (i+1) (os++[stZ x z]):=fun z=>hI.line hc hx (stZ_sp x z) hI.z.add
    repeat' ((conv=>whnf); first | refine sgo ⟨tab_ok⟩ ?_|refine br_not ?_|refine br_t rfl ?_|refine br_f rfl ?_|refine br_t (by assumption) ?_|refine br_f (by assumption) ?_|refine br_t (decide_eq_true (by assumption)) ?_|refine br_f (decide_eq_false (by assumption)) ?_|refine br_t (beq_iff_eq.2 (by assumption)) ?_|refine br_f (beq_eq_false_iff_ne.2 (by assumption)) ?_|intro b0 | refine drA ⟨tab_ok⟩ [] ?_|refine kpt ?_|refine br_t (decide_eq_true (by omega)) ?_|refine br_f (decide_eq_false (by omega)) ?_|refine wr wn ?_|refine wr_i ?_|refine opP (pvLen (xs:=s) (by rfl) (by rfl) Tryz.underlying9) ?_|refine opP (pvIdx (xs:=s) (j:=i) (by rfl) (by rfl) (by rfl) rfl hc Tryz.underlying9) ?_|refine opP (pvPc (xs:=s) a i (by rfl) (by rfl) (by rfl) (by rfl) ⟨⟨rfl,rfl⟩,ha,by omega⟩ Tryz.underlying9) ?_|refine callO (f:=13) (A:=ddO w.heap.size os) 1 (fun z:Option Addr×Nat=>.t [.a [.i .i64 x.k,.i .i64 x.a,.i .i64 x.b,.v (.slice z.1 (zsN x.d).length z.2)],.b true]) (fun z=>ddO w.heap.size (os++[stZ x z])) (fun w1 hH hA=>rlD hpl hx hA hH.upd.size) (fun z=>?_)|refine opb1 (e:=40) ⟨tab_ok⟩ [.i .i64 x.k,.i .i64 x.a,.i .i64 x.b,.v (.slice z.1 (zsN x.d).length z.2)] (by rfl) (by rfl) ?_|intro gb | refine opap 0 1 (e:=40) (lo:=w.heap.size) (size:=4) (bytes:=48) (z:=.agg #[.int .i64 0,.int .i64 0,.int .i64 0,.slice none 0 0]) (A:=rwO stepE w.heap.size B os.length cb os true) (vals:=rowsOf stepE.c os) (cells:=stepC (stZ x z)) (zs:=rowsOf stepE.c (os++[stZ x z])) (n2:=(os++[stZ x z]).length) (fun A2 c2=>rwO stepE w.heap.size A2 (os++[stZ x z]).length c2 (os++[stZ x z]) true) (by rfl) (by rfl) (by rfl) (by rfl) rfl rfl (fun w h=>h) (fun A' c' w h=>h) (fun _ _=>rfl) (by rfl) (by rfl) (by rfl) (by rfl) Tryz.underlying25 (by kernel_rfl) rfl (by decide) (by decide) (by intro u hu; exact stepE.one (stZ x z) u hu) (by omega) (fun w hH=>hH.upd.size) (by rw [List.length_append]; rfl) (by rw [rowsOf_append]; rfl) (fun A2 c2=>?_)|refine En.back ⟨(i+1,i+1,os.length+1+1,A2,c2,os++[stZ x z]),hok z,by show _=(os++[stZ x z]).length+1; rw [List.length_append]; rfl⟩ (wkd ?_) ?_|refine fin_s ?_|refine fin_r ?_ ?_|refine fin_e ?_ ?_)
    all_goals first | (show s.length - (i+1) < s.length - i; omega)|skip
    all_goals (repeat' (first | exact trivial | rfl | ((conv=>whnf); refine And.intro ?_ ?_)))
  ·have hne:((c.toNat:Int) == 10)=false:=beq_eq_false_iff_ne.2 (fun h=>h10 (UInt8.toNat_inj.1 (by show c.toNat=10; omega)))
   repeat' ((conv=>whnf); first | refine sgo ⟨tab_ok⟩ ?_|refine br_not ?_|refine br_t rfl ?_|refine br_f rfl ?_|refine br_t (by assumption) ?_|refine br_f (by assumption) ?_|refine br_t (decide_eq_true (by assumption)) ?_|refine br_f (decide_eq_false (by assumption)) ?_|refine br_t (beq_iff_eq.2 (by assumption)) ?_|refine br_f (beq_eq_false_iff_ne.2 (by assumption)) ?_|refine drA ⟨tab_ok⟩ [] ?_|refine kpt ?_|refine br_t (decide_eq_true (by omega)) ?_|refine br_f (decide_eq_false (by omega)) ?_|refine br_f hne ?_|refine wr_i ?_|refine opP (pvLen (xs:=s) (by rfl) (by rfl) Tryz.underlying9) ?_|refine opP (pvIdx (xs:=s) (j:=i) (by rfl) (by rfl) (by rfl) rfl hc Tryz.underlying9) ?_|refine En.back ⟨(i+1,a,os.length+1,B,cb,os),hI.more hc h10,rfl⟩ (wkd ?_) ?_|refine fin_s ?_|refine fin_r ?_ ?_|refine fin_e ?_ ?_)
   all_goals first | (show s.length - (i+1) < s.length - i; omega)|skip
   all_goals (repeat' (first | exact trivial | rfl | ((conv=>whnf); refine And.intro ?_ ?_)))
 ·by_cases hal:a < s.length
  ·have hno:=hI.left (by omega) hal
   repeat' ((conv=>whnf); first | refine sgo ⟨tab_ok⟩ ?_|refine br_not ?_|refine br_t rfl ?_|refine br_f rfl ?_|refine br_t (by assumption) ?_|refine br_f (by assumption) ?_|refine br_t (decide_eq_true (by assumption)) ?_|refine br_f (decide_eq_false (by assumption)) ?_|refine br_t (beq_iff_eq.2 (by assumption)) ?_|refine br_f (beq_eq_false_iff_ne.2 (by assumption)) ?_|refine drA ⟨tab_ok⟩ [] ?_|refine kpt ?_|refine br_t (decide_eq_true (by omega)) ?_|refine br_f (decide_eq_false (by omega)) ?_|refine wr_i ?_|refine opP (pvLen (xs:=s) (by rfl) (by rfl) Tryz.underlying9) ?_|refine fin fun w' hH=>rdP_no hno rfl hH.upd.since | refine fin_s ?_|refine fin_r ?_ ?_|refine fin_e ?_ ?_)
  ·have hyes:=hI.all (by omega)
   repeat' ((conv=>whnf); first | refine sgo ⟨tab_ok⟩ ?_|refine br_not ?_|refine br_t rfl ?_|refine br_f rfl ?_|refine br_t (by assumption) ?_|refine br_f (by assumption) ?_|refine br_t (decide_eq_true (by assumption)) ?_|refine br_f (decide_eq_false (by assumption)) ?_|refine br_t (beq_iff_eq.2 (by assumption)) ?_|refine br_f (beq_eq_false_iff_ne.2 (by assumption)) ?_|refine drA ⟨tab_ok⟩ [] ?_|refine kpt ?_|refine br_t (decide_eq_true (by omega)) ?_|refine br_f (decide_eq_false (by omega)) ?_|refine wr_i ?_|refine opP (pvLen (xs:=s) (by rfl) (by rfl) Tryz.underlying9) ?_|refine fin fun w' hH=>rdP_yes hyes hI.z rfl (Hold.ob hH (A:=rwO stepE w.heap.size B os.length cb os true) 0 rfl) (Hold.ob hH (A:=ddO w.heap.size os) 1 rfl) hH.upd.since | refine fin_s ?_|refine fin_r ?_ ?_|refine fin_e ?_ ?_)
end Sw
namespace Sp
open Go.RowKit Ba Mem En Go.Proofs.YtnoehplnmdajnaaGreatDoor.Ty Gw Rn
open Co (Hold.ob)
open Sx Sw
set_option maxRecDepth 100000
def plS:List (Bool×Nat):=[(true,0),(true,1),(true,2),(false,3)]
theorem plS_at:∀ (i:Nat) (x:Bool×Nat),plS[i]?=some x→x.2=i:=fun i x h=>by
 have hi:i < 4:=(List.getElem?_eq_some_iff.1 h).1
 have:∀ i:Fin 4,(plS[i.val]?).map (·.2)=some i.val:=by decide
 have:=this ⟨i,hi⟩
 simp only [h,Option.map_some] at this
 exact Option.some.inj this
def pwZ (x:SP) (z:Option Addr×Nat):List PW:=[.nu x.k,.nu x.a,.nu x.b,.da z.1 (zsN x.d).length z.2 (zsN x.d)]
theorem pws_st {vs:List PW} {x:SP} (h:pws vs [.n x.k,.n x.a,.n x.b,.d x.d]):∃ z:Option Addr×Nat,vs=pwZ x z:=by
 match vs,h with
 | [.nu a,.nu b,.nu c,.da A n cp zs],h =>
  obtain ⟨h1,h2,h3,h4,_⟩:=h
  have h1:a=x.k:=h1
  have h2:b=x.a:=h2
  have h3:c=x.b:=h3
  obtain ⟨h4,h5⟩:zs=zsN x.d∧n=x.d.length:=h4
  subst h1 h2 h3 h4 h5
  exact ⟨(A,cp),by unfold pwZ; rw [zsN_len]⟩
 | [.nu a,.nu b,.nu c,.nu d],h=>exact h.2.2.2.1.elim
 | [.da ..,_,_,_],h=>exact h.1.elim
 | [.nu _,.da ..,_,_],h=>exact h.2.1.elim
 | [.nu _,.nu _,.da ..,_],h=>exact h.2.2.1.elim
theorem PlAt.base {lo lo' b:Nat} {T:TypeId} {vs:List PW} {rest:List Value} {w:World} (h:PlAt lo b T vs rest w) (hb:lo'≤lo):PlAt lo' b T vs rest w:=⟨h.1,fun x hx=>⟨by
 have:=(h.2 x hx).1
 cases x with
 | nu z=>trivial
 | da A n c zs=>exact Ek.base this hb,(h.2 x hx).2⟩⟩
theorem pl_low {lo b k:Nat} {T:TypeId} {vs:List PW} {rest:List Value} {w:World} (h:PlAt lo b T vs rest w) (hk:k≤lo):∀ g∈plF b vs,g=b∨k≤g:=fun g hg=>by
 rcases pl_mem.1 hg with rfl | ⟨x,hx,hg⟩
 ·exact .inl rfl
 ·have:=(h.2 x hx).1
  cases x with
  | nu z=>cases hg
  | da A n c zs=>exact .inr (Nat.le_trans hk (Ek.lows this g hg))
theorem dd_in {X:Cx} {m:List Row} {ob:List Asr} {w:World} {lo b:Nat} {T:TypeId} {os:List StepD} {x:SP} {z:Option Addr×Nat} (hH:Hold X m ob w) (i j:Nat) (hA:ob[i]?=some (ddO lo os)) (hC:ob[j]?=some (plO lo b T (pwZ x z) [])) (hij:i≠j):Hold X m ((ob.set i (ddO lo (os++[stZ x z]))).set j nilO) w:=by
 obtain ⟨hM,hd⟩:=hH.merge hA hC hij rfl rfl
 have hij2:((ob.set i (mgO (ddO lo os) (plO lo b T (pwZ x z) []))).set j nilO)[i]?=some (mgO (ddO lo os) (plO lo b T (pwZ x z) [])):=by
  rw [List.getElem?_set_ne (Ne.symm hij),List.getElem?_set_self (List.getElem?_eq_some_iff.1 hA).1]
 have st:=hM.obj _ (List.mem_of_getElem? hij2)
 have hm:(PW.da z.1 (zsN x.d).length z.2 (zsN x.d))∈pwZ x z:=by unfold pwZ; simp
 have hH2:=hM.obj_set (B:=ddO lo (os++[stZ x z])) (w':=w) hij2 rfl (fun y hy=>by
  rcases List.mem_append.1 hy with hy | hy
  ·exact st.1 y hy
  ·rw [List.mem_singleton.1 hy]
   exact (st.2.2 _ hm).1) (Upd.refl _ _) (fun g hg=>.inl (by
  obtain ⟨y,hy,hg⟩:=dd_mem.1 hg
  rcases List.mem_append.1 hy with hy | hy
  ·exact List.mem_append.2 (.inl (dd_mem.2 ⟨y,hy,hg⟩))
  ·rw [List.mem_singleton.1 hy] at hg
   exact List.mem_append.2 (.inr (pl_mem.2 (.inr ⟨_,hm,hg⟩)))))
 have hset:((ob.set i (mgO (ddO lo os) (plO lo b T (pwZ x z) []))).set j nilO).set i (ddO lo (os++[stZ x z]))=(ob.set i (ddO lo (os++[stZ x z]))).set j nilO:=by
  rw [List.set_comm _ _ (Ne.symm hij),List.set_set]
 rw [hset] at hH2
 exact hH2
def rowsI (b2 b3 b4 b5 b6:Nat) (A:Option Addr) (n c k:Nat):List Row:=[⟨b2,25,true,0,[],[.v (.slice none 0 0)],[],true⟩,⟨b3,3,true,0,[],[.i .i64 0],[],true⟩,⟨b4,26,true,0,[],[.i .i64 0],[],true⟩,⟨b5,25,true,0,[],[.v (.slice A n c)],[],true⟩,⟨b6,3,true,0,[],[.i .i64 (k:Int)],[],true⟩]
noncomputable def obI (lo:Nat) (os:List StepD) (A:Option Addr) (c B:Nat):List Asr:=[gkO,rwO stepE lo A os.length c os true,ddO lo os,bxO B]
def okE (pre:List Ln) (os:List StepD):Prop:=pre.map (fun x=>lineQ x.1)=os.map fun o=>some (spD o)
def okL_ (pre:List Ln) (os:List StepD):Prop:=okE pre os∧okZ os
theorem okL_len {pre:List Ln} {os:List StepD} (h:okL_ pre os):pre.length=os.length:=by
 have:=congrArg List.length h.1
 simpa using this
theorem okL_add {pre:List Ln} {os:List StepD} {x:Ln} {y:SP} {z:Option Addr×Nat} (h:okL_ pre os) (hx:lineQ x.1=some y):okL_ (pre++[x]) (os++[stZ y z]):=by
 refine ⟨?_,h.2.add⟩
 have h:=h.1
 unfold okE at h ⊢
 rw [List.map_append,List.map_append,h]
 show _++[lineQ x.1]=_++[some (spD (stZ y z))]
 rw [stZ_sp,hx]
structure Env where
 w:World
 b2:Nat
 b3:Nat
 b4:Nat
 b5:Nat
 b6:Nat
 B:Nat
 n:Nat
def PaI (v:Env) (pre:List Ln) (W:World):Prop:=∃ (os:List StepD) (A:Option Addr) (c:Nat),okL_ pre os∧Hold ⟨Tryz.prog,tab,[],v.w,v.n,[]⟩ (rowsI v.b2 v.b3 v.b4 v.b5 v.b6 A os.length c pre.length) (obI v.w.heap.size os A c v.B) W
def PaX (v:Env) (pre:List Ln) (W:World):Prop:=(∃ (p:List Ln) (x:Ln) (os:List StepD),pre=p++[x]∧okL_ p os∧lineQ x.1=none)∧Upd [] v.w W∧Blk W v.b2 25 #[.slice none 0 0]∧Blk W v.b3 3 #[.int .i64 (pre.length:Int)]∧Blk W v.b4 26 #[.int .i64 8]
theorem gk_cl:Cl gkO:=fun W g h hg=>by
 obtain ⟨⟨m,hm⟩,h2,⟨v,h3,h4⟩,⟨v',h5,h6⟩⟩:=(h:GkS W)
 rcases List.mem_append.1 hg with hg | hg
 ·simp only [List.mem_cons,List.not_mem_nil,or_false] at hg
  rcases hg with rfl | rfl | rfl
  ·exact nc_cell hm
  ·exact nc_cell h3
  ·exact nc_cell h5
 ·unfold pwF at hg
  cases hk:Tryz.prog.globalNamed pw with
  | none=>rw [hk] at hg; cases hg
  | some k =>
   rw [hk] at hg
   rw [List.mem_singleton.1 hg]
   unfold Lib.TabIs World.var? at h2
   simp only [hk,Option.bind_some] at h2
   rintro ⟨o,e1,e2⟩
   rw [e1] at h2
   cases o <;> simp_all [Obj.isCells]
theorem rw_cl {α:Type} {E:Ek α} {lo n c:Nat} {A:Option Addr} {ls:List α}:Cl (rwO E lo A n c ls true):=fun W g h hg=>nc_own h hg
theorem dd_cl {lo:Nat} {os:List StepD}:Cl (ddO lo os):=fun W g h hg=>by
 obtain ⟨x,hx,hg⟩:=dd_mem.1 hg
 exact nc_own (h x hx) hg
theorem obI_cl {lo c B:Nat} {os:List StepD} {A:Option Addr}:∀ C∈obI lo os A c B,C.rw=true→Cl C:=fun C hC hr=>by
 unfold obI at hC
 simp only [List.mem_cons,List.not_mem_nil,or_false] at hC
 rcases hC with rfl | rfl | rfl | rfl
 ·exact gk_cl
 ·exact rw_cl
 ·exact dd_cl
 ·cases hr
theorem PaI.own {v:Env} {lo:Nat} (hlo:v.w.heap.size≤lo) (hB:v.w.heap.size≤v.B) (hg:GkS v.w):OwnB lo v.B (PaI v):=by
 rintro pre W W' T ⟨os,A,c,h1,hH⟩ u hT
 have hbx:bxO v.B∈obI v.w.heap.size os A c v.B:=by unfold obI; simp
 have far:∀ g,g≠v.B→¬ NC W g→g∉T:=fun g h1 h2 h3=>by
  rcases hT g h3 with h | h
  ·exact h1 h
  ·exact h2 h.2
 have bne:∀ C∈obI v.w.heap.size os A c v.B,C.rw=true→∀ g∈C.F,g≠v.B:=fun C hC hr g hg he=>by
  subst he
  exact fpt_bx hH hbx (fpt_mem.2 (.inr ⟨C,hC,hr,hg⟩))
 refine ⟨os,A,c,h1,hH.stay u (fun g hg=>?_) (fun j r hj hl=>?_) (fun C hC=>?_)⟩
 ·rcases hT g hg with rfl | h
  ·exact hB
  ·exact Nat.le_trans hlo h.1
 ·refine far _ (fun e=>?_) (nc_blk (hH.row j r hj hl))
  exact hH.far _ hbx j r hj hl (by rw [e]; exact List.mem_singleton.2 rfl)
 ·have hC2:=hC
  unfold obI at hC
  simp only [List.mem_cons,List.not_mem_nil,or_false] at hC
  rcases hC with rfl | rfl | rfl | rfl
  ·refine gkO.up u (fun g hg2=>far g (fun e=>?_) (gk_cl W g (hH.obj _ hC2) hg2)) (hH.obj _ hC2)
   have:=hg.lt g hg2
   omega
  ·exact Asr.up _ u (fun g hg2=>far g (bne _ hC2 rfl g hg2) (rw_cl W g (hH.obj _ hC2) hg2)) (hH.obj _ hC2)
  ·exact Asr.up _ u (fun g hg2=>far g (bne _ hC2 rfl g hg2) (dd_cl W g (hH.obj _ hC2) hg2)) (hH.obj _ hC2)
  ·exact Nat.lt_of_lt_of_le (hH.obj _ hC2) u.size
theorem PaX.own {v:Env} {lo:Nat} (hlo:v.w.heap.size≤lo) (hB:v.w.heap.size≤v.B) (h2:v.b2≠v.B) (h3:v.b3≠v.B) (h4:v.b4≠v.B):OwnB lo v.B (PaX v):=by
 rintro pre W W' T ⟨h,hu,k2,k3,k4⟩ u hT
 have far:∀ g,g≠v.B→¬ NC W g→g∉T:=fun g h1 h2 h3=>by
  rcases hT g h3 with h | h
  ·exact h1 h
  ·exact h2 h.2
 refine ⟨h,hu.comp u (fun g hg=>.inr ?_),u.blk k2 (far _ h2 (nc_blk k2)),u.blk k3 (far _ h3 (nc_blk k3)),u.blk k4 (far _ h4 (nc_blk k4))⟩
 rcases hT g hg with rfl | h
 ·exact hB
 ·exact Nat.le_trans hlo h.1
structure Don (X:Cx) (v:Env) (pre:List Ln) (s:St):Prop where
 out:∃ (os:List StepD) (A:Option Addr) (c:Nat),okL_ pre os∧Wk X s ⟨[],rowsI v.b2 v.b3 v.b4 v.b5 v.b6 A os.length c pre.length,obI v.w.heap.size os A c v.B⟩
structure Err (X:Cx) (v:Env) (pre:List Ln) (s:St):Prop where
 out:∀ w,Hold X s.m s.ob w→(∃ (p:List Ln) (x:Ln) (os:List StepD),pre=p++[x]∧okL_ p os∧lineQ x.1=none)∧Blk w v.b2 25 #[.slice none 0 0]∧Blk w v.b3 3 #[.int .i64 (pre.length:Int)]∧Blk w v.b4 26 #[.int .i64 8]
def RdK (X:Cx) (v:Env) (pre:List Ln) (e:Exit) (s:St):Prop:=match e with
 | .normal=>Don X v pre s
 | .ret=>Err X v pre s
 | _=>False
theorem round_end {v:Env} {pre0 pre:List Ln} {W:World} {os:List StepD} {A:Option Addr} {c n:Nat} (hH:Hold ⟨Tryz.prog,tab,[],v.w,v.n,[]⟩ (rowsI v.b2 v.b3 v.b4 v.b5 v.b6 A os.length c pre0.length) (obI v.w.heap.size os A c v.B) W) (e:Exit) (a:Act) (w:World)
  (k:Qof ⟨Tryz.prog,tab,fpt (rowsI v.b2 v.b3 v.b4 v.b5 v.b6 A os.length c pre0.length) (obI v.w.heap.size os A c v.B),W,n,[]⟩ (RdK ⟨Tryz.prog,tab,fpt (rowsI v.b2 v.b3 v.b4 v.b5 v.b6 A os.length c pre0.length) (obI v.w.heap.size os A c v.B),W,n,[]⟩ v pre) e a w):bodyP v.B (PaI v) (PaX v) pre W e a w:=by
 have hbx:bxO v.B∈obI v.w.heap.size os A c v.B:=by unfold obI; simp
 have keep:∀ {w:World},Upd (fpt (rowsI v.b2 v.b3 v.b4 v.b5 v.b6 A os.length c pre0.length) (obI v.w.heap.size os A c v.B)) W w→∀ (k:Nat) (o:Obj),W.heap[k]?=some o→(o.isCells=false∨k=v.B)→w.heap[k]?=some o:=fun u k o h1 h2=>by
  refine (u.block k (Array.getElem?_eq_some_iff.1 h1).1 ?_).trans h1
  rcases h2 with h2 | rfl
  ·exact fun h=>fpt_cl hH obI_cl h ⟨o,h1,h2⟩
  ·exact fpt_bx hH hbx
 cases e with
 | normal =>
  obtain ⟨s,hR,hD⟩:=k
  obtain ⟨os2,A2,c2,h1,h2⟩:=hD.out
  exact ⟨keep hR.h.upd,os2,A2,c2,h1,hH.outof (h2.out a w hR).h⟩
 | ret =>
  obtain ⟨s,hR,hE⟩:=k
  obtain ⟨h1,h2,h3,h4⟩:=hE.out w hR.h
  exact ⟨keep hR.h.upd,h1,(hH.outof (n2:=0) (ds2:=[]) hR.h).upd,h2,h3,h4⟩
 | exit id=>obtain ⟨s,hR,h⟩:=k; exact h.elim
 | goto t=>exact k.elim
 | panic ch=>exact k.elim
 | outgrown=>exact k.elim
theorem FrOk.nil {m:List Row} {tm:Array Value}:FrOk m tm []:=fun k v h=>by cases h
theorem FrOk.cons {m:List Row} {tm:Array Value} {fr:List (Nat×SV)} {j:Nat} {u:SV} (h1:okV m.length u=true) (h2:tm[j]?=some (den m u)) (h:FrOk m tm fr):FrOk m tm ((j,u)::fr):=fun k v hv=>by
 unfold lkO at hv
 cases hb:Nat.beq j k with
 | true =>
  rw [hb] at hv
  have:=Nat.eq_of_beq_eq_true hb
  subst this
  cases hv
  exact ⟨h1,h2⟩
 | false=>rw [hb] at hv; exact h k v hv
theorem goE_ok:∀ {pre:List Ln} {os:List StepD} {n:Nat} {acc:List SP} {r:List (List UInt8)},okE pre os→goE n acc (pre.map (·.1)++r)=goE (n+pre.length) (acc++os.map spD) r
 | [],[],n,acc,r,_=>by simp
 | [],_::_,_,_,_,h=>by cases h
 | _::_,[],_,_,_,h=>by cases h
 | x::p,o::os,n,acc,r,h=>by
  unfold okE at h
  simp only [List.map_cons,List.cons.injEq] at h
  rw [List.map_cons,List.cons_append,goE_c,h.1]
  show goE (n+1) (acc++[spD o]) (p.map (·.1)++r)=_
  rw [goE_ok (os:=os) h.2]
  simp [Nat.add_assoc,Nat.add_comm 1]
theorem rd_all_ok {s:List UInt8} {xs:List Ln} {os:List StepD} (h:okL_ xs os) (hx:xs.map (·.1)=lnE s):rdT 0 [] s=(os.map spD,0):=by
 have:=goE_ok (n:=0) (acc:=[]) (r:=[]) h.1
 rw [List.append_nil,hx] at this
 rw [rd_is,this]; rfl
theorem rd_err {s:List UInt8} {pre:List Ln} {r:List (List UInt8)} (h:∃ (p:List Ln) (x:Ln) (os:List StepD),pre=p++[x]∧okL_ p os∧lineQ x.1=none) (hx:pre.map (·.1)++r=lnE s):∃ k,pre.length=k+1∧rdT 0 [] s=([],k+1):=by
 obtain ⟨p,x,os,rfl,h1,h2⟩:=h
 refine ⟨p.length,by rw [List.length_append]; rfl, ?_⟩
 rw [List.map_append,List.append_assoc] at hx
 rw [rd_is,← hx,goE_ok h1.1]
 show goE _ _ (x.1::r)=_
 rw [goE_c,h2]
 simp
end Sp
end Go.Proofs.YtnoehplnmdajnaaGreatDoor
