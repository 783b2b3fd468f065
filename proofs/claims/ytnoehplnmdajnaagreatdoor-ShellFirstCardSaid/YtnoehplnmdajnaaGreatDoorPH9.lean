/-
  Wanted: part 9.
  No condition.
-/
import Derived.Test.YtnoehplnmdajnaaGreatDoorPH5
import Derived.Test.YtnoehplnmdajnaaGreatDoorPH8
import Derived.Test.YtnoehplnmdajnaaGreatDoorPH4
import Derived.Test.YtnoehplnmdajnaaGreatDoorPH7
import Derived.Test.YtnoehplnmdajnaaGreatDoorPH6
import Derived.Test.YtnoehplnmdajnaaGreatDoorRows
import Derived.ProofKit
import Derived.LaidMore
import Derived.Stop.Joined
import Derived.Lib.LaidTab
import Derived.Stop.LaidErr
import Derived.Deep.DeepHandedRow
import Derived.Lay
import Derived.WalkKit
import Derived.OpenShut
set_option linter.all false
namespace Go.Proofs.YtnoehplnmdajnaaGreatDoor
namespace Sh
open Go.RowKit Ba Mem En Go.Proofs.YtnoehplnmdajnaaGreatDoor.Ty Gw
open Co (Hold.ob KV Pt KW leasesK)
open Sx Sw Sp
open Go.Lib (itoa)
set_option maxRecDepth 100000
def carsT:List UInt8:=[99,97,114,115]
def leasT:List UInt8:=[108,101,97,115,101,115]
def carsL (vs:List ViewV):List Wd:=.tx carsT::vs.map fun v=>.nu v.un
def leasL (n:Nat):List Wd:=[.tx leasT,.nu (n:Int)]
theorem carsL_next {vs:List ViewV} {k:Nat} {z:ViewV} (h:vs[k]?=some z):(carsL vs).take (k+2)=(carsL vs).take (k+1)++[.nu z.un]:=by
 have:(carsL vs)[k+1]?=some (.nu z.un):=by unfold carsL; rw [List.getElem?_cons_succ,List.getElem?_map,h]; rfl
 rw [List.take_add_one,this]; rfl
theorem hold_en {gq M N nt b:Nat} {c:CfgV} {x:Gp} {ep:Int} {K:KV} {xs:List Int} {Sk Ss:List Nat} {D:Fam} {A:Option Addr} {bs:List UInt8} {w:World} (hg:GkS w) (hw:GWt gq c x M N K ep xs Sk D Ss w) (h:WrS b A bs w) (d1:far gkO.F b A) (d2:far (gwF gq x Sk D Ss) b A):Hold ⟨Tryz.prog,tab,b::blkOf A,w,nt,[]⟩ [] [gkO,gwO gq c x M N K ep xs Sk D Ss false,wrO b A bs] w:=by
 refine Hold.addObj (Hold.addObj (Hold.addObj (Hold.nil _ tab (b::blkOf A) _ w) gkO hg (by intro k; cases k) (by intro r hr; cases hr) (by intro A hA; cases hA)) (gwO gq c x M N K ep xs Sk D Ss false) hw (by intro k; cases k) (by intro r hr; cases hr) ?_) (wrO b A bs) h (fun _ g hg=>.inl hg) (by intro r hr; cases hr) ?_
 ·intro C hC hw
  have hC:C∈[gkO]:=hC
  rw [List.mem_singleton] at hC; subst hC
  rcases hw with h | h <;> cases h
 ·intro C hC _
  have hC:C∈[gkO,gwO gq c x M N K ep xs Sk D Ss false]:=hC
  simp only [List.mem_cons,List.not_mem_nil,or_false] at hC
  rcases hC with rfl | rfl
  ·exact d1
  ·exact d2
attribute [local irreducible] Go.Calls told n64
theorem viewsN {gq M N n lo:Nat} {c:CfgV} {x:Gp} {ep:Int} {K:KV} {xs:List Int} {Sk Ss:List Nat} {D:Fam} {vs:List ViewV} {w:World} (h:GWt gq c x M N K ep xs Sk D Ss w) (hN:K.G.cars.length=n) (hV:K.G.cars.map viewOf=vs) (h0:0 < n) (h8:n≤8) (hs:lo≤w.heap.size) :
  Calls Tryz.prog 36 #[.pointer (some ⟨gq,0,none⟩)] w fun e w'=>∃ y:Nat×Nat,e=.returned (.slice (some ⟨y.1,0,none⟩) n y.2)∧(rwO viewE lo (some ⟨y.1,0,none⟩) n y.2 vs true).st w'∧Since w w'∧∀ g∈(rwO viewE lo (some ⟨y.1,0,none⟩) n y.2 vs true).F,w.heap.size≤g:=by
 refine (viewsT h.b h.k h.g1 (by omega) (by omega)).mono ?_
 rintro e w' ⟨A',c',rfl,a1,a2⟩
 rw [hN,hV] at a1
 obtain ⟨g',hg'⟩:=Ek.addr a1
 have hg':=hg' h0
 subst hg'
 exact ⟨(g',c'),by rw [hN],Ek.base a1 hs,a2,Ek.lows a1⟩
theorem leasN {gq M N lo:Nat} {c:CfgV} {x:Gp} {ep:Int} {K:KV} {xs:List Int} {Sk Ss:List Nat} {D:Fam} {w:World} (h:GWt gq c x M N K ep xs Sk D Ss w) (hl:K.L.length≤10000) (hs:lo≤w.heap.size) :
  Calls Tryz.prog 38 #[.pointer (some ⟨x.q,0,none⟩)] w fun e w'=>∃ y:Option Addr×Nat,e=.returned (.slice y.1 K.L.length y.2)∧(rwO Fl.leaE lo y.1 K.L.length y.2 K.L true).st w'∧Since w w'∧∀ g∈(rwO Fl.leaE lo y.1 K.L.length y.2 K.L true).F,w.heap.size≤g:=by
 refine (leasesK h.k.k hl).mono ?_
 rintro e w' ⟨A',c',rfl,a1,a2⟩
 exact ⟨(A',c'),rfl,Ek.base a1 hs,a2,Ek.lows a1⟩
set_option maxHeartbeats 16000000 in
theorem endW {gq M N b:Nat} {c:CfgV} {x:Gp} {ep:Int} {K:KV} {xs:List Int} {Sk Ss:List Nat} {D:Fam} {A:Option Addr} {bs:List UInt8} {w:World} (hg:GkS w) (hw:GWt gq c x M N K ep xs Sk D Ss w) (h:WrS b A bs w) (d1:far gkO.F b A) (d2:far (gwF gq x Sk D Ss) b A) (hc1:1≤K.G.cars.length) (hc8:K.G.cars.length≤8) (hu:∀ z∈K.G.cars,n64 z.un) (hl:K.L.length≤10000) (hL:bs.length+(told (carsL (K.G.cars.map viewOf))).length+(told (leasL K.L.length)).length≤1000000) :
  Calls Tryz.prog 22 #[me b,.pointer (some ⟨gq,0,none⟩)] w fun e w'=>∃ A':Option Addr,e=.returned (.tuple #[])∧WrS b A' (bs++told (carsL (K.G.cars.map viewOf))++told (leasL K.L.length)) w'∧Upd (b::blkOf A) w w'∧∀ g∈b::blkOf A',g∈b::blkOf A∨w.heap.size≤g:=by
 generalize hV:K.G.cars.map viewOf=vs at *
 have hn:vs.length=K.G.cars.length:=by rw [← hV,List.length_map]
 have hvs:∀ z∈vs,n64 z.un:=by
  intro z hz
  rw [← hV] at hz
  obtain ⟨y,hy,rfl⟩:=List.mem_map.1 hz
  exact hu y hy
 generalize hN:K.G.cars.length=n at *
 have hcl:(carsL vs).length=n+1:=by show (vs.map _).length+1=_; rw [List.length_map,hn]
 have hoks:∀ x∈carsL vs,x.ok:=by
  intro x hx
  rcases List.mem_cons.1 hx with rfl | hx
  ·trivial
  ·obtain ⟨z,hz,rfl⟩:=List.mem_map.1 hx
   exact hvs z hz
 have hokl:∀ x∈leasL K.L.length,x.ok:=by
  intro x hx
  unfold leasL at hx
  simp only [List.mem_cons,List.not_mem_nil,or_false] at hx
  rcases hx with rfl | rfl
  ·trivial
  ·show n64 _
   unfold n64; omega
 refine entH tab_ok (hold_en hg hw h d1 d2) [.v (me b),.v (.pointer (some ⟨gq,0,none⟩))] Tryz.func22 Tryz.ntmps22 rfl rfl ?_
 repeat' ((conv=>whnf); first | refine sgo ⟨tab_ok⟩ ?_|refine br_not ?_|refine br_t rfl ?_|refine br_f rfl ?_|refine br_t (by assumption) ?_|refine br_f (by assumption) ?_|refine br_t (decide_eq_true (by assumption)) ?_|refine br_f (decide_eq_false (by assumption)) ?_|refine br_t (beq_iff_eq.2 (by assumption)) ?_|refine br_f (beq_eq_false_iff_ne.2 (by assumption)) ?_|refine drA ⟨tab_ok⟩ [] ?_|refine kpt ?_|refine br_t (decide_eq_true (by omega)) ?_|refine br_f (decide_eq_false (by omega)) ?_|refine opP (pvMk (by rfl) (by rfl) (by kernel_rfl)) ?_|refine opbo ⟨tab_ok⟩ wdE [.tx carsT] [.tmp 7] [.v (.iface 9 (.string ⟨carsT.toArray⟩))] (by rfl) (by rfl) (by rfl) (by rfl) rfl (fun g0=>?_)|refine callN (f:=36) (ι:=Nat×Nat) (fun y=>.v (.slice (some ⟨y.1,0,none⟩) n y.2)) (fun y=>rwO viewE w.heap.size (some ⟨y.1,0,none⟩) n y.2 vs true) (fun w1 hH=>viewsN (Hold.ob hH (A:=gwO gq c x M N K ep xs Sk D Ss false) 1 rfl) hN hV (by omega) hc8 hH.upd.size) (fun y=>?_)|refine fin_s ?_|refine fin_r ?_ ?_|refine fin_e ?_ ?_)
 conv=>whnf
 refine lp ⟨tab_ok⟩ (ι:={v:Nat×Option Addr×Nat×List Wd // v.1≤n∧v.2.2.2=(carsL vs).take (v.1+1)}) (fun v=>match v with | ⟨(k,A2,c2,l),_⟩=>⟨[(0,.v (me b)),(1,.v (.pointer (some ⟨gq,0,none⟩))),(4,.v (.slice A2 l.length c2)),(10,.v (.slice (some ⟨y.1,0,none⟩) n y.2)),(11,.i .i64 n),(12,.i .i64 (k:Int))],[],[gkO,gwO gq c x M N K ep xs Sk D Ss false,wrO b A bs,rwO wdE w.heap.size A2 l.length c2 l true,rwO viewE w.heap.size (some ⟨y.1,0,none⟩) n y.2 vs true]⟩) (fun v=>n - v.1.1) ⟨(0,some ⟨g0,0,none⟩,1,[.tx carsT]),Nat.zero_le _,rfl⟩ (wk ?_) ?_
 ·repeat' (first | exact trivial | rfl | ((conv=>whnf); refine And.intro ?_ ?_))
 rintro ⟨⟨k,A2,c2,l⟩,hk0,hl0⟩
 have hk:k≤n:=hk0
 have hl1:l=(carsL vs).take (k+1):=hl0
 have hll:l.length=k+1:=by rw [hl1,List.length_take,hcl]; omega
 by_cases hlt:k < n
 ·obtain ⟨z,hz⟩:∃ z,vs[k]?=some z:=⟨_,List.getElem?_eq_getElem (by omega)⟩
  have hnx:=carsL_next hz
  rw [← hl1] at hnx
  repeat' ((conv=>whnf); first | refine sgo ⟨tab_ok⟩ ?_|refine br_not ?_|refine br_t rfl ?_|refine br_f rfl ?_|refine br_t (by assumption) ?_|refine br_f (by assumption) ?_|refine br_t (decide_eq_true (by assumption)) ?_|refine br_f (decide_eq_false (by assumption)) ?_|refine br_t (beq_iff_eq.2 (by assumption)) ?_|refine br_f (beq_eq_false_iff_ne.2 (by assumption)) ?_|refine drA ⟨tab_ok⟩ [] ?_|refine kpt ?_|refine br_t (decide_eq_true (by omega)) ?_|refine br_f (decide_eq_false (by omega)) ?_|refine opiv ⟨tab_ok⟩ (by rfl) (by rfl) (by rfl) (by rfl) (by rfl) (by rfl) ⟨by omega,by omega⟩ ?_|refine opix (g:=y.1) (off:=0+k*5) [.i .i64 z.un,.i .i64 z.ds,.i .i64 z.mo,.i .i64 z.wy,.i .i64 z.lo] (fun w1 hH=>Ek.rng (Hold.ob hH (A:=rwO viewE w.heap.size (some ⟨y.1,0,none⟩) n y.2 vs true) 4 rfl) hz) ⟨tab_ok⟩ (by rfl) (by rfl) (by first | (simp only [Go.WideShapes.add_plain]; done)|(simp only [Go.WideShapes.add_plain]; rfl)) ?_|refine fin_s ?_|refine fin_r ?_ ?_|refine fin_e ?_ ?_)
  conv=>whnf
  intro b1
  repeat' ((conv=>whnf); first | refine sgo ⟨tab_ok⟩ ?_|refine br_not ?_|refine br_t rfl ?_|refine br_f rfl ?_|refine br_t (by assumption) ?_|refine br_f (by assumption) ?_|refine br_t (decide_eq_true (by assumption)) ?_|refine br_f (decide_eq_false (by assumption)) ?_|refine br_t (beq_iff_eq.2 (by assumption)) ?_|refine br_f (beq_eq_false_iff_ne.2 (by assumption)) ?_|refine drA ⟨tab_ok⟩ [] ?_|refine kpt ?_|refine br_t (decide_eq_true (by omega)) ?_|refine br_f (decide_eq_false (by omega)) ?_|refine wr_i ?_|refine opP (pvMk (by rfl) (by rfl) (by kernel_rfl)) ?_|refine opbi (e:=tI) ⟨tab_ok⟩ (.v (.iface 3 (.int .i64 z.un))) (by rfl) (by rfl) ?_|intro gb | refine opap 3 1 (e:=tI) (lo:=w.heap.size) (size:=1) (bytes:=16) (z:=.nilIface) (A:=rwO wdE w.heap.size A2 l.length c2 l true) (vals:=rowsOf wdE.c l) (cells:=[.iface 3 (.int .i64 z.un)]) (zs:=rowsOf wdE.c (l++[Wd.nu z.un])) (n2:=(l++[Wd.nu z.un]).length) (fun A2 c2=>rwO wdE w.heap.size A2 (l++[Wd.nu z.un]).length c2 (l++[Wd.nu z.un]) true) (by rfl) (by rfl) (by rfl) (by rfl) rfl rfl (fun w h=>h) (fun A' c' w h=>h) (fun _ _=>rfl) (by rfl) (by rfl) (by rfl) (by rfl) uI (by kernel_rfl) rfl (by decide) (by decide) (by intro u hu; simp at hu; rcases hu with rfl; rfl) (by omega) (fun w hH=>hH.upd.size) (by rw [List.length_append]; rfl) (by rw [rowsOf_append]; rfl) (fun A3 c3=>?_)|refine En.back ⟨(k+1,A3,c3,l++[Wd.nu z.un]),by show k+1≤n; omega,hnx.symm⟩ (wkd ?_) ?_|refine fin_s ?_|refine fin_r ?_ ?_|refine fin_e ?_ ?_)
  all_goals first | (show n - (k+1) < n - k; omega)|skip
  all_goals (repeat' (first | exact trivial | rfl | ((conv=>whnf); refine And.intro ?_ ?_)))
 ·have e0:k=n:=by omega
  have e1:l=carsL vs:=by
   rw [hl1,e0]
   exact List.take_of_length_le (by omega)
  repeat' ((conv=>whnf); first | refine sgo ⟨tab_ok⟩ ?_|refine br_not ?_|refine br_t rfl ?_|refine br_f rfl ?_|refine br_t (by assumption) ?_|refine br_f (by assumption) ?_|refine br_t (decide_eq_true (by assumption)) ?_|refine br_f (decide_eq_false (by assumption)) ?_|refine br_t (beq_iff_eq.2 (by assumption)) ?_|refine br_f (beq_eq_false_iff_ne.2 (by assumption)) ?_|refine drA ⟨tab_ok⟩ [] ?_|refine kpt ?_|refine br_t (decide_eq_true (by omega)) ?_|refine br_f (decide_eq_false (by omega)) ?_|refine callO (f:=31) 2 (A:=wrO b A bs) (fun _:Option Addr=>.t []) (fun B1=>wrO b B1 (bs++told (carsL vs))) (fun w1 hH hA=>by have hR:=Hold.ob hH (A:=rwO wdE w.heap.size A2 l.length c2 l true) 3 rfl; have d3:=apart hH 0 2 rfl rfl (by decide) (.inr rfl); have d4:=apart hH 3 2 rfl rfl (by decide) (.inr rfl); have hgk:=Hold.ob hH (A:=gkO) 0 rfl; subst e1; exact lineA hgk hR rfl hA d3 d4 (by omega) hoks (by omega)) (fun B1=>?_)|refine opP (pvMk (by rfl) (by rfl) (by kernel_rfl)) ?_|refine callH (f:=37) (.v (.pointer (some ⟨x.q,0,none⟩))) (fun w1 hH=>coreT (Hold.ob hH (A:=gwO gq c x M N K ep xs Sk D Ss false) 1 rfl).b) ?_|refine callN (f:=38) (ι:=Option Addr×Nat) (fun u=>.v (.slice u.1 K.L.length u.2)) (fun u=>rwO Fl.leaE w.heap.size u.1 K.L.length u.2 K.L true) (fun w1 hH=>leasN (Hold.ob hH (A:=gwO gq c x M N K ep xs Sk D Ss false) 1 rfl) hl hH.upd.size) (fun u=>?_)|refine opbo ⟨tab_ok⟩ wdE (leasL K.L.length) [.tmp 27,.tmp 32] [.v (.iface 9 (.string ⟨leasT.toArray⟩)),.v (.iface 3 (.int .i64 (K.L.length:Int)))] (by rfl) (by rfl) (by rfl) (by rfl) rfl (fun g1=>?_)|refine callO (f:=31) 2 (A:=wrO b B1 (bs++told (carsL vs))) (fun _:Option Addr=>.t []) (fun B2=>wrO b B2 (bs++told (carsL vs)++told (leasL K.L.length))) (fun w1 hH hA=>lineA (Hold.ob hH (A:=gkO) 0 rfl) (Hold.ob hH (A:=rwO wdE w.heap.size (some ⟨g1,0,none⟩) 2 2 (leasL K.L.length) true) 6 rfl) rfl hA (apart hH 0 2 rfl rfl (by decide) (.inr rfl)) (apart hH 6 2 rfl rfl (by decide) (.inr rfl)) (by omega) hokl (by rw [List.length_append]; omega)) (fun B2=>?_)|refine fin fun w' hH=>⟨B2,rfl,Hold.ob hH (A:=wrO b B2 (bs++told (carsL vs)++told (leasL K.L.length))) 2 rfl,hH.upd,fun g hg=>hH.own _ (List.mem_of_getElem? (i:=2) rfl) rfl g hg⟩|refine fin_s ?_|refine fin_r ?_ ?_|refine fin_e ?_ ?_)
end Sh
namespace Gw
open Go.RowKit Ba Mem En Go.Proofs.YtnoehplnmdajnaaGreatDoor.Ty Mp
open Fq (SO)
open Byt (BV isB)
open Co (KV Pt KW newK Hold.ob)
open Gr (doR)
set_option maxRecDepth 100000
attribute [local irreducible] Go.Calls
section
variable {gq M N n T:Nat} {c:CfgV} {x:Gp} {ep sa sb:Int} {K K':KV} {xs zs:List Int} {Sk Sk' Ss:List Nat} {D D':Fam} {w w':World} {dA:Option Addr} {dn dc:Nat}
theorem hallX (h:GWt gq c x M N K ep xs Sk D Ss w) (hw:K.G.waits.length≤10000):Calls Tryz.prog 55 #[.pointer (some ⟨gq,0,none⟩),.agg #[.int .i64 3,.int .i64 sa,.int .i64 sb,.slice dA dn dc]] w fun e w'=>∃ S',e=.returned (.tuple #[.slice none 0 0,.int .i64 (Gr.hallR K.G sa sb).2])∧GWt gq c x M N { K with G:=(doR K.G 1 sa sb (sb == 1)).1 } ep xs S' D Ss w'∧Upd (gwF gq x Sk D Ss) w w'∧∀ g∈gwF gq x S' D Ss,g∈gwF gq x Sk D Ss∨w.heap.size≤g :=
 (hallT h.b h.k h.g1 hw).mono (by
  rintro e w' ⟨S',rfl,h1,h2,h3⟩
  obtain ⟨a1,a2,a3⟩:=h.kg h1 h2 h3
  exact ⟨S',rfl,a1,a2,a3⟩)
theorem hallD (h:GWt gq c x M N K ep xs Sk D Ss w) (hw:K.G.waits.length≤10000):Calls Tryz.prog 21 #[.pointer (some ⟨gq,0,none⟩),.agg #[.int .i64 3,.int .i64 sa,.int .i64 sb,.slice dA dn dc]] w fun e w'=>∃ S',e=.returned (.tuple #[.slice none 0 0,.int .i64 (Gr.hallR K.G sa sb).2])∧GWt gq c x M N { K with G:=(doR K.G 1 sa sb (sb == 1)).1 } ep xs S' D Ss w'∧Upd (gwF gq x Sk D Ss) w w'∧∀ g∈gwF gq x S' D Ss,g∈gwF gq x Sk D Ss∨w.heap.size≤g:=by
 refine entH tab_ok (hold_w h) [.v (.pointer (some ⟨gq,0,none⟩)),.a [.i .i64 3,.i .i64 sa,.i .i64 sb,.v (.slice dA dn dc)]] Tryz.func21 Tryz.ntmps21 rfl rfl ?_
 repeat' ((conv=>whnf); first | refine sgo ⟨tab_ok⟩ ?_|refine br_not ?_|refine br_t rfl ?_|refine br_f rfl ?_|refine br_t (by assumption) ?_|refine br_f (by assumption) ?_|refine br_t (decide_eq_true (by assumption)) ?_|refine br_f (decide_eq_false (by assumption)) ?_|refine br_t (beq_iff_eq.2 (by assumption)) ?_|refine br_f (beq_eq_false_iff_ne.2 (by assumption)) ?_|intro b0 | refine drA ⟨tab_ok⟩ [] ?_|refine kpt ?_|refine And.intro ?_ ?_|refine callN (f:=35) (ι:=Nat) (fun b=>.v (.map (some b))) (fun b=>mpO Tryz.prog 3 b 8 (mtab kindL) true) (fun w1 hH=>(kindsT w1).mono (by rintro e w' ⟨b,rfl,h1,h2,h3⟩; exact ⟨b,rfl,h1,h2,fun g hg=>by rw [List.mem_singleton.1 hg]; exact h3⟩)) (fun b=>?_)|refine oplo (b:=b) (n:=8) (m:=mtab kindL) (k:=3) (e:=91) 1 _ (.f 55 []) true (by rfl) (by rfl) (by rfl) (by rfl) (fun w h=>h) (by kernel_rfl) (by kernel_rfl) (fun w=>rfl) (wf_small (by decide)) (by rfl) (by rfl) ?_|refine callO (f:=55) (A:=gwO gq c x M N K ep xs Sk D Ss true) 0 (fun _:List Nat=>.t [.v (.slice none 0 0),.i .i64 (Gr.hallR K.G sa sb).2]) (fun S'=>gwO gq c x M N { K with G:=(doR K.G 1 sa sb (sb == 1)).1 } ep xs S' D Ss true) (fun w hH hA=>hallX hA hw) (fun S'=>?_)|refine fin fun w' hH=>⟨S',rfl,Hold.ob hH (A:=gwO gq c x M N { K with G:=(doR K.G 1 sa sb (sb == 1)).1 } ep xs S' D Ss true) 0 rfl,hH.upd,fun g hg=>hH.own _ (List.mem_of_getElem? (i:=0) rfl) rfl g hg⟩|refine fin_s ?_|refine fin_r ?_ ?_|refine fin_e ?_ ?_)
end
end Gw
namespace Gw
open Go.RowKit Ba Mem En Go.Proofs.YtnoehplnmdajnaaGreatDoor.Ty
open Byt (BV)
open Co (newK Hold.ob KV)
set_option maxRecDepth 100000
attribute [local irreducible] Go.Calls
theorem newX (c:CfgV) (w:World):Calls Tryz.prog 19 #[.agg #[.int .i64 c.ca,.int .i64 c.fl,.int .i64 c.ft,.int .i64 c.se,.int .i64 c.dr,.int .i64 c.dw,.int .i64 c.ho,.int .i64 c.re,.int .i64 c.yi,.int .i64 c.qu,.int .i64 c.qo,.int .i64 c.lo,.int .i64 c.sl,.int .i64 c.rt,.int .i64 c.cp,.int .i64 c.tr,.int .i64 c.de,.int .i64 c.wi]] w fun e w'=>∃ y:Nat×Gp×List Nat,e=.returned (.pointer (some ⟨y.1,0,none⟩))∧GWt y.1 c y.2.1 0 0 (newK c) 0 [] y.2.2 (fun _=>none) [y.2.1.s] w'∧Since w w'∧∀ g∈gwF y.1 y.2.1 y.2.2 (fun _=>none) [y.2.1.s],w.heap.size≤g :=
 (newG c w).mono (by
  rintro e w' ⟨gq,x,Sk,rfl,h1,h2,h3,h4,h5,h6,h7,h8⟩
  exact ⟨(gq,x,Sk),rfl,⟨h1,h2,h3,h6,h7,h8⟩,h4,h5⟩)
end Gw
namespace Sh
open Go.RowKit Ba Mem En Go.Proofs.YtnoehplnmdajnaaGreatDoor.Ty Gw
open Co (Hold.ob KV newK)
open Sx Sw Sp
open Gr (doR hallR hasC)
open Go.Lib (itoa)
set_option maxRecDepth 100000
def cA:CfgV:=⟨1,4,0,0,0,0,0,0,0,0,0,0,0,0,0,0,0,0⟩
def nA:List Int:=[1,4,0,0,0,0,0,0,0,0,0,0,0,0,0,0,0,0]
theorem no9:hasC (newK cA).G.c 9 9=false:=by decide +kernel
theorem hall9:hallR (newK cA).G 9 9=((newK cA).G,1):=by unfold hallR; rw [if_neg (by rw [no9]; decide)]
theorem do9:(doR (newK cA).G 1 9 9 (9 == (1:Int))).1=(newK cA).G:=by unfold doR; rw [if_pos rfl,hall9]
theorem lens:(newK cA).G.cars.length=1∧(newK cA).L.length=0∧(newK cA).G.waits.length=0:=by decide +kernel
theorem uns:(newK cA).G.cars.map (·.un)=[0]:=by decide +kernel
theorem uns_ok:∀ z∈(newK cA).G.cars,n64 z.un:=fun z hz=>by
 have h:z.un∈(newK cA).G.cars.map (·.un):=List.mem_map.2 ⟨z,hz,rfl⟩
 rw [uns,List.mem_singleton] at h
 unfold n64; omega
section
variable {gq:Nat} {x:Gp} {Sk Ss:List Nat} {D:Fam} {w:World} {dA:Option Addr} {dn dc:Nat}
theorem hall_no (h:GWt gq cA x 0 0 (newK cA) 0 [] Sk D Ss w):Calls Tryz.prog 21 #[.pointer (some ⟨gq,0,none⟩),.agg #[.int .i64 3,.int .i64 9,.int .i64 9,.slice dA dn dc]] w fun e w'=>∃ S',e=.returned (.tuple #[.slice none 0 0,.int .i64 1])∧GWt gq cA x 0 0 (newK cA) 0 [] S' D Ss w'∧Upd (gwF gq x Sk D Ss) w w'∧∀ g∈gwF gq x S' D Ss,g∈gwF gq x Sk D Ss∨w.heap.size≤g:=by
 have:=hallD (sa:=9) (sb:=9) (dA:=dA) (dn:=dn) (dc:=dc) h (by rw [lens.2.2]; decide)
 rw [do9,hall9] at this
 exact this
end
def sp9:SP:=⟨3,9,9,[]⟩
theorem parse9 (s:List UInt8) (hs:s.length≤200000) (hv:rdT 0 [] s=([sp9],0)) {lo:Nat} {w:World} (hlo:lo≤w.heap.size) (hg:GkS w):Calls Tryz.prog 18 #[.string ⟨s.toArray⟩] w fun e w'=>∃ y:Nat×Nat×Option Addr×Nat×Nat,e=.returned (.tuple #[.slice (some ⟨y.1,0,none⟩) 1 y.2.1,.int .i64 0,.int .i64 0])∧(rwO stepE lo (some ⟨y.1,0,none⟩) 1 y.2.1 [⟨3,9,9,y.2.2.1,y.2.2.2.1,y.2.2.2.2,[]⟩] true).st w'∧Since w w'∧∀ g∈(rwO stepE lo (some ⟨y.1,0,none⟩) 1 y.2.1 [⟨3,9,9,y.2.2.1,y.2.2.2.1,y.2.2.2.2,[]⟩] true).F,w.heap.size≤g:=by
 refine (parseP s hs hg).mono ?_
 rintro e w' ⟨os,z,h1,h2,rfl,h4,h5,h6⟩
 rw [hv] at h1 ⊢
 have hl:os.length=1:=by have:=congrArg List.length h1; simpa using this
 obtain ⟨o,rfl⟩:=List.length_eq_one_iff.1 hl
 obtain ⟨k,a,b,A,n,c,d⟩:=o
 have h1:spD ⟨k,a,b,A,n,c,d⟩=sp9:=by simpa using h1
 unfold spD sp9 at h1
 injection h1 with e1 e2 e3 e4
 have e5:d.map Int.toNat=[]:=e4
 have e6:d=[]:=List.map_eq_nil_iff.1 e5
 simp only at e1 e2 e3
 clear e4 e5
 subst e1 e2 e3 e6
 obtain ⟨g,hg'⟩:=Ek.addr h4
 have hg':=hg' Nat.zero_lt_one
 obtain ⟨zA,zc⟩:=z
 simp only at hg' h4
 subst hg'
 exact ⟨(g,zc,A,n,c),by simp,Ek.base h4 hlo,h6,Ek.lows h4⟩
def told9:List UInt8:=errN 1++told (carsL ((newK cA).G.cars.map viewOf))++told (leasL (newK cA).L.length)
theorem told9_len:told9.length≤100:=by decide +kernel
theorem told9_ne:told9≠[]:=by decide +kernel
attribute [local irreducible] Go.Calls told n64 errL errN endN Sx.setV told9
set_option maxHeartbeats 16000000 in
theorem runA (s:List UInt8) (hs:s.length≤200000) (hv:Sx.setV (s.take (endN s))=some nA) (hp:rdT 0 [] (s.drop (endN s))=([sp9],0)) {w:World} (hg:GkS w):Calls Tryz.prog 7 #[.string ⟨s.toArray⟩] w fun e w'=>e=.returned (.string ⟨told9.toArray⟩)∧Since w w':=by
 have hel:=endN_le s
 have htl:(s.take (endN s)).length≤900000:=by rw [List.length_take]; omega
 have hdl:(s.drop (endN s)).length≤200000:=by rw [List.length_drop]; omega
 have hset:∀ w:World,GkS w→Calls Tryz.prog 15 #[.string ⟨(s.take (endN s)).toArray⟩] w fun e w'=>e=.returned (.tuple #[.agg #[.int .i64 1,.int .i64 4,.int .i64 0,.int .i64 0,.int .i64 0,.int .i64 0,.int .i64 0,.int .i64 0,.int .i64 0,.int .i64 0,.int .i64 0,.int .i64 0,.int .i64 0,.int .i64 0,.int .i64 0,.int .i64 0,.int .i64 0,.int .i64 0],.bool true])∧Since w w':=fun w hg=>(setP _ htl hg).mono (by rintro e w' ⟨rfl,h⟩; rw [hv]; exact ⟨rfl,h⟩)
 have h1:n64 1:=by unfold n64; decide
 have hl1:(errN 1).length≤900000:=by
  have:=told9_len
  unfold told9 at this
  rw [List.length_append,List.length_append] at this
  omega
 have hl9:(errN 1).length+(told (carsL ((newK cA).G.cars.map viewOf))).length+(told (leasL (newK cA).L.length)).length≤1000000:=by
  have:=told9_len
  unfold told9 at this
  rw [List.length_append,List.length_append] at this
  omega
 refine entH tab_ok (hold_gk hg) [tx s] Tryz.func7 Tryz.ntmps7 rfl rfl ?_
 repeat' ((conv=>whnf); first | refine sgo ⟨tab_ok⟩ ?_|refine br_not ?_|refine br_t rfl ?_|refine br_f rfl ?_|refine br_t (by assumption) ?_|refine br_f (by assumption) ?_|refine br_t (decide_eq_true (by assumption)) ?_|refine br_f (decide_eq_false (by assumption)) ?_|refine br_t (beq_iff_eq.2 (by assumption)) ?_|refine br_f (beq_eq_false_iff_ne.2 (by assumption)) ?_|refine drA ⟨tab_ok⟩ [] ?_|refine kpt ?_|refine br_t (decide_eq_true (by omega)) ?_|refine br_f (decide_eq_false (by omega)) ?_|refine fin_s ?_|refine fin_r ?_ ?_|refine fin_e ?_ ?_)
 conv=>whnf
 intro b0
 repeat' ((conv=>whnf); first | refine sgo ⟨tab_ok⟩ ?_|refine br_not ?_|refine br_t rfl ?_|refine br_f rfl ?_|refine br_t (by assumption) ?_|refine br_f (by assumption) ?_|refine br_t (decide_eq_true (by assumption)) ?_|refine br_f (decide_eq_false (by assumption)) ?_|refine br_t (beq_iff_eq.2 (by assumption)) ?_|refine br_f (beq_eq_false_iff_ne.2 (by assumption)) ?_|refine drA ⟨tab_ok⟩ [] ?_|refine kpt ?_|refine br_t (decide_eq_true (by omega)) ?_|refine br_f (decide_eq_false (by omega)) ?_|refine wr_i ?_|refine callQ (f:=14) (.i .i64 ((endN s:Int) - 1)) (fun w1=>ibE s w1) ?_|refine opP (pvSlH (xs:=s) (endN s) (by rfl) (by rfl) (by rfl) ⟨by omega,by omega⟩ Tryz.underlying9) ?_|refine callH (f:=15) (.t [.a [.i .i64 1,.i .i64 4,.i .i64 0,.i .i64 0,.i .i64 0,.i .i64 0,.i .i64 0,.i .i64 0,.i .i64 0,.i .i64 0,.i .i64 0,.i .i64 0,.i .i64 0,.i .i64 0,.i .i64 0,.i .i64 0,.i .i64 0,.i .i64 0],.b true]) (fun w1 hH=>hset w1 (Hold.ob hH (A:=gkO) 0 rfl)) ?_|refine fin_s ?_|refine fin_r ?_ ?_|refine fin_e ?_ ?_)
 conv=>whnf
 intro b1
 repeat' ((conv=>whnf); first | refine sgo ⟨tab_ok⟩ ?_|refine br_not ?_|refine br_t rfl ?_|refine br_f rfl ?_|refine br_t (by assumption) ?_|refine br_f (by assumption) ?_|refine br_t (decide_eq_true (by assumption)) ?_|refine br_f (decide_eq_false (by assumption)) ?_|refine br_t (beq_iff_eq.2 (by assumption)) ?_|refine br_f (beq_eq_false_iff_ne.2 (by assumption)) ?_|refine drA ⟨tab_ok⟩ [] ?_|refine kpt ?_|refine br_t (decide_eq_true (by omega)) ?_|refine br_f (decide_eq_false (by omega)) ?_|refine wr_i ?_|refine opP (pvSlL (xs:=s) (endN s) (by rfl) (by rfl) (by rfl) ⟨by omega,by omega⟩ Tryz.underlying9) ?_|refine callN (f:=18) (ι:=Nat×Nat×Option Addr×Nat×Nat) (fun y=>.t [.v (.slice (some ⟨y.1,0,none⟩) 1 y.2.1),.i .i64 0,.i .i64 0]) (fun y=>rwO stepE w.heap.size (some ⟨y.1,0,none⟩) 1 y.2.1 [⟨3,9,9,y.2.2.1,y.2.2.2.1,y.2.2.2.2,[]⟩] true) (fun w1 hH=>parse9 _ hdl hp hH.upd.size (Hold.ob hH (A:=gkO) 0 rfl)) (fun y=>?_)|refine callN (f:=19) (ι:=Nat×Gp×List Nat) (fun v=>.v (.pointer (some ⟨v.1,0,none⟩))) (fun v=>gwO v.1 cA v.2.1 0 0 (newK cA) 0 [] v.2.2 (fun _=>none) [v.2.1.s] true) (fun w1 hH=>newX cA w1) (fun v=>?_)|refine fin_s ?_|refine fin_r ?_ ?_|refine fin_e ?_ ?_)
 conv=>whnf
 refine lp ⟨tab_ok⟩ (ι:=List Nat ⊕ (List Nat×Option Addr)) (fun u=>match u with | .inl S1=>⟨[(3,.p 0 0),(10,.v (.pointer (some ⟨v.1,0,none⟩))),(50,.v (.slice (some ⟨y.1,0,none⟩) 1 y.2.1)),(51,.i .i64 1),(52,.i .i64 0)],[⟨b0,tW,false,0,[],[.v (.pointer none),.v (.slice none 0 0)],[],true⟩],[gkO,rwO stepE w.heap.size (some ⟨y.1,0,none⟩) 1 y.2.1 [⟨3,9,9,y.2.2.1,y.2.2.2.1,y.2.2.2.2,[]⟩] true,gwO v.1 cA v.2.1 0 0 (newK cA) 0 [] S1 (fun _=>none) [v.2.1.s] true,wrO b0 none []]⟩ | .inr ⟨S1,B1⟩=>⟨[(3,.p 0 0),(10,.v (.pointer (some ⟨v.1,0,none⟩))),(50,.v (.slice (some ⟨y.1,0,none⟩) 1 y.2.1)),(51,.i .i64 1),(52,.i .i64 1)],[⟨b0,tW,false,0,[],[.v (.pointer none),.v (.slice none 0 0)],[],true⟩],[gkO,rwO stepE w.heap.size (some ⟨y.1,0,none⟩) 1 y.2.1 [⟨3,9,9,y.2.2.1,y.2.2.2.1,y.2.2.2.2,[]⟩] true,gwO v.1 cA v.2.1 0 0 (newK cA) 0 [] S1 (fun _=>none) [v.2.1.s] true,wrO b0 B1 (errN 1)]⟩) (fun u=>match u with | .inl _=>1 | .inr _=>0) (.inl v.2.2) (wkX 0 (wrO b0 none []) (by rfl) (by rfl) (by rfl) (fun w1 hg hb1=>⟨.pointer none,0,.inl rfl,hb1,⟨rfl,.inl ⟨rfl,rfl⟩⟩⟩) (wk ?_)) ?_
 ·repeat' (first | exact trivial | rfl | ((conv=>whnf); refine And.intro ?_ ?_))
 rintro (S1 | ⟨S1,B1⟩)
 ·repeat' ((conv=>whnf); first | refine sgo ⟨tab_ok⟩ ?_|refine br_not ?_|refine br_t rfl ?_|refine br_f rfl ?_|refine br_t (by assumption) ?_|refine br_f (by assumption) ?_|refine br_t (decide_eq_true (by assumption)) ?_|refine br_f (decide_eq_false (by assumption)) ?_|refine br_t (beq_iff_eq.2 (by assumption)) ?_|refine br_f (beq_eq_false_iff_ne.2 (by assumption)) ?_|refine drA ⟨tab_ok⟩ [] ?_|refine kpt ?_|refine br_t (decide_eq_true (by omega)) ?_|refine br_f (decide_eq_false (by omega)) ?_|refine wr_i ?_|refine opiv ⟨tab_ok⟩ (by rfl) (by rfl) (by rfl) (by rfl) (by rfl) (by rfl) ⟨by omega,by omega⟩ ?_|refine opix (g:=y.1) (off:=0+0*4) [.i .i64 3,.i .i64 9,.i .i64 9,.v (.slice y.2.2.1 y.2.2.2.1 y.2.2.2.2)] (fun w1 hH=>Ek.rng (k:=0) (Hold.ob hH (A:=rwO stepE w.heap.size (some ⟨y.1,0,none⟩) 1 y.2.1 [⟨3,9,9,y.2.2.1,y.2.2.2.1,y.2.2.2.2,[]⟩] true) 1 rfl) rfl) ⟨tab_ok⟩ (by rfl) (by rfl) (by first | (simp only [Go.WideShapes.add_plain]; done)|(simp only [Go.WideShapes.add_plain]; rfl)) ?_|refine fin_s ?_|refine fin_r ?_ ?_|refine fin_e ?_ ?_)
  conv=>whnf
  intro b2
  repeat' ((conv=>whnf); first | refine sgo ⟨tab_ok⟩ ?_|refine br_not ?_|refine br_t rfl ?_|refine br_f rfl ?_|refine br_t (by assumption) ?_|refine br_f (by assumption) ?_|refine br_t (decide_eq_true (by assumption)) ?_|refine br_f (decide_eq_false (by assumption)) ?_|refine br_t (beq_iff_eq.2 (by assumption)) ?_|refine br_f (beq_eq_false_iff_ne.2 (by assumption)) ?_|refine drA ⟨tab_ok⟩ [] ?_|refine kpt ?_|refine br_t (decide_eq_true (by omega)) ?_|refine br_f (decide_eq_false (by omega)) ?_|refine wr_i ?_|refine callO (f:=21) 2 (A:=gwO v.1 cA v.2.1 0 0 (newK cA) 0 [] S1 (fun _=>none) [v.2.1.s] true) (fun _:List Nat=>.t [.v (.slice none 0 0),.i .i64 1]) (fun S'=>gwO v.1 cA v.2.1 0 0 (newK cA) 0 [] S' (fun _=>none) [v.2.1.s] true) (fun w1 hH hA=>hall_no hA) (fun S'=>?_)|refine callO (f:=20) 3 (A:=wrO b0 none []) (fun _:Option Addr=>.t []) (fun B1=>wrO b0 B1 (errN 1)) (fun w1 hH hA=>stepW (Hold.ob hH (A:=gkO) 0 rfl) hA (apart hH 0 3 rfl rfl (by decide) (.inr rfl)) h1 (by decide) (Nat.zero_le _)) (fun B1=>?_)|refine En.back (.inr (S',B1)) (wkd ?_) ?_|refine fin_s ?_|refine fin_r ?_ ?_|refine fin_e ?_ ?_)
  all_goals first | exact Nat.zero_lt_one | skip
  all_goals (repeat' (first | exact trivial | rfl | ((conv=>whnf); refine And.intro ?_ ?_)))
 ·repeat' ((conv=>whnf); first | refine sgo ⟨tab_ok⟩ ?_|refine br_not ?_|refine br_t rfl ?_|refine br_f rfl ?_|refine br_t (by assumption) ?_|refine br_f (by assumption) ?_|refine br_t (decide_eq_true (by assumption)) ?_|refine br_f (decide_eq_false (by assumption)) ?_|refine br_t (beq_iff_eq.2 (by assumption)) ?_|refine br_f (beq_eq_false_iff_ne.2 (by assumption)) ?_|refine drA ⟨tab_ok⟩ [] ?_|refine kpt ?_|refine br_t (decide_eq_true (by omega)) ?_|refine br_f (decide_eq_false (by omega)) ?_|refine callO (f:=22) 3 (A:=wrO b0 B1 (errN 1)) (fun _:Option Addr=>.t []) (fun B2=>wrO b0 B2 told9) (fun w1 hH hA=>by unfold told9; exact endW (Hold.ob hH (A:=gkO) 0 rfl) (Hold.ob hH (A:=gwO v.1 cA v.2.1 0 0 (newK cA) 0 [] S1 (fun _=>none) [v.2.1.s] true) 2 rfl) hA (apart hH 0 3 rfl rfl (by decide) (.inr rfl)) (apart hH 2 3 rfl rfl (by decide) (.inr rfl)) (by rw [lens.1]; decide) (by rw [lens.1]; decide) uns_ok (by rw [lens.2.1]; decide) hl9) (fun B2=>?_)|refine callO (f:=17) 3 (A:=wrO b0 B2 told9) (fun _:Unit=>tx told9) (fun _=>goneO (b0::blkOf B2)) (fun w1 hH hA=>textC hA told9_ne) (fun _=>?_)|refine fin_s ?_|refine fin_r ?_ ?_|refine fin_e ?_ ?_)
  all_goals rfl
end Sh
namespace Sh
open Go.RowKit Ba Mem En Go.Proofs.YtnoehplnmdajnaaGreatDoor.Ty Gw
open Co (Hold.ob)
open Sx Sw Sp
open Go.Lib (itoa)
set_option maxRecDepth 100000
theorem nl_line {t r:List UInt8} (h:∀ c∈t,c≠10):nl (t++10::r)=some t.length:=by
  unfold nl
  rw [List.findIdx?_append]
  have:t.findIdx? (· == 10)=none:=by
    rw [List.findIdx?_eq_none_iff]
    intro x hx
    simpa using h x hx
  rw [this]
  simp [List.findIdx?_cons]
theorem nl_no {t:List UInt8} (h:∀ c∈t,c≠10):nl t=none:=by
 unfold nl
 rw [List.findIdx?_eq_none_iff]
 intro x hx
 simpa using h x hx
theorem cut_line {t r:List UInt8} (h:∀ c∈t,c≠10):endN (t++[10]++r)=t.length+1∧(t++[10]++r).take (t.length+1)=t++[10]∧(t++[10]++r).drop (t.length+1)=r:=by
 have hl:(t++[10]).length=t.length+1:=by simp
 refine ⟨?_, ?_, ?_⟩
 ·unfold endN
  rw [List.append_assoc,show ([10]:List UInt8)++r=10::r from rfl,nl_line h]
 ·rw [← hl,List.take_left]
 ·rw [← hl,List.drop_left]
theorem cut_none {t:List UInt8} (h:∀ c∈t,c≠10):endN t=0:=by unfold endN; rw [nl_no h]
theorem nums_no:∀ (l:List Int),∀ c∈numsL l,c≠10
 | [],c,h=>by cases h
 | [n],c,h=>(itoa_no n c h).2
 | n::m::r,c,h=>by
  rcases List.mem_append.1 h with h | h
  ·exact (itoa_no n c h).2
  ·rcases List.mem_cons.1 h with rfl | h
   ·decide
   ·exact nums_no (m::r) c h
theorem cut_set (l:List Int) (r:List UInt8):endN (setL l++r)=(numsL l).length+1∧(setL l++r).take (endN (setL l++r))=setL l∧(setL l++r).drop (endN (setL l++r))=r:=by
 have h:=cut_line (r:=r) (nums_no l)
 have e:setL l++r=numsL l++[10]++r:=rfl
 rw [e,h.1]
 exact ⟨rfl,h.2.1,h.2.2⟩
theorem rdT_err:∀ (k:Nat) (n:Nat) (acc:List SP) (s:List UInt8),s.length≤k→(rdT n acc s).2≠0→∃ m,rdT n acc s=([],m+1)∧m≤n+s.length
 | k,n,acc,s,hk,h=>by
  by_cases hs:s=[]
  ·subst hs; rw [rdT_nil] at h; exact absurd rfl h
  ·cases hn:nl s with
   | none=>exact ⟨n,rdT_none hs hn,by omega⟩
   | some i =>
    have hi:=nl_lt hn
    cases hl:lineV (s.take i) with
    | none=>exact ⟨n,rdT_bad hn hl,by omega⟩
    | some x =>
     rw [rdT_ok hn hl] at h ⊢
     have hd:(s.drop (i+1)).length < s.length:=by rw [List.length_drop]; omega
     match k with
     | 0=>omega
     | k+1 =>
      obtain ⟨m,h1,h2⟩:=rdT_err k (n+1) (acc++[x]) (s.drop (i+1)) (by omega) h
      exact ⟨m,h1,by omega⟩
theorem sp9_ok:SPok sp9:=⟨by decide,by decide,by decide,by intro x hx; cases hx⟩
def st9:List UInt8:=[51,32,57,32,57,32,120,10]
theorem st9_is:printP [sp9]=st9:=by decide +kernel
theorem rd9:rdT 0 [] st9=([sp9],0):=by
 rw [← st9_is]
 exact rdT_one [sp9] (by intro x hx; rw [List.mem_singleton.1 hx]; exact sp9_ok)
theorem rdX:rdT 0 [] [120]=([],1):=rdT_none (by decide) (by decide)
theorem set0:Sx.setV []=none:=by decide
theorem setA:Sx.setV (setL nA)=some nA:=set_setL rfl (by decide)
theorem set_len {l:List Int} (h18:l.length=18) (h:∀ n∈l,n64 n):(setL l).length≤1000:=by
 have:=nums_len (l:=l) h
 unfold setL
 rw [List.length_append]
 simp only [List.length_cons,List.length_nil]
 omega
theorem setA_len:(setL nA).length≤1000:=set_len rfl (by unfold n64; decide)
def e81:List UInt8:=[101,114,114,111,114,32,56,32,49,10]
def e82:List UInt8:=[101,114,114,111,114,32,56,32,50,10]
def e9:List UInt8:=[101,114,114,111,114,32,49,10,99,97,114,115,32,48,10,108,101,97,115,101,115,32,48,10]
theorem e81_is:errL 8 1=e81:=by decide +kernel
theorem e82_is:errL 8 2=e82:=by decide +kernel
theorem e9_is:told9=e9:=by decide +kernel
theorem cfgA_is:cfgI cA=nA:=rfl
theorem cfgA_ok:∀ n∈cfgI cA,n64 n:=by unfold n64; decide
theorem run81 {s:List UInt8} (hs:s.length≤200000) (hv:Sx.setV (s.take (endN s))=none) {w:World} (hg:GkS w):Calls Tryz.prog 7 #[.string ⟨s.toArray⟩] w fun e w'=>e=.returned (.string ⟨e81.toArray⟩)∧Since w w':=by
 have:=runF s hs hv hg
 rw [e81_is] at this
 exact this
theorem lenA {r:List UInt8} (h:r.length≤100):(setL nA++r).length≤200000:=by
 have:=setA_len
 rw [List.length_append]
 omega
theorem ansR1 {w:World} (hg:GkS w):Calls Tryz.prog 7 #[.string ⟨(setL nA++st9).toArray⟩] w fun e w'=>e=.returned (.string ⟨e9.toArray⟩)∧Since w w':=by
 obtain ⟨h1,h2,h3⟩:=cut_set nA st9
 have:=runA (setL nA++st9) (lenA (by decide)) (by rw [h2]; exact setA) (by rw [h3]; exact rd9) hg
 rw [e9_is] at this
 exact this
theorem ansR2 {w:World} (hg:GkS w):Calls Tryz.prog 7 #[.string ⟨([]:List UInt8).toArray⟩] w fun e w'=>e=.returned (.string ⟨e81.toArray⟩)∧Since w w':=run81 (s:=[]) (by decide) (by rw [List.take_nil]; exact set0) hg
theorem ansR3 {w:World} (hg:GkS w):Calls Tryz.prog 7 #[.string ⟨(setL nA++[120]).toArray⟩] w fun e w'=>e=.returned (.string ⟨e82.toArray⟩)∧Since w w':=by
 obtain ⟨h1,h2,h3⟩:=cut_set nA [120]
 have:=runP (setL nA++[120]) (lenA (by decide)) (by rw [h2,setA]; rfl) (m:=0) (by rw [h3]; exact rdX) (by decide) hg
 rw [show (((0+1:Nat):Int)+1)=2 from rfl,e82_is] at this
 exact this
attribute [local irreducible] Go.Calls setL
set_option maxHeartbeats 8000000 in
theorem ans25 {w:World} (hg:GkS w):Calls Tryz.prog 5 #[] w fun e w'=>e=.returned (.bool true)∧Since w w':=by
 have hsl:=setA_len
 obtain ⟨t,ht⟩:∃ t,setL nA=t:=⟨_,rfl⟩
 have h1:=fun (w:World) (hg:GkS w)=>ansR1 hg
 have h3:=fun (w:World) (hg:GkS w)=>ansR3 hg
 have h0:=fun (w:World)=>settingR cA cfgA_ok w
 rw [cfgA_is,ht] at h0
 rw [ht] at h1 h3 hsl
 refine entH tab_ok (hold_gk hg) [] Tryz.func5 Tryz.ntmps5 rfl rfl ?_
 repeat' ((conv=>whnf); first | refine sgo ⟨tab_ok⟩ ?_|refine br_not ?_|refine br_t rfl ?_|refine br_f rfl ?_|refine br_t (by assumption) ?_|refine br_f (by assumption) ?_|refine br_t (decide_eq_true (by assumption)) ?_|refine br_f (decide_eq_false (by assumption)) ?_|refine br_t (beq_iff_eq.2 (by assumption)) ?_|refine br_f (beq_eq_false_iff_ne.2 (by assumption)) ?_|intro b | refine drA ⟨tab_ok⟩ [] ?_|refine kpt ?_|refine br_t (decide_eq_true (by omega)) ?_|refine br_f (decide_eq_false (by omega)) ?_|refine br_t (by rfl) ?_|refine br_t (beq_self_eq_true _) ?_|refine callS (f:=8) (tx t) (fun w1=>h0 w1) ?_|refine opP (pvCat (xs:=t) (ys:=st9) (by rfl) (by rfl) (by rfl) ⟨by omega,by decide⟩) ?_|refine opP (pvCat (xs:=t) (ys:=[120]) (by rfl) (by rfl) (by rfl) ⟨by omega,by decide⟩) ?_|refine callH (f:=7) (tx e9) (fun w1 hH=>h1 w1 (Hold.ob hH (A:=gkO) 0 rfl)) ?_|refine callH (f:=7) (tx e82) (fun w1 hH=>h3 w1 (Hold.ob hH (A:=gkO) 0 rfl)) ?_|refine callH (f:=7) (tx e81) (fun w1 hH=>ansR2 (Hold.ob hH (A:=gkO) 0 rfl)) ?_|refine fin_s ?_|refine fin_r ?_ ?_|refine fin_e ?_ ?_)
 all_goals (show Value.bool (ByteArray.toList ⟨e82.toArray⟩ == ByteArray.toList ⟨e82.toArray⟩)=_; rw [beq_self_eq_true])
end Sh
namespace Sh
open Go.RowKit Ba Mem En Go.Proofs.YtnoehplnmdajnaaGreatDoor.Ty Gw
open Co (Hold.ob)
open Sx Sw Sp
open Go.Lib (itoa)
set_option maxRecDepth 100000
def e8T:List UInt8:=[101,114,114,111,114,32,56,32]
theorem errL8 (k:Int):errL 8 k=e8T++itoa k++[10]:=by
 have h:errT++32::(itoa 8++32::(itoa k++[10]))=(errT++32::(itoa 8++[32]))++itoa k++[10]:=by simp
 rw [errL_is,h,show errT++32::(itoa 8++[32])=e8T from by decide +kernel]
theorem readE (s:List UInt8) (hs:s.length≤900000) {n:Nat} {er:Int} (hn:(rdT 0 [] s).2=n) (he:(if n=0 then (0:Int) else 8)=er) (w:World):Calls Tryz.prog 6 #[.string ⟨s.toArray⟩] w fun e w'=>∃ z:Option Addr×Nat×Nat,e=.returned (.tuple #[.slice z.1 z.2.1 z.2.2,.int .i64 (n:Int),.int .i64 er])∧nilO.st w'∧Since w w'∧∀ g∈nilO.F,w.heap.size≤g:=by
 subst hn he
 refine (readR s hs w).mono ?_
 rintro e w' ⟨os,z,h1,h2,rfl,h4,h5,h6⟩
 exact ⟨(z.1,os.length,z.2),rfl,trivial,h6,fun g hg=>by cases hg⟩
attribute [local irreducible] Go.Calls setL itoa
set_option maxHeartbeats 8000000 in
theorem wrongL (c:CfgV) (hc:∀ n∈cfgI c,n64 n) (s:List UInt8) (hm:s.length≤9223372036854775807) {w:World} (hg:GkS w):Calls Tryz.prog 3 #[.agg #[.int .i64 c.ca,.int .i64 c.fl,.int .i64 c.ft,.int .i64 c.se,.int .i64 c.dr,.int .i64 c.dw,.int .i64 c.ho,.int .i64 c.re,.int .i64 c.yi,.int .i64 c.qu,.int .i64 c.qo,.int .i64 c.lo,.int .i64 c.sl,.int .i64 c.rt,.int .i64 c.cp,.int .i64 c.tr,.int .i64 c.de,.int .i64 c.wi],.string ⟨s.toArray⟩] w fun e w'=>e=.returned (.bool true)∧Since w w':=by
 by_cases hs:s.length≤20000
 ·have hset:=fun (w:World)=>settingR c hc w
  have hsl:=set_len (l:=cfgI c) rfl hc
  obtain ⟨hc1,hc2,hc3⟩:=cut_set (cfgI c) s
  have hv:=set_setL (l:=cfgI c) rfl hc
  by_cases h0:(rdT 0 [] s).2=0
  ·have hr:=fun (w:World)=>readE s (by omega) h0 (er:=0) rfl w
   refine entH tab_ok (hold_gk hg) [.a [.i .i64 c.ca,.i .i64 c.fl,.i .i64 c.ft,.i .i64 c.se,.i .i64 c.dr,.i .i64 c.dw,.i .i64 c.ho,.i .i64 c.re,.i .i64 c.yi,.i .i64 c.qu,.i .i64 c.qo,.i .i64 c.lo,.i .i64 c.sl,.i .i64 c.rt,.i .i64 c.cp,.i .i64 c.tr,.i .i64 c.de,.i .i64 c.wi],tx s] Tryz.func3 Tryz.ntmps3 rfl rfl ?_
   repeat' ((conv=>whnf); first | refine sgo ⟨tab_ok⟩ ?_|refine br_not ?_|refine br_t rfl ?_|refine br_f rfl ?_|refine br_t (by assumption) ?_|refine br_f (by assumption) ?_|refine br_t (decide_eq_true (by assumption)) ?_|refine br_f (decide_eq_false (by assumption)) ?_|refine br_t (beq_iff_eq.2 (by assumption)) ?_|refine br_f (beq_eq_false_iff_ne.2 (by assumption)) ?_|intro b | refine drA ⟨tab_ok⟩ [] ?_|refine kpt ?_|refine br_t (decide_eq_true (by omega)) ?_|refine br_f (decide_eq_false (by omega)) ?_|refine br_t (by rfl) ?_|refine br_t (beq_self_eq_true _) ?_|refine opP (pvLen (xs:=s) (by rfl) (by rfl) Tryz.underlying9) ?_|refine callN (f:=6) (ι:=Option Addr×Nat×Nat) (fun z=>.t [.v (.slice z.1 z.2.1 z.2.2),.i .i64 ((0:Nat):Int),.i .i64 0]) (fun _=>nilO) (fun w1 hH=>hr w1) (fun z=>?_)|refine callH (f:=5) (.b true) (fun w1 hH=>ans25 (Hold.ob hH (A:=gkO) 0 rfl)) ?_|refine fin_s ?_|refine fin_r ?_ ?_|refine fin_e ?_ ?_)
   all_goals rfl
  ·obtain ⟨m,hm1,hm2⟩:=rdT_err s.length 0 [] s (Nat.le_refl _) h0
   have hr:=fun (w:World)=>readE s (by omega) (n:=m+1) (er:=8) (by rw [hm1]) rfl w
   have hk:n64 (((m+1:Nat):Int)+1):=by unfold n64; omega
   have hrun:=fun (w:World) (hg:GkS w)=>runP (setL (cfgI c)++s) (by rw [List.length_append]; omega) (by rw [hc2,hv]; rfl) (m:=m) (by rw [hc3]; exact hm1) (by omega) hg
   have hdec:=fun (w:World)=>decT (((m+1:Nat):Int)+1) hk w
   have hil:=ito_len hk
   rw [errL8] at hrun
   obtain ⟨q,hq⟩:∃ q:Int,((m+1:Nat):Int)=q:=⟨_,rfl⟩
   rw [hq] at hr hrun hdec hil hk
   have hqb:0≤q∧q≤1000000:=by omega
   obtain ⟨d,hd⟩:∃ d,itoa (q+1)=d:=⟨_,rfl⟩
   rw [hd] at hrun hdec hil
   obtain ⟨t,ht⟩:∃ t,setL (cfgI c)=t:=⟨_,rfl⟩
   rw [ht] at hset hrun hsl
   have hl1:e8T.length≤8388608:=by decide
   have hl2:(e8T++d).length≤8388608:=by rw [List.length_append]; show 8+_≤_; omega
   refine entH tab_ok (hold_gk hg) [.a [.i .i64 c.ca,.i .i64 c.fl,.i .i64 c.ft,.i .i64 c.se,.i .i64 c.dr,.i .i64 c.dw,.i .i64 c.ho,.i .i64 c.re,.i .i64 c.yi,.i .i64 c.qu,.i .i64 c.qo,.i .i64 c.lo,.i .i64 c.sl,.i .i64 c.rt,.i .i64 c.cp,.i .i64 c.tr,.i .i64 c.de,.i .i64 c.wi],tx s] Tryz.func3 Tryz.ntmps3 rfl rfl ?_
   repeat' ((conv=>whnf); first | refine sgo ⟨tab_ok⟩ ?_|refine br_not ?_|refine br_t rfl ?_|refine br_f rfl ?_|refine br_t (by assumption) ?_|refine br_f (by assumption) ?_|refine br_t (decide_eq_true (by assumption)) ?_|refine br_f (decide_eq_false (by assumption)) ?_|refine br_t (beq_iff_eq.2 (by assumption)) ?_|refine br_f (beq_eq_false_iff_ne.2 (by assumption)) ?_|intro b | refine drA ⟨tab_ok⟩ [] ?_|refine kpt ?_|refine br_t (decide_eq_true (by omega)) ?_|refine br_f (decide_eq_false (by omega)) ?_|refine wr_i ?_|refine br_t (by rfl) ?_|refine br_t (beq_self_eq_true _) ?_|refine br_f (by rfl) ?_|refine opP (pvLen (xs:=s) (by rfl) (by rfl) Tryz.underlying9) ?_|refine callN (f:=6) (ι:=Option Addr×Nat×Nat) (fun z=>.t [.v (.slice z.1 z.2.1 z.2.2),.i .i64 q,.i .i64 8]) (fun _=>nilO) (fun w1 hH=>hr w1) (fun z=>?_)|refine callH (f:=5) (.b true) (fun w1 hH=>ans25 (Hold.ob hH (A:=gkO) 0 rfl)) ?_|refine callS (f:=8) (tx t) (fun w1=>hset w1) ?_|refine opP (pvCat (xs:=t) (ys:=s) (by rfl) (by rfl) (by rfl) ⟨by omega,by omega⟩) ?_|refine callH (f:=7) (tx (e8T++d++[10])) (fun w1 hH=>hrun w1 (Hold.ob hH (A:=gkO) 0 rfl)) ?_|refine callS (f:=9) (tx d) (fun w1=>hdec w1) ?_|refine opP (pvCat (xs:=e8T) (ys:=d) (by rfl) (by rfl) (by rfl) ⟨hl1,by omega⟩) ?_|refine opP (pvCat (xs:=e8T++d) (ys:=[10]) (by rfl) (by rfl) (by rfl) ⟨hl2,by decide⟩) ?_|refine fin_s ?_|refine fin_r ?_ ?_|refine fin_e ?_ ?_)
   all_goals (show Value.bool (ByteArray.toList _ == ByteArray.toList _)=_; rw [beq_self_eq_true])
 ·refine entH tab_ok (hold_gk hg) [.a [.i .i64 c.ca,.i .i64 c.fl,.i .i64 c.ft,.i .i64 c.se,.i .i64 c.dr,.i .i64 c.dw,.i .i64 c.ho,.i .i64 c.re,.i .i64 c.yi,.i .i64 c.qu,.i .i64 c.qo,.i .i64 c.lo,.i .i64 c.sl,.i .i64 c.rt,.i .i64 c.cp,.i .i64 c.tr,.i .i64 c.de,.i .i64 c.wi],tx s] Tryz.func3 Tryz.ntmps3 rfl rfl ?_
  repeat' ((conv=>whnf); first | refine sgo ⟨tab_ok⟩ ?_|refine br_not ?_|refine br_t rfl ?_|refine br_f rfl ?_|refine br_t (by assumption) ?_|refine br_f (by assumption) ?_|refine br_t (decide_eq_true (by assumption)) ?_|refine br_f (decide_eq_false (by assumption)) ?_|refine br_t (beq_iff_eq.2 (by assumption)) ?_|refine br_f (beq_eq_false_iff_ne.2 (by assumption)) ?_|intro b | refine drA ⟨tab_ok⟩ [] ?_|refine kpt ?_|refine br_t (decide_eq_true (by omega)) ?_|refine br_f (decide_eq_false (by omega)) ?_|refine opP (pvLen (xs:=s) (by rfl) (by rfl) Tryz.underlying9) ?_|refine callH (f:=5) (.b true) (fun w1 hH=>ans25 (Hold.ob hH (A:=gkO) 0 rfl)) ?_|refine fin_s ?_|refine fin_r ?_ ?_|refine fin_e ?_ ?_)
  all_goals rfl
theorem wrongB (c:CfgV) (a:ByteArray) (hc:∀ n∈cfgI c,n64 n) (hm:a.size≤140737488351232) {w:World} (hg:GkS w):Calls Tryz.prog 3 #[.agg #[.int .i64 c.ca,.int .i64 c.fl,.int .i64 c.ft,.int .i64 c.se,.int .i64 c.dr,.int .i64 c.dw,.int .i64 c.ho,.int .i64 c.re,.int .i64 c.yi,.int .i64 c.qu,.int .i64 c.qo,.int .i64 c.lo,.int .i64 c.sl,.int .i64 c.rt,.int .i64 c.cp,.int .i64 c.tr,.int .i64 c.de,.int .i64 c.wi],.string a] w fun e w'=>e=.returned (.bool true)∧Since w w':=by
 obtain ⟨s,rfl⟩:∃ s:List UInt8,a=⟨s.toArray⟩:=⟨a.data.toList,by simp⟩
 exact wrongL c hc s (by rw [tx_size] at hm; omega) hg
end Sh
namespace Sh
open Go.RowKit Ba Mem En Go.Proofs.YtnoehplnmdajnaaGreatDoor.Ty Gw
open Byt (BV isB)
open Co (Hold.ob)
open Sx Sw Sp
set_option maxRecDepth 100000
attribute [local irreducible] Go.Calls
theorem rng_at {w:World} {g off k:Nat} {cs:List Value} {v:Value} (h:w.rangeAt g off cs) (hk:cs[k]?=some v):w.rangeAt g (off+k) [v]:=fun j u hj=>by
 cases j with
 | zero =>
  simp at hj; subst hj
  simpa using h k _ hk
 | succ j=>simp at hj
def sumW (ss:Nat→StepD):Nat→Int
 | 0=>0
 | k+1=>IntKind.i64.wrap (sumW ss k+((ss k).n:Int))
def sumT (ss:Nat→StepD):Nat→Nat
 | 0=>0
 | k+1=>sumT ss k+(ss k).n
def litB (ss:Nat→StepD) (len:Nat):Bool:=decide ((len:Int)≤300) && decide (sumW ss len≤20000)
theorem sum_le {ss:Nat→StepD}:∀ k:Nat,k≤300→(∀ i,i < k→StepW (ss i))→sumW ss k=sumT ss k∧sumT ss k≤140737488351232*k
 | 0,_,_=>⟨rfl,Nat.le_refl _⟩
 | k+1,hk,h=>by
  obtain ⟨h1,h2⟩:=sum_le k (by omega) (fun i hi=>h i (by omega))
  have h3:=(h k (by omega)).m
  have h4:sumT ss (k+1)=sumT ss k+(ss k).n:=rfl
  refine ⟨?_,by omega⟩
  show IntKind.i64.wrap (sumW ss k+((ss k).n:Int))=_
  rw [h1,h4,wr64 _ (by omega) (by omega)]
  push_cast; rfl
theorem lit_of {ss:Nat→StepD} {len:Nat} (h:litB ss len=true) (hw:∀ i,i < len→StepW (ss i)):len≤300∧sumT ss len≤20000:=by
 unfold litB at h
 simp only [Bool.and_eq_true,decide_eq_true_eq] at h
 obtain ⟨h1,h2⟩:=h
 have h3:len≤300:=by omega
 have h4:=sum_le len h3 hw
 exact ⟨h3,by rw [h4.1] at h2; omega⟩
theorem sumT_mono {ss:Nat→StepD}:∀ {i k:Nat},i≤k→sumT ss i≤sumT ss k
 | i,0,h=>by rw [Nat.le_zero.1 h]; exact Nat.le_refl _
 | i,k+1,h=>by
  rcases Nat.lt_or_ge i (k+1) with hk | hk
  ·exact Nat.le_trans (sumT_mono (i:=i) (k:=k) (by omega)) (Nat.le_add_right ..)
  ·rw [show i=k+1 by omega]; exact Nat.le_refl _
theorem sumT_at {ss:Nat→StepD} {i len:Nat} (h:i < len):sumT ss i+(ss i).n≤sumT ss len:=sumT_mono (ss:=ss) (i:=i+1) h
theorem hold_lt {a:Option Addr} {len nt:Nat} {ss:Nat→StepD} {w:World} (h:StR a len ss w):Hold ⟨Tryz.prog,tab,[],w,nt,[]⟩ [] [stO a len ss] w :=
 Hold.addObj (Hold.nil _ tab [] _ w) (stO a len ss) h (by intro k; cases k) (by intro r hr; cases hr) (by intro A hA; cases hA)
theorem light25 {a:Option Addr} {len cap:Nat} {ss:Nat→StepD} {w:World} (h:StR a len ss w) (hlen:len≤9223372036854775807):Calls Tryz.prog 10 #[.slice a len cap] w fun e w'=>e=.returned (.bool (litB ss len))∧Since w w':=by
 obtain ⟨gb,off,hb⟩:=Ek.rd_addr h.r
 refine entH tab_ok (hold_lt h) [.v (.slice a len cap)] Tryz.func10 Tryz.ntmps10 rfl rfl ?_
 repeat' ((conv=>whnf); first | refine sgo ⟨tab_ok⟩ ?_|refine br_not ?_|refine br_t rfl ?_|refine br_f rfl ?_|refine br_t (by assumption) ?_|refine br_f (by assumption) ?_|refine br_t (decide_eq_true (by assumption)) ?_|refine br_f (decide_eq_false (by assumption)) ?_|refine br_t (beq_iff_eq.2 (by assumption)) ?_|refine br_f (beq_eq_false_iff_ne.2 (by assumption)) ?_|intro b | refine drA ⟨tab_ok⟩ [] ?_|refine kpt ?_|refine fin_s ?_|refine fin_r ?_ ?_|refine fin_e ?_ ?_)
 conv=>whnf
 refine lp ⟨tab_ok⟩ (ι:={k:Nat // k≤len}) (fun x=>match x with | ⟨k,_⟩=>⟨[(0,.v (.slice a len cap)),(3,.i .i64 (sumW ss k)),(4,.i .i64 (k:Int))],[],[stO a len ss]⟩) (fun k=>len - k.1) ⟨0,Nat.zero_le _⟩ (wk ?_) ?_
 ·repeat' (first | exact trivial | rfl | ((conv=>whnf); refine And.intro ?_ ?_))
 rintro ⟨k,hk⟩
 by_cases hlt:k < len
 ·have hb:=hb (by omega)
  subst hb
  repeat' ((conv=>whnf); first | refine sgo ⟨tab_ok⟩ ?_|refine br_not ?_|refine br_t rfl ?_|refine br_f rfl ?_|refine br_t (by assumption) ?_|refine br_f (by assumption) ?_|refine br_t (decide_eq_true (by assumption)) ?_|refine br_f (decide_eq_false (by assumption)) ?_|refine br_t (beq_iff_eq.2 (by assumption)) ?_|refine br_f (beq_eq_false_iff_ne.2 (by assumption)) ?_|intro b | refine drA ⟨tab_ok⟩ [] ?_|refine kpt ?_|refine br_t (decide_eq_true (by omega)) ?_|refine br_f (decide_eq_false (by omega)) ?_|refine wr_i ?_|refine wr_lit ?_|refine opiv ⟨tab_ok⟩ (by rfl) (by rfl) (by rfl) (by rfl) (by rfl) (by rfl) ⟨by omega,by omega⟩ ?_|refine puiv ⟨tab_ok⟩ (by rfl) (by rfl) (by rfl) (by rfl) (by rfl) (by rfl) ⟨by omega,by omega⟩ ?_|refine opfv ⟨tab_ok⟩ (by rfl) (by rfl) (by rfl) (by rfl) ?_|refine pufv ⟨tab_ok⟩ (by rfl) (by rfl) (by rfl) (by rfl) ?_|refine opxc (g:=gb) (off:=off+k*4+3) (.v (.slice (ss k).A (ss k).n (ss k).c)) (fun w hH=>rng_at (Ek.rd_rng (StR.r (Hold.ob hH (A:=stO (some ⟨gb,off,none⟩) len ss) 0 rfl)) hlt) rfl) ⟨tab_ok⟩ (by rfl) (by rfl) (by simp only [Go.WideShapes.add_plain]; rfl) ?_|refine En.back ⟨k+1,by omega⟩ (wk ?_) ?_|refine fin_s ?_|refine fin_r ?_ ?_|refine fin_e ?_ ?_)
  all_goals first | (show len - (k+1) < len - k; omega)|skip
  all_goals (repeat' (first | exact trivial | rfl | ((conv=>whnf); refine And.intro ?_ ?_)))
 ·obtain rfl:k=len:=by omega
  repeat' ((conv=>whnf); first | refine sgo ⟨tab_ok⟩ ?_|refine br_not ?_|refine br_t rfl ?_|refine br_f rfl ?_|refine br_t (by assumption) ?_|refine br_f (by assumption) ?_|refine br_t (decide_eq_true (by assumption)) ?_|refine br_f (decide_eq_false (by assumption)) ?_|refine br_t (beq_iff_eq.2 (by assumption)) ?_|refine br_f (beq_eq_false_iff_ne.2 (by assumption)) ?_|intro b | refine drA ⟨tab_ok⟩ [] ?_|refine kpt ?_|refine br_t (decide_eq_true (by omega)) ?_|refine br_f (decide_eq_false (by omega)) ?_|refine br_dec (fun h=>?_) (fun h=>?_)|refine br_eq (fun h=>?_) (fun h=>?_)|refine br_b (fun h=>?_) (fun h=>?_)|refine fin_s ?_|refine fin_r ?_ ?_|refine fin_e ?_ ?_)
  all_goals (simp [den,litB, *])
theorem sz_at {H:Type} {P:Program} {ts:List TypeId} {ds:List (DataW H)} (h:(DataW.weightsEach P ts ds).all (·≤reachBytes)=true) {j:Nat} {t:TypeId} {d:DataW H} (ht:ts[j]?=some t) (hd:ds[j]?=some d):∀ u∈d.weights P t,u≤reachBytes:=fun u hu=>by
  have:=List.all_eq_true.1 h u (DataW.weights_mem_each ht hd u hu)
  exact of_decide_eq_true this
theorem steps_in {H:Type} {enc:TypeId×Value→H} {x:DataW H×List MemPlace} {a:Option Addr} {len cap:Nat} {w:World} (hx:∃ m,DataW.trod enc Tryz.prog w 0 (fun _=>true) true m 25 (Value.cells (.slice a len cap)).toList=some x) (hU:∀ u∈x.1.weights Tryz.prog 25,u≤reachBytes):∃ ss,StR a len ss w∧(∀ i,i < len→StepW (ss i))∧len≤9223372036854775807:=by
 obtain ⟨m,hm⟩:=hx
 exact steps_open hm (fun u hu=>hU u hu)
theorem hold_gs {a:Option Addr} {len nt:Nat} {ss:Nat→StepD} {w:World} (hg:GkS w) (h:StR a len ss w):Hold ⟨Tryz.prog,tab,[],w,nt,[]⟩ [] [gkO,stO a len ss] w :=
 Hold.addObj (hold_gk hg) (stO a len ss) h (by intro k; cases k) (by intro r hr; cases hr) (by intro A hA hw; rw [List.mem_singleton.1 hA] at hw; rcases hw with h | h <;> cases h)
theorem stL_succ (n:Nat) (ss:Nat→StepD):stL (n+1) ss=stL n ss++[ss n]:=by
 unfold stL
 rw [List.range_succ,List.map_append]; rfl
theorem printL_app (l m:List StepD):printL (l++m)=printL l++printL m:=by unfold printL; rw [List.flatMap_append]
theorem print_le {a:Option Addr} {len:Nat} {ss:Nat→StepD} {w:World} (h:StR a len ss w) (hw:∀ i,i < len→StepW (ss i)):∀ k,k≤len→(printL (stL k ss)).length≤70*k+2*sumT ss k
 | 0,_=>Nat.zero_le _
 | k+1,hk=>by
  have h1:=print_le h hw k (by omega)
  have hW:=hw k (by omega)
  have h2:=lineL_len (zs:=(ss k).d) (w_64 hW.k) (w_64 hW.a) (w_64 hW.b)
  have h3:=hW.l
  rw [stL_succ,printL_app,List.length_append]
  have e:printL [ss k]=lineL (ss k).k (ss k).a (ss k).b (ss k).d:=by unfold printL; simp
  have e2:sumT ss (k+1)=sumT ss k+(ss k).n:=rfl
  rw [e,e2]
  omega
end Sh
namespace Sh
open Go.RowKit Ba Mem En Go.Proofs.YtnoehplnmdajnaaGreatDoor.Ty Gw
open Co (Hold.ob)
open Sx Sw Sp
set_option maxRecDepth 100000
theorem c_ne {c:UInt8} (h:c≠10):(c.toNat:Int)≠10:=by
 intro e
 have:c.toNat=10:=by omega
 exact h (UInt8.toNat_inj.1 this)
attribute [local irreducible] Go.Calls printL stL litB Sx.setV
set_option maxHeartbeats 16000000 in
theorem firstF {a:Option Addr} {len cap:Nat} {ss:Nat→StepD} {w:World} (hg:GkS w) (h:StR a len ss w) (hw:∀ i,i < len→StepW (ss i)) (hlen:len≤9223372036854775807) (t:List UInt8) (hm:t.length≤9223372036854775807):Calls Tryz.prog 4 #[.string ⟨t.toArray⟩,.slice a len cap] w fun e w'=>e=.returned (.bool true)∧Since w w':=by
 by_cases hs:t.length≤2000
 ·cases hb:litB ss len with
  | false =>
   refine entH tab_ok (hold_gs hg h) [tx t,.v (.slice a len cap)] Tryz.func4 Tryz.ntmps4 rfl rfl ?_
   repeat' ((conv=>whnf); first | refine sgo ⟨tab_ok⟩ ?_|refine br_not ?_|refine br_t rfl ?_|refine br_f rfl ?_|refine br_t (by assumption) ?_|refine br_f (by assumption) ?_|refine br_t (decide_eq_true (by assumption)) ?_|refine br_f (decide_eq_false (by assumption)) ?_|refine br_t (beq_iff_eq.2 (by assumption)) ?_|refine br_f (beq_eq_false_iff_ne.2 (by assumption)) ?_|refine drA ⟨tab_ok⟩ [] ?_|refine kpt ?_|refine br_t (decide_eq_true (by omega)) ?_|refine br_f (decide_eq_false (by omega)) ?_|refine opP (pvLen (xs:=t) (by rfl) (by rfl) Tryz.underlying9) ?_|refine callH (f:=10) (.b false) (fun w1 hH=>by have:=light25 (cap:=cap) (Hold.ob hH (A:=stO a len ss) 1 rfl) hlen; rw [hb] at this; exact this) ?_|refine callH (f:=5) (.b true) (fun w1 hH=>ans25 (Hold.ob hH (A:=gkO) 0 rfl)) ?_|refine br_t (by rfl) ?_|refine br_f (by rfl) ?_|refine fin_s ?_|refine fin_r ?_ ?_|refine fin_e ?_ ?_)
   all_goals rfl
  | true =>
   obtain ⟨h3,h4⟩:=lit_of hb hw
   have hn:∀ i,i < len→(ss i).n≤20000:=fun i hi=>by have:=sumT_at (ss:=ss) hi; omega
   have hL:=print_le h hw len (Nat.le_refl _)
   obtain ⟨L,hLe⟩:∃ L,printL (stL len ss)=L:=⟨_,rfl⟩
   have hB:∀ i,i < len→StB (ss i):=fun i hi=>⟨w_64 (hw i hi).k,w_64 (hw i hi).a,w_64 (hw i hi).b,by have:=hn i hi; omega⟩
   have hr:=fun (w:World) (h:StR a len ss w)=>printR (c:=cap) h hB (by omega) (by omega)
   rw [hLe] at hL hr
   have hl1:(t++[10]).length≤2001:=by rw [List.length_append]; simp only [List.length_cons,List.length_nil]; omega
   obtain ⟨yes,hy⟩:∃ y:Bool,(Sx.setV (t++[10])).isSome=y:=⟨_,rfl⟩
   obtain ⟨a0,a1,a2,a3,a4,a5,a6,a7,a8,a9,a10,a11,a12,a13,a14,a15,a16,a17,hq⟩:=at18 (se_18 (t++[10]))
   have hsr:∀ w:World,Calls Tryz.prog 11 #[.string ⟨(t++[10]).toArray⟩] w fun e w'=>e=.returned (.tuple #[.agg #[.int .i64 a0,.int .i64 a1,.int .i64 a2,.int .i64 a3,.int .i64 a4,.int .i64 a5,.int .i64 a6,.int .i64 a7,.int .i64 a8,.int .i64 a9,.int .i64 a10,.int .i64 a11,.int .i64 a12,.int .i64 a13,.int .i64 a14,.int .i64 a15,.int .i64 a16,.int .i64 a17],.bool yes])∧Since w w':=fun w=>(setR (t++[10]) (by omega) w).mono (by rintro e w' ⟨rfl,h⟩; rw [hq,hy]; exact ⟨rfl,h⟩)
   refine entH tab_ok (hold_gs hg h) [tx t,.v (.slice a len cap)] Tryz.func4 Tryz.ntmps4 rfl rfl ?_
   repeat' ((conv=>whnf); first | refine sgo ⟨tab_ok⟩ ?_|refine br_not ?_|refine br_t rfl ?_|refine br_f rfl ?_|refine br_t (by assumption) ?_|refine br_f (by assumption) ?_|refine br_t (decide_eq_true (by assumption)) ?_|refine br_f (decide_eq_false (by assumption)) ?_|refine br_t (beq_iff_eq.2 (by assumption)) ?_|refine br_f (beq_eq_false_iff_ne.2 (by assumption)) ?_|refine drA ⟨tab_ok⟩ [] ?_|refine kpt ?_|refine br_t (decide_eq_true (by omega)) ?_|refine br_f (decide_eq_false (by omega)) ?_|refine opP (pvLen (xs:=t) (by rfl) (by rfl) Tryz.underlying9) ?_|refine callH (f:=10) (.b true) (fun w1 hH=>by have:=light25 (cap:=cap) (Hold.ob hH (A:=stO a len ss) 1 rfl) hlen; rw [hb] at this; exact this) ?_|refine br_f (by rfl) ?_|refine fin_s ?_|refine fin_r ?_ ?_|refine fin_e ?_ ?_)
   conv=>whnf
   refine lp ⟨tab_ok⟩ (ι:={i:Nat // i≤t.length∧∀ j c,j < i→t[j]?=some c→c≠10}) (fun u=>match u with | ⟨i,_⟩=>⟨[(0,tx t),(1,.v (.slice a len cap)),(5,.i .i64 (i:Int))],[],[gkO,stO a len ss]⟩) (fun u=>t.length - u.1) ⟨0,Nat.zero_le _,fun j c hj=>by omega⟩ (wk ?_) ?_
   ·repeat' (first | exact trivial | rfl | ((conv=>whnf); refine And.intro ?_ ?_))
   rintro ⟨i,hi,hno⟩
   by_cases hlt:i < t.length
   ·obtain ⟨c,hc⟩:∃ c,t[i]?=some c:=⟨_,List.getElem?_eq_getElem hlt⟩
    by_cases h10:c=10
    ·have h11:(c.toNat:Int)=10:=by rw [h10]; rfl
     repeat' ((conv=>whnf); first | refine sgo ⟨tab_ok⟩ ?_|refine br_not ?_|refine br_t rfl ?_|refine br_f rfl ?_|refine br_t (by assumption) ?_|refine br_f (by assumption) ?_|refine br_t (decide_eq_true (by assumption)) ?_|refine br_f (decide_eq_false (by assumption)) ?_|refine br_t (beq_iff_eq.2 (by assumption)) ?_|refine br_f (beq_eq_false_iff_ne.2 (by assumption)) ?_|refine drA ⟨tab_ok⟩ [] ?_|refine kpt ?_|refine br_t (decide_eq_true (by omega)) ?_|refine br_f (decide_eq_false (by omega)) ?_|refine opP (pvLen (xs:=t) (by rfl) (by rfl) Tryz.underlying9) ?_|refine opP (pvIdx (xs:=t) (j:=i) (by rfl) (by rfl) (by rfl) rfl hc Tryz.underlying9) ?_|refine callH (f:=5) (.b true) (fun w1 hH=>ans25 (Hold.ob hH (A:=gkO) 0 rfl)) ?_|refine fin_s ?_|refine fin_r ?_ ?_|refine fin_e ?_ ?_)
     all_goals rfl
    ·have h11:=c_ne h10
     have hno2:∀ j d,j < i+1→t[j]?=some d→d≠10:=fun j d hj hd=>by
      rcases Nat.lt_or_ge j i with h | h
      ·exact hno j d h hd
      ·have:j=i:=by omega
       subst this
       rw [hc] at hd
       injection hd with hd
       subst hd
       exact h10
     repeat' ((conv=>whnf); first | refine sgo ⟨tab_ok⟩ ?_|refine br_not ?_|refine br_t rfl ?_|refine br_f rfl ?_|refine br_t (by assumption) ?_|refine br_f (by assumption) ?_|refine br_t (decide_eq_true (by assumption)) ?_|refine br_f (decide_eq_false (by assumption)) ?_|refine br_t (beq_iff_eq.2 (by assumption)) ?_|refine br_f (beq_eq_false_iff_ne.2 (by assumption)) ?_|refine drA ⟨tab_ok⟩ [] ?_|refine kpt ?_|refine br_t (decide_eq_true (by omega)) ?_|refine br_f (decide_eq_false (by omega)) ?_|refine wr_i ?_|refine opP (pvLen (xs:=t) (by rfl) (by rfl) Tryz.underlying9) ?_|refine opP (pvIdx (xs:=t) (j:=i) (by rfl) (by rfl) (by rfl) rfl hc Tryz.underlying9) ?_|refine En.back ⟨i+1,by omega,hno2⟩ (wkd ?_) ?_|refine fin_s ?_|refine fin_r ?_ ?_|refine fin_e ?_ ?_)
     all_goals first | (show t.length - (i+1) < t.length - i; omega)|skip
     all_goals (repeat' (first | exact trivial | rfl | ((conv=>whnf); refine And.intro ?_ ?_)))
   ·have hall:∀ c∈t,c≠10:=fun c hc=>by
     obtain ⟨j,hj,rfl⟩:=List.getElem_of_mem hc
     exact hno j _ (by omega) (List.getElem?_eq_getElem hj)
    cases yes with
    | true =>
     have hrun:=fun (w:World) (hg:GkS w)=>run81 (s:=t) (by omega) (by rw [cut_none hall]; exact set0) hg
     repeat' ((conv=>whnf); first | refine sgo ⟨tab_ok⟩ ?_|refine br_not ?_|refine br_t rfl ?_|refine br_f rfl ?_|refine br_t (by assumption) ?_|refine br_f (by assumption) ?_|refine br_t (decide_eq_true (by assumption)) ?_|refine br_f (decide_eq_false (by assumption)) ?_|refine br_t (beq_iff_eq.2 (by assumption)) ?_|refine br_f (beq_eq_false_iff_ne.2 (by assumption)) ?_|intro b | refine drA ⟨tab_ok⟩ [] ?_|refine kpt ?_|refine br_t (decide_eq_true (by omega)) ?_|refine br_f (decide_eq_false (by omega)) ?_|refine br_t (by rfl) ?_|refine br_t (beq_self_eq_true _) ?_|refine opP (pvLen (xs:=t) (by rfl) (by rfl) Tryz.underlying9) ?_|refine opP (pvCat (xs:=t) (ys:=[10]) (by rfl) (by rfl) (by rfl) ⟨by omega,by decide⟩) ?_|refine callS (f:=11) (.t [.a [.i .i64 a0,.i .i64 a1,.i .i64 a2,.i .i64 a3,.i .i64 a4,.i .i64 a5,.i .i64 a6,.i .i64 a7,.i .i64 a8,.i .i64 a9,.i .i64 a10,.i .i64 a11,.i .i64 a12,.i .i64 a13,.i .i64 a14,.i .i64 a15,.i .i64 a16,.i .i64 a17],.b true]) (fun w1=>hsr w1) ?_|refine callH (f:=5) (.b true) (fun w1 hH=>ans25 (Hold.ob hH (A:=gkO) 0 rfl)) ?_|refine callH (f:=7) (tx e81) (fun w1 hH=>hrun w1 (Hold.ob hH (A:=gkO) 0 rfl)) ?_|refine fin_s ?_|refine fin_r ?_ ?_|refine fin_e ?_ ?_)
     all_goals (show Value.bool (ByteArray.toList ⟨e81.toArray⟩ == ByteArray.toList ⟨e81.toArray⟩)=_; rw [beq_self_eq_true])
    | false =>
     obtain ⟨c1,c2,c3⟩:=cut_line (r:=L) hall
     have hsv:Sx.setV (t++[10])=none:=by simpa using hy
     have hrun:=fun (w:World) (hg:GkS w)=>run81 (s:=t++[10]++L) (by rw [List.length_append]; omega) (by rw [c1,c2]; exact hsv) hg
     repeat' ((conv=>whnf); first | refine sgo ⟨tab_ok⟩ ?_|refine br_not ?_|refine br_t rfl ?_|refine br_f rfl ?_|refine br_t (by assumption) ?_|refine br_f (by assumption) ?_|refine br_t (decide_eq_true (by assumption)) ?_|refine br_f (decide_eq_false (by assumption)) ?_|refine br_t (beq_iff_eq.2 (by assumption)) ?_|refine br_f (beq_eq_false_iff_ne.2 (by assumption)) ?_|intro b | refine drA ⟨tab_ok⟩ [] ?_|refine kpt ?_|refine br_t (decide_eq_true (by omega)) ?_|refine br_f (decide_eq_false (by omega)) ?_|refine br_f (by rfl) ?_|refine br_t (by rfl) ?_|refine br_t (beq_self_eq_true _) ?_|refine opP (pvLen (xs:=t) (by rfl) (by rfl) Tryz.underlying9) ?_|refine opP (pvCat (xs:=t) (ys:=[10]) (by rfl) (by rfl) (by rfl) ⟨by omega,by decide⟩) ?_|refine opP (pvCat (xs:=t++[10]) (ys:=L) (by rfl) (by rfl) (by rfl) ⟨by omega,by omega⟩) ?_|refine callS (f:=11) (.t [.a [.i .i64 a0,.i .i64 a1,.i .i64 a2,.i .i64 a3,.i .i64 a4,.i .i64 a5,.i .i64 a6,.i .i64 a7,.i .i64 a8,.i .i64 a9,.i .i64 a10,.i .i64 a11,.i .i64 a12,.i .i64 a13,.i .i64 a14,.i .i64 a15,.i .i64 a16,.i .i64 a17],.b false]) (fun w1=>hsr w1) ?_|refine callH (f:=12) (tx L) (fun w1 hH=>hr w1 (Hold.ob hH (A:=stO a len ss) 1 rfl)) ?_|refine callH (f:=5) (.b true) (fun w1 hH=>ans25 (Hold.ob hH (A:=gkO) 0 rfl)) ?_|refine callH (f:=7) (tx e81) (fun w1 hH=>hrun w1 (Hold.ob hH (A:=gkO) 0 rfl)) ?_|refine fin_s ?_|refine fin_r ?_ ?_|refine fin_e ?_ ?_)
     all_goals (show Value.bool (ByteArray.toList ⟨e81.toArray⟩ == ByteArray.toList ⟨e81.toArray⟩)=_; rw [beq_self_eq_true])
 ·refine entH tab_ok (hold_gs hg h) [tx t,.v (.slice a len cap)] Tryz.func4 Tryz.ntmps4 rfl rfl ?_
  repeat' ((conv=>whnf); first | refine sgo ⟨tab_ok⟩ ?_|refine br_not ?_|refine br_t rfl ?_|refine br_f rfl ?_|refine br_t (by assumption) ?_|refine br_f (by assumption) ?_|refine br_t (decide_eq_true (by assumption)) ?_|refine br_f (decide_eq_false (by assumption)) ?_|refine br_t (beq_iff_eq.2 (by assumption)) ?_|refine br_f (beq_eq_false_iff_ne.2 (by assumption)) ?_|refine drA ⟨tab_ok⟩ [] ?_|refine kpt ?_|refine br_t (decide_eq_true (by omega)) ?_|refine br_f (decide_eq_false (by omega)) ?_|refine opP (pvLen (xs:=t) (by rfl) (by rfl) Tryz.underlying9) ?_|refine callH (f:=5) (.b true) (fun w1 hH=>ans25 (Hold.ob hH (A:=gkO) 0 rfl)) ?_|refine fin_s ?_|refine fin_r ?_ ?_|refine fin_e ?_ ?_)
  all_goals rfl
theorem firstB {H:Type} {enc:TypeId×Value→H} {x:DataW H×List MemPlace} {a:Option Addr} {len cap:Nat} {w:World} (b:ByteArray) (hb:b.size≤140737488351232) (hg:GkS w) (hx:∃ m,DataW.trod enc Tryz.prog w 0 (fun _=>true) true m 25 (Value.cells (.slice a len cap)).toList=some x) (hU:∀ u∈x.1.weights Tryz.prog 25,u≤reachBytes):Calls Tryz.prog 4 #[.string b,.slice a len cap] w fun e w'=>e=.returned (.bool true)∧Since w w':=by
 obtain ⟨s,rfl⟩:∃ s:List UInt8,b=⟨s.toArray⟩:=⟨b.data.toList,by simp⟩
 obtain ⟨ss,h1,h2,h3⟩:=steps_in hx hU
 exact firstF hg h1 h2 h3 s (by rw [tx_size] at hb; omega)
end Sh
namespace Sp
open Go.ChangeShapes Go.WideShapes Go.ChangeAt Go.WideMaps Go.WideElems Go.RowKit
open Ba Mem En
theorem door_met (os:Os) (args:Array Value):laidMetH Tryz.prog Rows.shellWrongRow.laid ((World.laidAll Tryz.prog os Rows.shellWrongRow.laid).forCall (fun _ _=>0) ⟨#[],args,[]⟩).memory:=by
 rw [MakeChecks.laidMetH_plain _ _ _ (by kernel_rfl)]
 exact laidMet_laidAll _ (by kernel_rfl) (by kernel_rfl)
theorem tab_data:(Rows.laid_internal_strconv_uint64pow10:DataW Unit)=Lib.tabData .u64 Lib.pow10Tab:=by kernel_rfl
theorem star : "*" ++ "errors.errorString" = "*errors.errorString" := by decide
theorem row_err (u:TypeId) (h:Tryz.prog.typeName? 3 u=some "*errors.errorString"):u=311 :=
 typeName_ptr_named (nm := "errors.errorString") (by rw [star]; kernel_rfl) (by kernel_rfl) (by decide) u (by rw [star]; exact h)
theorem gE:Tryz.prog.globalNamed "strconv.ErrSyntax" = some 1:=by kernel_rfl
theorem gR:Tryz.prog.globalNamed "strconv.ErrRange" = some 2:=by kernel_rfl
theorem g15_is:g15=1:=by kernel_rfl
theorem g16_is:g16=2:=by kernel_rfl
theorem of_laid {W:World} (hs:W.ShapedOpen Tryz.prog) (h:laidMetH Tryz.prog Rows.shellWrongRow.laid W):GkS W:=by
 rw [MakeChecks.laidMetH_plain _ _ _ (by kernel_rfl)] at h
 have h1:laidMet Tryz.prog [("math/bits.deBruijn32tab", Rows.laid_math_bits_deBruijn32tab),("math/bits.deBruijn64tab", Rows.laid_math_bits_deBruijn64tab),("internal/strconv.uint64pow10", Rows.laid_internal_strconv_uint64pow10),("unicode/utf8.acceptRanges", Rows.laid_unicode_utf8_acceptRanges),("strconv.ErrRange", Rows.laid_strconv_ErrRange),("strconv.ErrSyntax", Rows.laid_strconv_ErrSyntax),("unicode/utf8.first", Rows.laid_unicode_utf8_first)] W:=h
 have h2:=laidMet.tail (laidMet.tail h1)
 have h3:=laidMet.tail (laidMet.tail h2)
 have h4:=laidMet.tail h3
 rw [tab_data] at h2
 obtain ⟨a0,s0,hv0,_⟩:=laid_sentinel h3 gR (by kernel_rfl) Tryz.underlying108 row_err Tryz.underlying311 Tryz.underlying313 rfl rfl Tryz.underlying9 (by kernel_rfl) (by kernel_rfl)
 obtain ⟨a1,s1,hv1,_⟩:=laid_sentinel h4 gE (by kernel_rfl) Tryz.underlying108 row_err Tryz.underlying311 Tryz.underlying313 rfl rfl Tryz.underlying9 (by kernel_rfl) (by kernel_rfl)
 refine ⟨Tryz.laysM146.s1_3 W hs,Lib.tabIs_of_head (g:=3) (by kernel_rfl) (by kernel_rfl) Tryz.underlying273 Tryz.underlying102 (by kernel_rfl) (by kernel_rfl) h2,⟨.iface 311 (.pointer (some a1)),by rw [g15_is]; exact World.var?_cell gE hv1 0,.inr ⟨_,_,rfl⟩⟩,⟨.iface 311 (.pointer (some a0)),by rw [g16_is]; exact World.var?_cell gR hv0 0,.inr ⟨_,_,rfl⟩⟩⟩
end Sp
namespace Sh
open Go.RowKit Ba Mem En Go.Proofs.YtnoehplnmdajnaaGreatDoor.Ty Gw
open Sx Sw Sp
theorem cfg_ok {x0 x1 x2 x3 x4 x5 x6 x7 x8 x9 x10 x11 x12 x13 x14 x15 x16 x17:Int} (h0:(Lit.int .i64 x0).wf=true) (h1:(Lit.int .i64 x1).wf=true) (h2:(Lit.int .i64 x2).wf=true) (h3:(Lit.int .i64 x3).wf=true) (h4:(Lit.int .i64 x4).wf=true) (h5:(Lit.int .i64 x5).wf=true) (h6:(Lit.int .i64 x6).wf=true) (h7:(Lit.int .i64 x7).wf=true) (h8:(Lit.int .i64 x8).wf=true) (h9:(Lit.int .i64 x9).wf=true) (h10:(Lit.int .i64 x10).wf=true) (h11:(Lit.int .i64 x11).wf=true) (h12:(Lit.int .i64 x12).wf=true) (h13:(Lit.int .i64 x13).wf=true) (h14:(Lit.int .i64 x14).wf=true) (h15:(Lit.int .i64 x15).wf=true) (h16:(Lit.int .i64 x16).wf=true) (h17:(Lit.int .i64 x17).wf=true):∀ n∈cfgI ⟨x0,x1,x2,x3,x4,x5,x6,x7,x8,x9,x10,x11,x12,x13,x14,x15,x16,x17⟩,n64 n:=by
 intro n hn
 unfold cfgI at hn
 simp only [List.mem_cons,List.not_mem_nil,or_false] at hn
 rcases hn with rfl | rfl | rfl | rfl | rfl | rfl | rfl | rfl | rfl | rfl | rfl | rfl | rfl | rfl | rfl | rfl | rfl | rfl <;> (apply w_64; assumption)
end Sh
namespace Opn
open Go.RowKit
section
variable {P:Program} {W:World} {base:Nat}
theorem open_agg {t:TypeId} {v:Value} {ts:List TypeId} {fs} (hu:P.underlying t=some (.struct fs)) (hts:P.cellTypes P.depth t=some ts) (hn:P.cellsOf t=ts.length) (h:Value.okWide P W .any base t v) :
  ∃ cs:Array Value,v=.agg cs∧cs.size=ts.length∧∀ (i:Nat) (u:TypeId),ts[i]?=some u→∃ c,cs[i]?=some c∧Cell.okWide P W .any base u c:=by
 unfold Value.okWide at h
 rw [hu] at h
 obtain ⟨cs,rfl,hsz,ts',hts',_,hc⟩:=h
 rw [hts] at hts'
 obtain rfl:ts=ts':=by injection hts'
 refine ⟨cs,rfl,by omega,fun i u hi=>?_⟩
 obtain ⟨hlt,_⟩:=List.getElem?_eq_some_iff.1 hi
 have hcs:cs[i]?=some (cs[i]'(by omega)):=Array.getElem?_eq_getElem (by omega)
 obtain ⟨u',hu',hok⟩:=hc i _ hcs
 rw [Nat.mod_eq_of_lt hlt,hi] at hu'
 obtain rfl:u=u':=by injection hu'
 exact ⟨_,hcs,hok⟩
theorem cell_int {u:TypeId} {k:IntKind} {c:Value} (hu:P.underlying u=some (.int k)) (h:Cell.okWide P W .any base u c):∃ x,c=.int k x∧(Lit.int k x).wf=true:=by
 unfold Cell.okWide at h
 rw [hu] at h
 simp only at h
 unfold Cell.ok at h
 rw [hu] at h
 cases c with
 | int k' x =>
  simp only at h
  obtain ⟨rfl,hx⟩:=h
  exact ⟨x,rfl,by simpa [Lit.wf,IntKind.has] using hx⟩
 | _=>simp at h
theorem arr_of {cs:Array Value} {l:List Value} (hn:cs.size=l.length) (h:∀ (i:Nat) (c:Value),l[i]?=some c→cs[i]?=some c):cs=l.toArray:=by
 apply Array.ext_getElem?
 intro i
 rcases Nat.lt_or_ge i l.length with hi | hi
 ·have e:=List.getElem?_eq_getElem hi
  rw [h i _ e]
  simp [hi]
 ·rw [Array.getElem?_eq_none (by omega)]
  simp [hi]
def Each (cs:Array Value) (i:Nat) (l:List Value):Prop:=∀ (j:Nat) (c:Value),l[j]?=some c→cs[i+j]?=some c
theorem each_nil {cs:Array Value} {i:Nat}:Each cs i []:=fun _ _ h=>by simp at h
theorem each_cons {cs:Array Value} {i:Nat} {c:Value} {l:List Value} (h:cs[i]?=some c) (k:Each cs (i+1) l):Each cs i (c::l):=by
 intro j d hd
 cases j with
 | zero =>
  have:c=d:=by simpa using hd
  subst this; exact h
 | succ j =>
  have e:i+(j+1)=i+1+j:=by omega
  rw [e]
  exact k j d (by simpa using hd)
theorem arr_each {cs:Array Value} {l:List Value} (hn:cs.size=l.length) (h:Each cs 0 l):cs=l.toArray :=
 arr_of hn fun i c hi=>by have:=h i c hi; rwa [Nat.zero_add] at this
end
end Opn
end Go.Proofs.YtnoehplnmdajnaaGreatDoor
