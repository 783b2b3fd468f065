/-
  Wanted: part 15.
  No condition.
-/
import Derived.Test.YtepfmfalebmcnaaGreatDoorQH14
import Derived.Shelf.Strings.Builder1
import Derived.Shelf.Strings.BuilderF
import Derived.Shelf.Strings.BuilderK
import Derived.Shelf.Strconv.Itoa3
import Derived.Test.YtepfmfalebmcnaaGreatDoorProg
import Derived.Lib.OthersKept
import Derived.Lib.AppendIntMem
import Derived.Lib.ConvBytes
import Derived.Laws.Concat
import Derived.Lib.ItoaLen
import Derived.Test.YtepfmfalebmcnaaGreatDoorRows
import Derived.ProofKit
import Derived.LaidMore
import Derived.Stop.Joined
import Derived.Lib.LaidTab
import Derived.Stop.LaidErr
import Derived.Lib.ItoaNum
set_option linter.all false
namespace Go.Proofs.YtepfmfalebmcnaaGreatDoor
namespace Gw
open Go.RowKit Ba Mem En Go.Proofs.YtepfmfalebmcnaaGreatDoor.Ty Mp
open Fm (nextF frames frm)
open Fq (SO)
open Byt (BV isB)
open Co (KV Pt KW newK tickK Hold.ob)
open Gr (doR)
set_option maxRecDepth 100000
attribute [local irreducible] Go.Calls
section
variable {gq M N n T:Nat} {c:CfgV} {x:Gp} {ep sa sb:Int} {K K':KV} {xs zs:List Int} {Sk Sk' Ss:List Nat} {D D':Fam} {w w':World} {dA:Option Addr} {dn dc:Nat}
theorem hallX (h:GWt gq c x M N K ep xs Sk D Ss w) (hw:K.G.waits.length≤10000):Calls Tryz.prog 73 #[.pointer (some ⟨gq,0,none⟩),.agg #[.int .i64 3,.int .i64 sa,.int .i64 sb,.slice dA dn dc]] w fun e w'=>∃ S',e=.returned (.tuple #[.slice none 0 0,.int .i64 (Gr.hallR K.G sa sb).2])∧GWt gq c x M N { K with G:=(doR K.G 1 sa sb (sb == 1)).1 } ep xs S' D Ss w'∧Upd (gwF gq x Sk D Ss) w w'∧∀ g∈gwF gq x S' D Ss,g∈gwF gq x Sk D Ss∨w.heap.size≤g :=
 (hallT h.b h.k h.g1 hw).mono (by
  rintro e w' ⟨S',rfl,h1,h2,h3⟩
  obtain ⟨a1,a2,a3⟩:=h.kg h1 h2 h3
  exact ⟨S',rfl,a1,a2,a3⟩)
theorem hallD (h:GWt gq c x M N K ep xs Sk D Ss w) (hw:K.G.waits.length≤10000):Calls Tryz.prog 24 #[.pointer (some ⟨gq,0,none⟩),.agg #[.int .i64 3,.int .i64 sa,.int .i64 sb,.slice dA dn dc]] w fun e w'=>∃ S',e=.returned (.tuple #[.slice none 0 0,.int .i64 (Gr.hallR K.G sa sb).2])∧GWt gq c x M N { K with G:=(doR K.G 1 sa sb (sb == 1)).1 } ep xs S' D Ss w'∧Upd (gwF gq x Sk D Ss) w w'∧∀ g∈gwF gq x S' D Ss,g∈gwF gq x Sk D Ss∨w.heap.size≤g:=by
 refine entH tab_ok (hold_w h) [.v (.pointer (some ⟨gq,0,none⟩)),.a [.i .i64 3,.i .i64 sa,.i .i64 sb,.v (.slice dA dn dc)]] Tryz.func24 Tryz.ntmps24 rfl rfl ?_
 repeat' (first | refine gs_ ?_|((conv=>whnf); first | intro b0 | refine And.intro ?_ ?_|refine callN (f:=53) (ι:=Nat) (fun b=>.v (.map (some b))) (fun b=>mpO Tryz.prog 3 b 8 (mtab kindL) true) (fun w1 hH=>(kindsT w1).mono (by rintro e w' ⟨b,rfl,h1,h2,h3⟩; exact ⟨b,rfl,h1,h2,fun g hg=>by rw [List.mem_singleton.1 hg]; exact h3⟩)) (fun b=>?_)|refine oplo (b:=b) (n:=8) (m:=mtab kindL) (k:=3) (e:=104) 1 _ (.f 73 []) true (by rfl) (by rfl) (by rfl) (by rfl) (fun w h=>h) (by kernel_rfl) (by kernel_rfl) (fun w=>rfl) (wf_small (by decide)) (by rfl) (by rfl) ?_|refine callO (f:=73) (A:=gwO gq c x M N K ep xs Sk D Ss true) 0 (fun _:List Nat=>.t [.v (.slice none 0 0),.i .i64 (Gr.hallR K.G sa sb).2]) (fun S'=>gwO gq c x M N { K with G:=(doR K.G 1 sa sb (sb == 1)).1 } ep xs S' D Ss true) (fun w hH hA=>hallX hA hw) (fun S'=>?_)|refine fin fun w' hH=>⟨S',rfl,Hold.ob hH (A:=gwO gq c x M N { K with G:=(doR K.G 1 sa sb (sb == 1)).1 } ep xs S' D Ss true) 0 rfl,hH.upd,fun g hg=>hH.own _ (List.mem_of_getElem? (i:=0) rfl) rfl g hg⟩|refine fin_s ?_))
theorem pressX (h:GWt gq c x M N K ep xs Sk D Ss w):Calls Tryz.prog 74 #[.pointer (some ⟨gq,0,none⟩),.agg #[.int .i64 4,.int .i64 sa,.int .i64 sb,.slice dA dn dc]] w fun e w'=>∃ S',e=.returned (.tuple #[.slice none 0 0,.int .i64 (Gr.pressR K.G sa sb).2])∧GWt gq c x M N { K with G:=(doR K.G 2 sa sb (sb == 1)).1 } ep xs S' D Ss w'∧Upd (gwF gq x Sk D Ss) w w'∧∀ g∈gwF gq x S' D Ss,g∈gwF gq x Sk D Ss∨w.heap.size≤g :=
 (pressT h.b h.k h.g1).mono (by
  rintro e w' ⟨S',rfl,h1,h2,h3⟩
  obtain ⟨a1,a2,a3⟩:=h.kg h1 h2 h3
  exact ⟨S',rfl,a1,a2,a3⟩)
theorem pressD (h:GWt gq c x M N K ep xs Sk D Ss w):Calls Tryz.prog 24 #[.pointer (some ⟨gq,0,none⟩),.agg #[.int .i64 4,.int .i64 sa,.int .i64 sb,.slice dA dn dc]] w fun e w'=>∃ S',e=.returned (.tuple #[.slice none 0 0,.int .i64 (Gr.pressR K.G sa sb).2])∧GWt gq c x M N { K with G:=(doR K.G 2 sa sb (sb == 1)).1 } ep xs S' D Ss w'∧Upd (gwF gq x Sk D Ss) w w'∧∀ g∈gwF gq x S' D Ss,g∈gwF gq x Sk D Ss∨w.heap.size≤g:=by
 refine entH tab_ok (hold_w h) [.v (.pointer (some ⟨gq,0,none⟩)),.a [.i .i64 4,.i .i64 sa,.i .i64 sb,.v (.slice dA dn dc)]] Tryz.func24 Tryz.ntmps24 rfl rfl ?_
 repeat' (first | refine gs_ ?_|((conv=>whnf); first | intro b0 | refine And.intro ?_ ?_|refine callN (f:=53) (ι:=Nat) (fun b=>.v (.map (some b))) (fun b=>mpO Tryz.prog 3 b 8 (mtab kindL) true) (fun w1 hH=>(kindsT w1).mono (by rintro e w' ⟨b,rfl,h1,h2,h3⟩; exact ⟨b,rfl,h1,h2,fun g hg=>by rw [List.mem_singleton.1 hg]; exact h3⟩)) (fun b=>?_)|refine oplo (b:=b) (n:=8) (m:=mtab kindL) (k:=3) (e:=104) 1 _ (.f 74 []) true (by rfl) (by rfl) (by rfl) (by rfl) (fun w h=>h) (by kernel_rfl) (by kernel_rfl) (fun w=>rfl) (wf_small (by decide)) (by rfl) (by rfl) ?_|refine callO (f:=74) (A:=gwO gq c x M N K ep xs Sk D Ss true) 0 (fun _:List Nat=>.t [.v (.slice none 0 0),.i .i64 (Gr.pressR K.G sa sb).2]) (fun S'=>gwO gq c x M N { K with G:=(doR K.G 2 sa sb (sb == 1)).1 } ep xs S' D Ss true) (fun w hH hA=>pressX hA) (fun S'=>?_)|refine fin fun w' hH=>⟨S',rfl,Hold.ob hH (A:=gwO gq c x M N { K with G:=(doR K.G 2 sa sb (sb == 1)).1 } ep xs S' D Ss true) 0 rfl,hH.upd,fun g hg=>hH.own _ (List.mem_of_getElem? (i:=0) rfl) rfl g hg⟩|refine fin_s ?_))
theorem loadX (h:GWt gq c x M N K ep xs Sk D Ss w):Calls Tryz.prog 75 #[.pointer (some ⟨gq,0,none⟩),.agg #[.int .i64 5,.int .i64 sa,.int .i64 sb,.slice dA dn dc]] w fun e w'=>∃ S',e=.returned (.tuple #[.slice none 0 0,.int .i64 (Gr.loadR K.G sa sb).2])∧GWt gq c x M N { K with G:=(doR K.G 3 sa sb (sb == 1)).1 } ep xs S' D Ss w'∧Upd (gwF gq x Sk D Ss) w w'∧∀ g∈gwF gq x S' D Ss,g∈gwF gq x Sk D Ss∨w.heap.size≤g :=
 (loadT h.b h.k h.g1).mono (by
  rintro e w' ⟨S',rfl,h1,h2,h3⟩
  obtain ⟨a1,a2,a3⟩:=h.kg h1 h2 h3
  exact ⟨S',rfl,a1,a2,a3⟩)
theorem loadD (h:GWt gq c x M N K ep xs Sk D Ss w):Calls Tryz.prog 24 #[.pointer (some ⟨gq,0,none⟩),.agg #[.int .i64 5,.int .i64 sa,.int .i64 sb,.slice dA dn dc]] w fun e w'=>∃ S',e=.returned (.tuple #[.slice none 0 0,.int .i64 (Gr.loadR K.G sa sb).2])∧GWt gq c x M N { K with G:=(doR K.G 3 sa sb (sb == 1)).1 } ep xs S' D Ss w'∧Upd (gwF gq x Sk D Ss) w w'∧∀ g∈gwF gq x S' D Ss,g∈gwF gq x Sk D Ss∨w.heap.size≤g:=by
 refine entH tab_ok (hold_w h) [.v (.pointer (some ⟨gq,0,none⟩)),.a [.i .i64 5,.i .i64 sa,.i .i64 sb,.v (.slice dA dn dc)]] Tryz.func24 Tryz.ntmps24 rfl rfl ?_
 repeat' (first | refine gs_ ?_|((conv=>whnf); first | intro b0 | refine And.intro ?_ ?_|refine callN (f:=53) (ι:=Nat) (fun b=>.v (.map (some b))) (fun b=>mpO Tryz.prog 3 b 8 (mtab kindL) true) (fun w1 hH=>(kindsT w1).mono (by rintro e w' ⟨b,rfl,h1,h2,h3⟩; exact ⟨b,rfl,h1,h2,fun g hg=>by rw [List.mem_singleton.1 hg]; exact h3⟩)) (fun b=>?_)|refine oplo (b:=b) (n:=8) (m:=mtab kindL) (k:=3) (e:=104) 1 _ (.f 75 []) true (by rfl) (by rfl) (by rfl) (by rfl) (fun w h=>h) (by kernel_rfl) (by kernel_rfl) (fun w=>rfl) (wf_small (by decide)) (by rfl) (by rfl) ?_|refine callO (f:=75) (A:=gwO gq c x M N K ep xs Sk D Ss true) 0 (fun _:List Nat=>.t [.v (.slice none 0 0),.i .i64 (Gr.loadR K.G sa sb).2]) (fun S'=>gwO gq c x M N { K with G:=(doR K.G 3 sa sb (sb == 1)).1 } ep xs S' D Ss true) (fun w hH hA=>loadX hA) (fun S'=>?_)|refine fin fun w' hH=>⟨S',rfl,Hold.ob hH (A:=gwO gq c x M N { K with G:=(doR K.G 3 sa sb (sb == 1)).1 } ep xs S' D Ss true) 0 rfl,hH.upd,fun g hg=>hH.own _ (List.mem_of_getElem? (i:=0) rfl) rfl g hg⟩|refine fin_s ?_))
theorem curtainX (h:GWt gq c x M N K ep xs Sk D Ss w):Calls Tryz.prog 76 #[.pointer (some ⟨gq,0,none⟩),.agg #[.int .i64 6,.int .i64 sa,.int .i64 sb,.slice dA dn dc]] w fun e w'=>∃ S',e=.returned (.tuple #[.slice none 0 0,.int .i64 (Gr.curtR K.G sa (sb == 1)).2])∧GWt gq c x M N { K with G:=(doR K.G 4 sa sb (sb == 1)).1 } ep xs S' D Ss w'∧Upd (gwF gq x Sk D Ss) w w'∧∀ g∈gwF gq x S' D Ss,g∈gwF gq x Sk D Ss∨w.heap.size≤g :=
 (curtainT h.b h.k h.g1).mono (by
  rintro e w' ⟨S',rfl,h1,h2,h3⟩
  obtain ⟨a1,a2,a3⟩:=h.kg h1 h2 h3
  exact ⟨S',rfl,a1,a2,a3⟩)
theorem curtainD (h:GWt gq c x M N K ep xs Sk D Ss w):Calls Tryz.prog 24 #[.pointer (some ⟨gq,0,none⟩),.agg #[.int .i64 6,.int .i64 sa,.int .i64 sb,.slice dA dn dc]] w fun e w'=>∃ S',e=.returned (.tuple #[.slice none 0 0,.int .i64 (Gr.curtR K.G sa (sb == 1)).2])∧GWt gq c x M N { K with G:=(doR K.G 4 sa sb (sb == 1)).1 } ep xs S' D Ss w'∧Upd (gwF gq x Sk D Ss) w w'∧∀ g∈gwF gq x S' D Ss,g∈gwF gq x Sk D Ss∨w.heap.size≤g:=by
 refine entH tab_ok (hold_w h) [.v (.pointer (some ⟨gq,0,none⟩)),.a [.i .i64 6,.i .i64 sa,.i .i64 sb,.v (.slice dA dn dc)]] Tryz.func24 Tryz.ntmps24 rfl rfl ?_
 repeat' (first | refine gs_ ?_|((conv=>whnf); first | intro b0 | refine And.intro ?_ ?_|refine callN (f:=53) (ι:=Nat) (fun b=>.v (.map (some b))) (fun b=>mpO Tryz.prog 3 b 8 (mtab kindL) true) (fun w1 hH=>(kindsT w1).mono (by rintro e w' ⟨b,rfl,h1,h2,h3⟩; exact ⟨b,rfl,h1,h2,fun g hg=>by rw [List.mem_singleton.1 hg]; exact h3⟩)) (fun b=>?_)|refine oplo (b:=b) (n:=8) (m:=mtab kindL) (k:=3) (e:=104) 1 _ (.f 76 []) true (by rfl) (by rfl) (by rfl) (by rfl) (fun w h=>h) (by kernel_rfl) (by kernel_rfl) (fun w=>rfl) (wf_small (by decide)) (by rfl) (by rfl) ?_|refine callO (f:=76) (A:=gwO gq c x M N K ep xs Sk D Ss true) 0 (fun _:List Nat=>.t [.v (.slice none 0 0),.i .i64 (Gr.curtR K.G sa (sb == 1)).2]) (fun S'=>gwO gq c x M N { K with G:=(doR K.G 4 sa sb (sb == 1)).1 } ep xs S' D Ss true) (fun w hH hA=>curtainX hA) (fun S'=>?_)|refine fin fun w' hH=>⟨S',rfl,Hold.ob hH (A:=gwO gq c x M N { K with G:=(doR K.G 4 sa sb (sb == 1)).1 } ep xs S' D Ss true) 0 rfl,hH.upd,fun g hg=>hH.own _ (List.mem_of_getElem? (i:=0) rfl) rfl g hg⟩|refine fin_s ?_))
theorem faultX (h:GWt gq c x M N K ep xs Sk D Ss w) (hw:K.G.waits.length≤10000):Calls Tryz.prog 77 #[.pointer (some ⟨gq,0,none⟩),.agg #[.int .i64 7,.int .i64 sa,.int .i64 sb,.slice dA dn dc]] w fun e w'=>∃ S',e=.returned (.tuple #[.slice none 0 0,.int .i64 (Gr.faultR K.G sa (sb == 1)).2])∧GWt gq c x M N { K with G:=(doR K.G 5 sa sb (sb == 1)).1 } ep xs S' D Ss w'∧Upd (gwF gq x Sk D Ss) w w'∧∀ g∈gwF gq x S' D Ss,g∈gwF gq x Sk D Ss∨w.heap.size≤g :=
 (faultT h.b h.k h.g1 hw).mono (by
  rintro e w' ⟨S',rfl,h1,h2,h3⟩
  obtain ⟨a1,a2,a3⟩:=h.kg h1 h2 h3
  exact ⟨S',rfl,a1,a2,a3⟩)
theorem faultD (h:GWt gq c x M N K ep xs Sk D Ss w) (hw:K.G.waits.length≤10000):Calls Tryz.prog 24 #[.pointer (some ⟨gq,0,none⟩),.agg #[.int .i64 7,.int .i64 sa,.int .i64 sb,.slice dA dn dc]] w fun e w'=>∃ S',e=.returned (.tuple #[.slice none 0 0,.int .i64 (Gr.faultR K.G sa (sb == 1)).2])∧GWt gq c x M N { K with G:=(doR K.G 5 sa sb (sb == 1)).1 } ep xs S' D Ss w'∧Upd (gwF gq x Sk D Ss) w w'∧∀ g∈gwF gq x S' D Ss,g∈gwF gq x Sk D Ss∨w.heap.size≤g:=by
 refine entH tab_ok (hold_w h) [.v (.pointer (some ⟨gq,0,none⟩)),.a [.i .i64 7,.i .i64 sa,.i .i64 sb,.v (.slice dA dn dc)]] Tryz.func24 Tryz.ntmps24 rfl rfl ?_
 repeat' (first | refine gs_ ?_|((conv=>whnf); first | intro b0 | refine And.intro ?_ ?_|refine callN (f:=53) (ι:=Nat) (fun b=>.v (.map (some b))) (fun b=>mpO Tryz.prog 3 b 8 (mtab kindL) true) (fun w1 hH=>(kindsT w1).mono (by rintro e w' ⟨b,rfl,h1,h2,h3⟩; exact ⟨b,rfl,h1,h2,fun g hg=>by rw [List.mem_singleton.1 hg]; exact h3⟩)) (fun b=>?_)|refine oplo (b:=b) (n:=8) (m:=mtab kindL) (k:=3) (e:=104) 1 _ (.f 77 []) true (by rfl) (by rfl) (by rfl) (by rfl) (fun w h=>h) (by kernel_rfl) (by kernel_rfl) (fun w=>rfl) (wf_small (by decide)) (by rfl) (by rfl) ?_|refine callO (f:=77) (A:=gwO gq c x M N K ep xs Sk D Ss true) 0 (fun _:List Nat=>.t [.v (.slice none 0 0),.i .i64 (Gr.faultR K.G sa (sb == 1)).2]) (fun S'=>gwO gq c x M N { K with G:=(doR K.G 5 sa sb (sb == 1)).1 } ep xs S' D Ss true) (fun w hH hA=>faultX hA hw) (fun S'=>?_)|refine fin fun w' hH=>⟨S',rfl,Hold.ob hH (A:=gwO gq c x M N { K with G:=(doR K.G 5 sa sb (sb == 1)).1 } ep xs S' D Ss true) 0 rfl,hH.upd,fun g hg=>hH.own _ (List.mem_of_getElem? (i:=0) rfl) rfl g hg⟩|refine fin_s ?_))
theorem dat_low {lo:Nat} {os:List OutD} {w:World} (h:DatAt lo os w):∀ g∈datF os,lo≤g:=fun g hg=>by
 obtain ⟨o,ho,hg⟩:=dat_mem.1 hg
 exact Ek.lows (h o ho) g hg
theorem out_dat {lo lo2 n c:Nat} {A:Option Addr} {os os2:List OutD} {w:World} (h:outE.At lo A n c os w) (h2:DatAt lo2 os2 w):∀ g∈blkOf A,g∉datF os2:=fun g hg hm=>by
 obtain ⟨o,ho,hm⟩:=dat_mem.1 hm
 rcases own_at h with ⟨e,_⟩ | ⟨b,cur,e,_,B,_⟩
 ·rw [e] at hg; cases hg
 ·rw [e] at hg
  have:g=b:=by simpa [blkOf] using hg
  subst this
  exact own_ne_ty (h2 o ho) B (by decide) hm
theorem tickX (h:GWt gq c x M N K ep xs Sk D Ss w) (hj:JI c n T (K,vals D)) (hn:n≤10000) (hT:T < 10000) (hM:M≤1000000):Calls Tryz.prog 71 #[.pointer (some ⟨gq,0,none⟩),.agg #[.int .i64 1,.int .i64 sa,.int .i64 sb,.slice dA dn dc]] w fun e w'=>∃ y:List Nat×Fam×Option Addr×Nat×List OutD,e=.returned (.tuple #[.slice y.2.2.1 y.2.2.2.2.length y.2.2.2.1,.int .i64 0])∧GWt gq c x M N (tickG (K,vals D)).1.1 ep xs y.1 y.2.1 Ss w'∧(rwO outE w.heap.size y.2.2.1 y.2.2.2.2.length y.2.2.2.1 y.2.2.2.2 true).st w'∧(daO w.heap.size y.2.2.2.2 true).st w'∧Upd (gwF gq x Sk D Ss) w w'∧(∀ g∈gwF gq x y.1 y.2.1 Ss,g∈gwF gq x Sk D Ss∨w.heap.size≤g)∧(∀ g∈blkOf y.2.2.1,w.heap.size≤g∧g∉gwF gq x y.1 y.2.1 Ss)∧(∀ g∈datF y.2.2.2.2,w.heap.size≤g∧g∉gwF gq x y.1 y.2.1 Ss)∧(∀ g∈blkOf y.2.2.1,g∉datF y.2.2.2.2)∧vals y.2.1=(tickG (K,vals D)).1.2∧outsV y.2.2.2.2=(tickG (K,vals D)).2:=by
 have hk1:=hj.tk hT
 have ht:TI (64*T:Nat) (tickK K,vals D):=⟨hk1.t.q,hk1.t.l,hj.t.s,hj.t.t⟩
 refine (tickT h.b h.k h.g1 hM (PI.kt hj.p hn (by omega)) (PI.evs hj.p) (Nat.le_trans (PI.evl hj.p) (by omega)) ht (by omega)).mono ?_
 rintro e w' ⟨y,rfl,h1,h2,h3,h4,h5,h6,h7,h8⟩
 obtain ⟨a1,a2,a3⟩:=h.kg h1 h6 h7
 have far:∀ g,w.heap.size≤g→g∉kgF x.mb y.1 y.2.1→g∉gwF gq x y.1 y.2.1 Ss:=fun g hg hk hm=>by
  rcases List.mem_cons.1 hm with rfl | hm
  ·have:=h.b.lt; omega
  rcases List.mem_append.1 hm with hm | hm
  ·exact hk hm
  ·have:=h.s.lt g hm; omega
 exact ⟨y,rfl,a1,h4,h5,a2,a3,fun g hg=>⟨Ek.lows h4 g hg,far g (Ek.lows h4 g hg) (h8 g (List.mem_append.2 (.inl hg)))⟩,fun g hg=>⟨dat_low h5 g hg,far g (dat_low h5 g hg) (h8 g (List.mem_append.2 (.inr hg)))⟩,out_dat h4 h5,h2,h3⟩
theorem tickD (h:GWt gq c x M N K ep xs Sk D Ss w) (hj:JI c n T (K,vals D)) (hn:n≤10000) (hT:T < 10000) (hM:M≤1000000):Calls Tryz.prog 24 #[.pointer (some ⟨gq,0,none⟩),.agg #[.int .i64 1,.int .i64 sa,.int .i64 sb,.slice dA dn dc]] w fun e w'=>∃ y:List Nat×Fam×Option Addr×Nat×List OutD,e=.returned (.tuple #[.slice y.2.2.1 y.2.2.2.2.length y.2.2.2.1,.int .i64 0])∧GWt gq c x M N (tickG (K,vals D)).1.1 ep xs y.1 y.2.1 Ss w'∧(rwO outE w.heap.size y.2.2.1 y.2.2.2.2.length y.2.2.2.1 y.2.2.2.2 true).st w'∧(daO w.heap.size y.2.2.2.2 true).st w'∧Upd (gwF gq x Sk D Ss) w w'∧(∀ g∈gwF gq x y.1 y.2.1 Ss,g∈gwF gq x Sk D Ss∨w.heap.size≤g)∧(∀ g∈blkOf y.2.2.1,w.heap.size≤g∧g∉gwF gq x y.1 y.2.1 Ss)∧(∀ g∈datF y.2.2.2.2,w.heap.size≤g∧g∉gwF gq x y.1 y.2.1 Ss)∧(∀ g∈blkOf y.2.2.1,g∉datF y.2.2.2.2)∧vals y.2.1=(tickG (K,vals D)).1.2∧outsV y.2.2.2.2=(tickG (K,vals D)).2:=by
 refine entH tab_ok (hold_w h) [.v (.pointer (some ⟨gq,0,none⟩)),.a [.i .i64 1,.i .i64 sa,.i .i64 sb,.v (.slice dA dn dc)]] Tryz.func24 Tryz.ntmps24 rfl rfl ?_
 repeat' (first | refine gs_ ?_|((conv=>whnf); first | intro b0 | refine And.intro ?_ ?_|refine callN (f:=53) (ι:=Nat) (fun b=>.v (.map (some b))) (fun b=>mpO Tryz.prog 3 b 8 (mtab kindL) true) (fun w1 hH=>(kindsT w1).mono (by rintro e w' ⟨b,rfl,h1,h2,h3⟩; exact ⟨b,rfl,h1,h2,fun g hg=>by rw [List.mem_singleton.1 hg]; exact h3⟩)) (fun b=>?_)|refine oplo (b:=b) (n:=8) (m:=mtab kindL) (k:=3) (e:=104) 1 _ (.f 71 []) true (by rfl) (by rfl) (by rfl) (by rfl) (fun w h=>h) (by kernel_rfl) (by kernel_rfl) (fun w=>rfl) (wf_small (by decide)) (by rfl) (by rfl) ?_|refine callO2N (f:=71) (A:=gwO gq c x M N K ep xs Sk D Ss true) 0 (fun y:{y:List Nat×Fam×Option Addr×Nat×List OutD // vals y.2.1=(tickG (K,vals D)).1.2∧outsV y.2.2.2.2=(tickG (K,vals D)).2}=>.t [.v (.slice y.1.2.2.1 y.1.2.2.2.2.length y.1.2.2.2.1),.i .i64 0]) (fun y=>gwO gq c x M N (tickG (K,vals D)).1.1 ep xs y.1.1 y.1.2.1 Ss true) (fun y=>rwO outE w.heap.size y.1.2.2.1 y.1.2.2.2.2.length y.1.2.2.2.1 y.1.2.2.2.2 true) (fun y=>daO w.heap.size y.1.2.2.2.2 true) (fun w1 hH hA=>(tickX hA hj hn hT hM).mono (by rintro e w' ⟨y,rfl,h1,h2,h3,h4,h5,h6,h7,h8,h9,h10⟩; exact ⟨⟨y,h9,h10⟩,rfl,h1,Ek.base h2 hH.upd.size,fun o ho=>Ek.base (h3 o ho) hH.upd.size,h4,h5,h6,h7,h8⟩)) (fun y=>?_)|refine fin fun w' hH=>⟨y.1,rfl,Hold.ob hH (A:=gwO gq c x M N (tickG (K,vals D)).1.1 ep xs y.1.1 y.1.2.1 Ss true) 0 rfl,Hold.ob hH (A:=rwO outE w.heap.size y.1.2.2.1 y.1.2.2.2.2.length y.1.2.2.2.1 y.1.2.2.2.2 true) 2 rfl,Hold.ob hH (A:=daO w.heap.size y.1.2.2.2.2 true) 3 rfl,hH.upd,fun g hg=>hH.own _ (List.mem_of_getElem? (i:=0) rfl) rfl g hg,fun g hg=>⟨Ek.lows (Hold.ob hH (A:=rwO outE w.heap.size y.1.2.2.1 y.1.2.2.2.2.length y.1.2.2.2.1 y.1.2.2.2.2 true) 2 rfl) g hg,fun hm=>(pair_at (R:=DisR) (fun _ _ h=>h.symm) hH.dis (i:=0) (j:=2) rfl rfl (by decide) (.inl rfl)) g hm hg⟩,fun g hg=>⟨dat_low (Hold.ob hH (A:=daO w.heap.size y.1.2.2.2.2 true) 3 rfl) g hg,fun hm=>(pair_at (R:=DisR) (fun _ _ h=>h.symm) hH.dis (i:=0) (j:=3) rfl rfl (by decide) (.inl rfl)) g hm hg⟩,fun g hg hm=>(pair_at (R:=DisR) (fun _ _ h=>h.symm) hH.dis (i:=2) (j:=3) rfl rfl (by decide) (.inl rfl)) g hg hm,y.2.1,y.2.2⟩|refine fin_s ?_))
theorem bytesX (h:GWt gq c x M N K ep xs Sk D Ss w) (hz:BV w dA dn zs) (hz1:∀ g∈rdF dA dn,g∉gwF gq x Sk D Ss) (hj:JI c n T (K,vals D)) (hT:T≤10000) (hM:M+(xs++zs).length < 1000000) (hN:N+dn≤1000000):Calls Tryz.prog 72 #[.pointer (some ⟨gq,0,none⟩),.agg #[.int .i64 2,.int .i64 sa,.int .i64 sb,.slice dA dn dc]] w fun e w'=>∃ y:{y:List Nat×Fam×List Nat // vals y.2.1=(runL c ((K,vals D),ep) (frames (xs++zs)).1).1.2},e=.returned (.tuple #[.slice none 0 0,.int .i64 0])∧GWt gq c x (M+(xs++zs).length - (frames (xs++zs)).2.length) (N+dn) (runL c ((K,vals D),ep) (frames (xs++zs)).1).1.1 (runL c ((K,vals D),ep) (frames (xs++zs)).1).2 (frames (xs++zs)).2 y.1.1 y.1.2.1 y.1.2.2 w'∧Upd (gwF gq x Sk D Ss) w w'∧∀ g∈gwF gq x y.1.1 y.1.2.1 y.1.2.2,g∈gwF gq x Sk D Ss∨w.heap.size≤g:=by
 refine (bytesT h.b h.k h.s h.g1 h.g2 h.d hz hz1 hj hT hM hN).mono ?_
 rintro e w' ⟨y,rfl,h1,h2,h3,h4,h5,h6,h7,h8,h9⟩
 refine ⟨⟨y,h3⟩,rfl,⟨h1,h2,h4,h7,h8,h9⟩,h5,fun g hg=>?_⟩
 rcases List.mem_cons.1 hg with rfl | hg
 ·exact .inl (List.mem_cons_self ..)
 ·exact h6 g hg
theorem bytesD (h:GWt gq c x M N K ep xs Sk D Ss w) (hz:BV w dA dn zs) (hz1:∀ g∈rdF dA dn,g∉gwF gq x Sk D Ss) (hj:JI c n T (K,vals D)) (hT:T≤10000) (hM:M+(xs++zs).length < 1000000) (hN:N+dn≤1000000):Calls Tryz.prog 24 #[.pointer (some ⟨gq,0,none⟩),.agg #[.int .i64 2,.int .i64 sa,.int .i64 sb,.slice dA dn dc]] w fun e w'=>∃ y:{y:List Nat×Fam×List Nat // vals y.2.1=(runL c ((K,vals D),ep) (frames (xs++zs)).1).1.2},e=.returned (.tuple #[.slice none 0 0,.int .i64 0])∧GWt gq c x (M+(xs++zs).length - (frames (xs++zs)).2.length) (N+dn) (runL c ((K,vals D),ep) (frames (xs++zs)).1).1.1 (runL c ((K,vals D),ep) (frames (xs++zs)).1).2 (frames (xs++zs)).2 y.1.1 y.1.2.1 y.1.2.2 w'∧Upd (gwF gq x Sk D Ss) w w'∧∀ g∈gwF gq x y.1.1 y.1.2.1 y.1.2.2,g∈gwF gq x Sk D Ss∨w.heap.size≤g:=by
 refine entH tab_ok (Hold.addObj (hold_w h) (bvO dA dn zs) hz (by intro k; cases k) (by intro r hr; cases hr) (by intro A hA _ g hg hg2; rw [List.mem_singleton] at hA; subst hA; exact hz1 g hg2 hg)) [.v (.pointer (some ⟨gq,0,none⟩)),.a [.i .i64 2,.i .i64 sa,.i .i64 sb,.v (.slice dA dn dc)]] Tryz.func24 Tryz.ntmps24 rfl rfl ?_
 repeat' (first | refine gs_ ?_|((conv=>whnf); first | intro b0 | refine And.intro ?_ ?_|refine callN (f:=53) (ι:=Nat) (fun b=>.v (.map (some b))) (fun b=>mpO Tryz.prog 3 b 8 (mtab kindL) true) (fun w1 hH=>(kindsT w1).mono (by rintro e w' ⟨b,rfl,h1,h2,h3⟩; exact ⟨b,rfl,h1,h2,fun g hg=>by rw [List.mem_singleton.1 hg]; exact h3⟩)) (fun b=>?_)|refine oplo (b:=b) (n:=8) (m:=mtab kindL) (k:=3) (e:=104) 2 _ (.f 72 []) true (by rfl) (by rfl) (by rfl) (by rfl) (fun w h=>h) (by kernel_rfl) (by kernel_rfl) (fun w=>rfl) (wf_small (by decide)) (by rfl) (by rfl) ?_|refine callO (f:=72) (A:=gwO gq c x M N K ep xs Sk D Ss true) 0 (fun y:{y:List Nat×Fam×List Nat // vals y.2.1=(runL c ((K,vals D),ep) (frames (xs++zs)).1).1.2}=>.t [.v (.slice none 0 0),.i .i64 0]) (fun y=>gwO gq c x (M+(xs++zs).length - (frames (xs++zs)).2.length) (N+dn) (runL c ((K,vals D),ep) (frames (xs++zs)).1).1.1 (runL c ((K,vals D),ep) (frames (xs++zs)).1).2 (frames (xs++zs)).2 y.1.1 y.1.2.1 y.1.2.2 true) (fun w1 hH hA=>bytesX hA (Hold.ob hH (A:=bvO dA dn zs) 1 rfl) hz1 hj hT hM hN) (fun y=>?_)|refine fin fun w' hH=>⟨y,rfl,Hold.ob hH (A:=gwO gq c x (M+(xs++zs).length - (frames (xs++zs)).2.length) (N+dn) (runL c ((K,vals D),ep) (frames (xs++zs)).1).1.1 (runL c ((K,vals D),ep) (frames (xs++zs)).1).2 (frames (xs++zs)).2 y.1.1 y.1.2.1 y.1.2.2 true) 0 rfl,hH.upd,fun g hg=>hH.own _ (List.mem_of_getElem? (i:=0) rfl) rfl g hg⟩|refine fin_s ?_))
end
end Gw
end Go.Proofs.YtepfmfalebmcnaaGreatDoor
namespace Go.Proofs
open Go.Shelf
def Tryz.lays166_ren:Go.Shelf.Ren:=⟨fun | 166=>107 | 240=>153 | 276=>205 | n=>n,fun | 70=>167 | 9=>9 | 3=>3 | 75=>171 | 0=>0 | 72=>169 | 37=>29 | 4=>4 | 164=>240 | 80=>174 | 5=>5 | n=>n,fun | n=>n⟩
theorem Tryz.lays166:Go.Proofs.Lays.n166 Tryz.prog Tryz.lays166_ren:={
 mixed:=by kernel_rfl
 f166:=Tryz.func107.trans (congrArg some (by kernel_rfl))
 f240:=Tryz.func153.trans (congrArg some (by kernel_rfl))
 f276:=Tryz.func205.trans (congrArg some (by kernel_rfl))
 t0:=Tryz.underlying0
 a0:=Tryz.isAgg0
 z0:=Tryz.sizeOf0
 v0:=Tryz.zeroValue0
 t3:=Tryz.underlying3
 a3:=Tryz.isAgg3
 z3:=Tryz.sizeOf3
 v3:=Tryz.zeroValue3
 t4:=Tryz.underlying4
 a4:=Tryz.isAgg4
 z4:=Tryz.sizeOf4
 v4:=Tryz.zeroValue4
 t9:=Tryz.underlying9
 a9:=Tryz.isAgg9
 z9:=Tryz.sizeOf9
 v9:=Tryz.zeroValue9
 t20:=Tryz.underlying20
 a20:=Tryz.isAgg20
 z20:=Tryz.sizeOf20
 v20:=Tryz.zeroValue20
 t37:=Tryz.underlying29
 a37:=Tryz.isAgg29
 z37:=Tryz.sizeOf29
 v37:=Tryz.zeroValue29
 t70:=Tryz.underlying167
 a70:=Tryz.isAgg167
 z70:=Tryz.sizeOf167
 v70:=Tryz.zeroValue167
 t72:=Tryz.underlying169
 a72:=Tryz.isAgg169
 z72:=Tryz.sizeOf169
 v72:=Tryz.zeroValue169
 t75:=Tryz.underlying171
 a75:=Tryz.isAgg171
 z75:=Tryz.sizeOf171
 v75:=Tryz.zeroValue171
 t164:=Tryz.underlying240
 a164:=Tryz.isAgg240
 z164:=Tryz.sizeOf240
 v164:=Tryz.zeroValue240 }
theorem Tryz.Builder_Extra_166:Builder.Extra Tryz.prog Tryz.lays166_ren:={
 sizeBuilder:=by kernel_rfl
 liesBuilder:=by kernel_rfl
 t5:=Tryz.underlying5
 a5:=Tryz.isAgg5
 z5:=Tryz.sizeOf5
 v5:=Tryz.zeroValue5
 infoByte:=by kernel_rfl
 cellsByte:=by kernel_rfl
 sizeByte:=by kernel_rfl
 neB5:=by decide }
def Tryz.lays169_ren:Go.Shelf.Ren:=⟨fun | 169=>109 | n=>n,fun | 70=>167 | 9=>9 | 0=>0 | 72=>169 | 37=>29 | 127=>205 | 3=>3 | 5=>5 | n=>n,fun | n=>n⟩
theorem Tryz.lays169:Go.Proofs.Lays.n169 Tryz.prog Tryz.lays169_ren:={
 mixed:=by kernel_rfl
 f169:=Tryz.func109.trans (congrArg some (by kernel_rfl))
 t0:=Tryz.underlying0
 a0:=Tryz.isAgg0
 z0:=Tryz.sizeOf0
 v0:=Tryz.zeroValue0
 t3:=Tryz.underlying3
 a3:=Tryz.isAgg3
 z3:=Tryz.sizeOf3
 v3:=Tryz.zeroValue3
 t9:=Tryz.underlying9
 a9:=Tryz.isAgg9
 z9:=Tryz.sizeOf9
 v9:=Tryz.zeroValue9
 t37:=Tryz.underlying29
 a37:=Tryz.isAgg29
 z37:=Tryz.sizeOf29
 v37:=Tryz.zeroValue29
 t70:=Tryz.underlying167
 a70:=Tryz.isAgg167
 z70:=Tryz.sizeOf167
 v70:=Tryz.zeroValue167
 t72:=Tryz.underlying169
 a72:=Tryz.isAgg169
 z72:=Tryz.sizeOf169
 v72:=Tryz.zeroValue169
 t127:=Tryz.underlying205
 a127:=Tryz.isAgg205
 z127:=Tryz.sizeOf205
 v127:=Tryz.zeroValue205 }
theorem Tryz.Builder_Extra_169:Builder.Extra Tryz.prog Tryz.lays169_ren:={
 sizeBuilder:=by kernel_rfl
 liesBuilder:=by kernel_rfl
 t5:=Tryz.underlying5
 a5:=Tryz.isAgg5
 z5:=Tryz.sizeOf5
 v5:=Tryz.zeroValue5
 infoByte:=by kernel_rfl
 cellsByte:=by kernel_rfl
 sizeByte:=by kernel_rfl
 neB5:=by decide }
def Tryz.laysM171_ren:Go.Shelf.Ren:=⟨fun | 171=>108 | 243=>154 | 246=>206 | 283=>244 | 284=>245 | 285=>246 | 286=>247 | 129=>165 | 317=>271 | 318=>272 | 319=>273 | 320=>274 | 337=>290 | 338=>291 | n=>n,fun | 3=>3 | 9=>9 | 2=>2 | 4=>4 | 171=>269 | 0=>0 | 53=>120 | 37=>29 | 5=>5 | 173=>271 | 212=>290 | 51=>87 | 20=>20 | 213=>291 | 46=>89 | 232=>304 | 233=>305 | n=>n,fun | 17=>0 | 18=>1 | 19=>2 | n=>n⟩
theorem Tryz.laysM171:Go.Proofs.LaysM.n171 Tryz.prog Tryz.laysM171_ren:={
 mixed:=by kernel_rfl
 f129:=Tryz.func165.trans (congrArg some (by kernel_rfl))
 f171:=Tryz.func108.trans (congrArg some (by kernel_rfl))
 f243:=Tryz.func154.trans (congrArg some (by kernel_rfl))
 f246:=Tryz.func206.trans (congrArg some (by kernel_rfl))
 f283:=Tryz.func244.trans (congrArg some (by kernel_rfl))
 f284:=Tryz.func245.trans (congrArg some (by kernel_rfl))
 f285:=Tryz.func246.trans (congrArg some (by kernel_rfl))
 f286:=Tryz.func247.trans (congrArg some (by kernel_rfl))
 f317:=Tryz.func271.trans (congrArg some (by kernel_rfl))
 f318:=Tryz.func272.trans (congrArg some (by kernel_rfl))
 f319:=Tryz.func273.trans (congrArg some (by kernel_rfl))
 f320:=Tryz.func274.trans (congrArg some (by kernel_rfl))
 f337:=Tryz.func290.trans (congrArg some (by kernel_rfl))
 f338:=Tryz.func291.trans (congrArg some (by kernel_rfl))
 t0:=Tryz.underlying0
 a0:=Tryz.isAgg0
 z0:=Tryz.sizeOf0
 v0:=Tryz.zeroValue0
 t2:=Tryz.underlying2
 a2:=Tryz.isAgg2
 z2:=Tryz.sizeOf2
 v2:=Tryz.zeroValue2
 t3:=Tryz.underlying3
 a3:=Tryz.isAgg3
 z3:=Tryz.sizeOf3
 v3:=Tryz.zeroValue3
 t4:=Tryz.underlying4
 a4:=Tryz.isAgg4
 z4:=Tryz.sizeOf4
 v4:=Tryz.zeroValue4
 t5:=Tryz.underlying5
 a5:=Tryz.isAgg5
 z5:=Tryz.sizeOf5
 v5:=Tryz.zeroValue5
 t9:=Tryz.underlying9
 a9:=Tryz.isAgg9
 z9:=Tryz.sizeOf9
 v9:=Tryz.zeroValue9
 t20:=Tryz.underlying20
 a20:=Tryz.isAgg20
 z20:=Tryz.sizeOf20
 v20:=Tryz.zeroValue20
 t37:=Tryz.underlying29
 a37:=Tryz.isAgg29
 z37:=Tryz.sizeOf29
 v37:=Tryz.zeroValue29
 t46:=Tryz.underlying89
 a46:=Tryz.isAgg89
 z46:=Tryz.sizeOf89
 v46:=Tryz.zeroValue89
 t51:=Tryz.underlying87
 a51:=Tryz.isAgg87
 z51:=Tryz.sizeOf87
 v51:=Tryz.zeroValue87
 t53:=Tryz.underlying120
 a53:=Tryz.isAgg120
 z53:=Tryz.sizeOf120
 v53:=Tryz.zeroValue120
 t171:=Tryz.underlying269
 a171:=Tryz.isAgg269
 z171:=Tryz.sizeOf269
 v171:=Tryz.zeroValue269
 t173:=Tryz.underlying271
 a173:=Tryz.isAgg271
 z173:=Tryz.sizeOf271
 v173:=Tryz.zeroValue271
 t212:=Tryz.underlying290
 a212:=Tryz.isAgg290
 z212:=Tryz.sizeOf290
 v212:=Tryz.zeroValue290
 t213:=Tryz.underlying291
 a213:=Tryz.isAgg291
 z213:=Tryz.sizeOf291
 t232:=Tryz.underlying304
 a232:=Tryz.isAgg304
 z232:=Tryz.sizeOf304
 v232:=Tryz.zeroValue304
 t233:=Tryz.underlying305
 a233:=Tryz.isAgg305
 z233:=Tryz.sizeOf305
 v233:=Tryz.zeroValue305
 g17:=by kernel_rfl
 g18:=by kernel_rfl
 g19:=by kernel_rfl
 i0:=by kernel_rfl
 i2:=by kernel_rfl
 i3:=by kernel_rfl
 i4:=by kernel_rfl
 i5:=by kernel_rfl
 i9:=by kernel_rfl
 i20:=by kernel_rfl
 i37:=by kernel_rfl
 i46:=by kernel_rfl
 i51:=by kernel_rfl
 i53:=by kernel_rfl
 i171:=by kernel_rfl
 i173:=by kernel_rfl
 i212:=by kernel_rfl
 i232:=by kernel_rfl
 i233:=by kernel_rfl
 m17:=by kernel_rfl
 m18:=by kernel_rfl
 m19:=by kernel_rfl }
end Go.Proofs
namespace Go.Proofs.YtepfmfalebmcnaaGreatDoor
namespace En
open Go.RowKit Ba Mem
def isU8 (w:World) (g:Nat):Prop:=∃ c fz,w.heap[g]?=some (.cells c 5 fz)
section
variable {X:Cx} {m:List Row} {ob:List Asr} {w w':World} {s:St}
theorem kept_blk {b g:Nat} {t:TypeId} {cs:Array Value} (h:Blk w g t cs) (k:Lib.OthersKept 5 (some b) w w') (hb:g≠b) (ht:t≠5):Blk w' g t cs :=
 k g _ h (by simpa using hb) (fun c fz e=>by injection e with _ e2 _; exact ht e2)
theorem callK {ι:Type} {f:FuncId} {vs:List SV} {K:SV→St→Prop} (i b:Nat) {A:Asr} (v:ι→SV) (Bo:ι→Asr)
  (hc:∀ w,Hold X s.m s.ob w→A.st w→Calls X.P f (denL s.m vs).toArray w fun e w'=>∃ x,e=.returned (den s.m (v x))∧(Bo x).st w'∧RowKit.Below X.w0.heap.size w w'∧Lib.OthersKept 5 (some b) w w'∧∀ g∈(Bo x).F,X.w0.heap.size≤g∧(g=b∨isU8 w' g))
  (hb:b∈A.F) (hrow:∀ (j:Nat) (r:Row),s.m[j]?=some r→r.t≠5)
  (hob:∀ (k:Nat) (C:Asr),s.ob[k]?=some C→k≠i→(∀ w w',RowKit.Below X.w0.heap.size w w'→Lib.OthersKept 5 (some b) w w'→b∉C.F→C.st w→C.st w')∧∀ w',C.st w'→∀ g∈C.F,g < X.w0.heap.size∨¬ isU8 w' g)
  (h:∀ x,setO i (Bo x) s.ob fun ob=>K (v x) ⟨s.fr,s.m,ob⟩) (hA:s.ob[i]?=some A:=by rfl) (hrw:A.rw=true:=by rfl)
  (he:entChk X.P f=true:=by kernel_rfl) (hv:∀ x,okV s.m.length (v x)=true:=by intro x; rfl):CallVC X f vs s K:=by
 have hmem:=List.mem_of_getElem? hA
 refine ⟨entC he,fun w hH=>(hc w hH (hH.obj A hmem)).mono ?_⟩
 rintro e w' ⟨x,rfl,hB,hbl,hok,hF⟩
 have hbC:∀ (k:Nat) (C:Asr),s.ob[k]?=some C→k≠i→b∉C.F:=fun k C hC hne hm=>pair_at (R:=DisR) (fun _ _ h=>h.symm) hH.dis hC hA hne (.inr hrw) b hm hb
 have hrb:∀ (j:Nat) (r:Row),s.m[j]?=some r→r.live=true→r.g≠b:=fun j r hr hl e=>hH.far A hmem j r hr hl (e ▸ hb)
 have row:∀ (j:Nat) (r:Row),s.m[j]?=some r→r.live=true→Blk w' r.g r.t (rowA s.m r):=fun j r hr hl=>kept_blk (hH.row j r hr hl) hok (hrb j r hr hl) (hrow j r hr)
 have st:∀ (k:Nat) (C:Asr),s.ob[k]?=some C→k≠i→C.st w':=fun k C hC hne=>(hob k C hC hne).1 w w' hbl hok (hbC k C hC hne) (hH.obj C (List.mem_of_getElem? hC))
 have dis:∀ (k:Nat) (C:Asr),s.ob[k]?=some C→k≠i→∀ g∈C.F,g∉(Bo x).F:=fun k C hC hne g hg hgB=>by
  obtain ⟨h1,h2⟩:=hF g hgB
  rcases (hob k C hC hne).2 w' (st k C hC hne) g hg with h3 | h3
  ·omega
  ·rcases h2 with rfl | h2
   ·exact hbC k C hC hne hg
   ·exact h3 h2
 refine ⟨v x,s.m,s.ob.set i (Bo x),rfl,hv x,Ext.refl _, ?_,setO_of (h x)⟩
 refine ⟨?_,row,hH.wf,hH.ne,fun C hC=>?_,fun C hC j r hr hl hg=>?_,fun C hC hr' g hg=>?_,pair_of fun a c C D hne hC hD=>?_⟩
 ·have hu:=hH.upd
  exact ⟨hbl.os.trans hu.os,hbl.tape.trans hu.tape,hbl.output.trans hu.output,Nat.le_trans hu.size hbl.size,fun k hk hn=>(hbl.block k hk).trans (hu.block k hk hn)⟩
 ·rcases mem_set_or hC with rfl | ⟨k,hne,hC⟩
  ·exact hB
  ·exact st k C hC hne
 ·rcases mem_set_or hC with rfl | ⟨k,hne,hC⟩
  ·rcases (hF r.g hg).2 with h2 | ⟨c,fz,h2⟩
   ·exact hrb j r hr hl h2
   ·have:=row j r hr hl
    unfold Blk at this
    rw [h2] at this
    injection this with this
    injection this with _ this _
    exact hrow j r hr this.symm
  ·exact hH.far C (List.mem_of_getElem? hC) j r hr hl hg
 ·rcases mem_set_or hC with rfl | ⟨k,hne,hC⟩
  ·exact .inr (hF g hg).1
  ·exact hH.own C (List.mem_of_getElem? hC) hr' g hg
 ·rcases getElem?_set_or hC with ⟨rfl,rfl⟩ | ⟨n1,hC2⟩ <;> rcases getElem?_set_or hD with ⟨rfl,rfl⟩ | ⟨n2,hD2⟩
  ·exact absurd rfl hne
  ·exact fun _ g hg hgD=>dis c D hD2 (Ne.symm n2) g hgD hg
  ·exact fun _=>dis a C hC2 (Ne.symm n1)
  ·exact pair_at (R:=DisR) (fun _ _ h=>h.symm) hH.dis hC2 hD2 hne
end
end En
namespace Gw
open Go.RowKit Ba Mem En Go.Proofs.YtepfmfalebmcnaaGreatDoor.Ty
open Go (Lib.byteCells)
set_option maxRecDepth 100000
def BldS (B b:Nat) (A:Option Addr) (bs:List UInt8) (w:World):Prop :=
 B≤b∧∃ p n c,(p=.pointer none∨p=.pointer (some ⟨b,0,none⟩))∧w.heap[b]?=some (.cells #[p,.slice A n c] 169 (0,0))∧w.ownsRowF B 5 1 (.slice A n c) bs.length (Lib.byteCells bs)∧(Value.slice A n c).ownBlock≠some b
section
variable {B b:Nat} {A:Option Addr} {bs:List UInt8} {w w':World} {T:List Nat}
theorem own_f {n c k:Nat} {vs:List Value} (h:w.ownsRowF B 5 1 (.slice A n c) k vs):∀ g∈blkOf A,B≤g∧g < w.heap.size∧isU8 w g:=by
 intro g hg
 rcases h.2 with ⟨e,_⟩ | ⟨g',cap,cur,fz,e,hB,hh,_⟩
 ·injection e with e _ _; subst e; cases hg
 ·injection e with e _ _; subst e
  have:g=g':=by simpa [blkOf] using hg
  subst this
  exact ⟨hB,(Array.getElem?_eq_some_iff.1 hh).1,cur,fz,hh⟩
theorem own_f_up {n c k:Nat} {vs:List Value} (u:Upd T w w') (h:w.ownsRowF B 5 1 (.slice A n c) k vs) (hT:∀ g∈blkOf A,g∉T):w'.ownsRowF B 5 1 (.slice A n c) k vs:=by
 refine ⟨h.1,h.2.imp id ?_⟩
 rintro ⟨g',cap,cur,fz,e,hB,hh,r⟩
 have e2:=e
 injection e2 with e2 _ _; subst e2
 exact ⟨g',cap,cur,fz,e,hB,(u.block g' (Array.getElem?_eq_some_iff.1 hh).1 (hT g' (by simp [blkOf]))).trans hh,r⟩
theorem BldS.upd (u:Upd T w w') (h:BldS B b A bs w) (hT:∀ g∈b::blkOf A,g∉T):BldS B b A bs w':=by
 obtain ⟨h0,p,n,c,hp,hh,ho,hn⟩:=h
 exact ⟨h0,p,n,c,hp,(u.block b (Array.getElem?_eq_some_iff.1 hh).1 (hT b (List.mem_cons_self ..))).trans hh,own_f_up u ho (fun g hg=>hT g (List.mem_cons_of_mem _ hg)),hn⟩
theorem BldS.lt (h:BldS B b A bs w):∀ g∈b::blkOf A,g < w.heap.size:=by
 obtain ⟨h0,p,n,c,hp,hh,ho,hn⟩:=h
 intro g hg
 rcases List.mem_cons.1 hg with rfl | hg
 ·exact (Array.getElem?_eq_some_iff.1 hh).1
 ·exact (own_f ho g hg).2.1
theorem BldS.fr (h:BldS B b A bs w):∀ g∈b::blkOf A,B≤g∧(g=b∨isU8 w g):=by
 obtain ⟨h0,p,n,c,hp,hh,ho,hn⟩:=h
 intro g hg
 rcases List.mem_cons.1 hg with rfl | hg
 ·exact ⟨h0,.inl rfl⟩
 ·exact ⟨(own_f ho g hg).1,.inr (own_f ho g hg).2.2⟩
theorem BldS.is (h:BldS B b A bs w):Lib.IsBuilderF 169 5 B b (Lib.byteCells bs) w:=by
 obtain ⟨h0,p,n,c,hp,hh,ho,hn⟩:=h
 have hl:(Lib.byteCells bs).length=bs.length:=by have:=ho.1; omega
 rcases hp with rfl | rfl
 ·exact .inl ⟨h0,_,hh,by rw [hl]; exact ho,hn⟩
 ·exact .inr ⟨h0,_,hh,by rw [hl]; exact ho,hn⟩
theorem bld_of {p:Value} (h:Lib.BuilderAtF 169 5 B b p (Lib.byteCells bs) w) (hp:p=.pointer none∨p=.pointer (some ⟨b,0,none⟩)):∃ A,BldS B b A bs w:=by
 obtain ⟨h0,v,hh,ho,hn⟩:=h
 have hl:(Lib.byteCells bs).length=bs.length:=by simp [Lib.byteCells]
 rw [hl] at ho
 rcases ho.2 with ⟨e,_⟩ | ⟨g',cap,cur,fz,e,_⟩
 ·subst e; exact ⟨none,h0,p,0,0,hp,hh,ho,hn⟩
 ·subst e; exact ⟨_,h0,p,_,_,hp,hh,ho,hn⟩
end
def bldO (B b:Nat) (A:Option Addr) (bs:List UInt8) (rw:Bool):Asr:=⟨b::blkOf A,rw,BldS B b A bs,fun u hd h=>h.upd u hd,fun h=>h.lt⟩
theorem writeC {B b:Nat} {A:Option Addr} {bs l:List UInt8} {w:World} (h:BldS B b A bs w) (hlen:bs.length+l.length≤1000000) (hB:B≤w.heap.size) :
  Calls Tryz.prog 107 #[.pointer (some ⟨b,0,none⟩),.string ⟨l.toArray⟩] w fun e w'=>∃ A':Option Addr,e=.returned (.tuple #[.int .i64 (l.length:Int),.nilIface])∧BldS B b A' (bs++l) w'∧RowKit.Below B w w'∧Lib.OthersKept 5 (some b) w w'∧∀ g∈b::blkOf A',B≤g∧(g=b∨isU8 w' g):=by
 have hs:(⟨l.toArray⟩:ByteArray).size=l.length:=by simp [ByteArray.size]
 have hl:(Lib.byteCells bs).length=bs.length:=by simp [Lib.byteCells]
 refine (Go.Proofs.Any.Builder_WriteString_k Tryz.lays166 Tryz.Builder_Extra_166 B b (Lib.byteCells bs) ⟨l.toArray⟩ w h.is (by rw [hl,hs]; omega) hB).mono ?_
 rintro e w' ⟨rfl,h1,h2,h3⟩
 have hc:Lib.byteCells bs++Lib.strCells ⟨l.toArray⟩=Lib.byteCells (bs++l):=by simp [Lib.byteCells,Lib.strCells]
 rw [hc] at h1
 obtain ⟨A',hA⟩:=bld_of h1 (.inr rfl)
 exact ⟨A',by rw [hs],hA,h2,h3,hA.fr⟩
theorem stringC {B b:Nat} {A:Option Addr} {bs:List UInt8} {w:World} (h:BldS B b A bs w) (hB:B≤w.heap.size) :
  Calls Tryz.prog 109 #[.pointer (some ⟨b,0,none⟩)] w fun e w'=>∃ A':Option Addr,e=.returned (.string ⟨bs.toArray⟩)∧BldS B b A' bs w'∧RowKit.Below B w w'∧Lib.OthersKept 5 (some b) w w'∧∀ g∈b::blkOf A',B≤g∧(g=b∨isU8 w' g):=by
 refine (Go.Proofs.Any.Builder_String_any_k Tryz.lays169 Tryz.Builder_Extra_169 B b bs w h.is hB).mono ?_
 rintro e w' ⟨rfl,h1,h2,h3⟩
 rcases h1 with h1 | h1
 ·obtain ⟨A',hA⟩:=bld_of h1 (.inl rfl)
  exact ⟨A',rfl,hA,h2,h3,hA.fr⟩
 ·obtain ⟨A',hA⟩:=bld_of h1 (.inr rfl)
  exact ⟨A',rfl,hA,h2,h3,hA.fr⟩
theorem itoaC (n:Int) (h0 : -9223372036854775808≤n) (h1:n≤9223372036854775807) (w:World) (htab:Lib.TabIs Tryz.prog w "internal/strconv.uint64pow10" .u64 Lib.pow10Tab):Calls Tryz.prog 108 #[.int .i64 n] w fun e w'=>e=.returned (.string ⟨(Lib.itoa n).toArray⟩)∧Since w w':=by
 refine (Go.Proofs.Any.strconv_Itoa Tryz.laysM171 n h0 h1 w htab).mono ?_
 rintro e w' ⟨rfl,k,os,rfl⟩
 exact ⟨rfl,Lib.below_grow w.heap.size w (Nat.le_refl _) k os⟩
end Gw
namespace Gw
open Go.RowKit Ba Mem En Go.Proofs.YtepfmfalebmcnaaGreatDoor.Ty
set_option maxRecDepth 100000
section
variable {X:Cx} {m:List Row} {ob:List Asr} {w w':World} {s:St}
theorem Upd.kept {B b:Nat} (h:RowKit.Below B w w') (k:Lib.OthersKept 5 (some b) w w'):∃ T:List Nat,Upd T w w'∧∀ g∈T,B≤g∧(g=b∨isU8 w g):=by
 classical
 refine ⟨(List.range w.heap.size).filter fun g=>decide (B≤g∧(g=b∨isU8 w g)),⟨h.os,h.tape,h.output,h.size,fun g hg hn=>?_⟩,fun g hg=>by simpa using (List.mem_filter.1 hg).2⟩
 by_cases hB:g < B
 ·exact h.block g hB
 ·have hn2:¬ (g=b∨isU8 w g):=fun hx=>hn (List.mem_filter.2 ⟨List.mem_range.2 hg,by simpa using ⟨by omega,hx⟩⟩)
  have h1:w.heap[g]?=some w.heap[g]:=Array.getElem?_eq_getElem hg
  rw [h1]
  exact k g _ h1 (fun e=>hn2 (.inl (by injection e))) (fun c fz e=>hn2 (.inr ⟨c,fz,by rw [h1,e]⟩))
theorem kO {C:Asr} {B b:Nat} (hF:∀ w,C.st w→∀ g∈C.F,g < B∨¬ isU8 w g):(∀ w w',RowKit.Below B w w'→Lib.OthersKept 5 (some b) w w'→b∉C.F→C.st w→C.st w')∧∀ w',C.st w'→∀ g∈C.F,g < B∨¬ isU8 w' g:=by
 refine ⟨fun w w' hb hk hn hC=>?_,hF⟩
 obtain ⟨T,hu,hT⟩:=Upd.kept hb hk
 refine C.up hu (fun g hg hgT=>?_) hC
 obtain ⟨h1,h2⟩:=hT g hgT
 rcases h2 with rfl | h2
 ·exact hn hg
 ·rcases hF w hC g hg with h3 | h3
  ·omega
  ·exact h3 h2
theorem rw_k {α:Type} {E:Ek α} {lo n c B:Nat} {A:Option Addr} {ls:List α} {r:Bool} (ht:E.t≠5):∀ w,(rwO E lo A n c ls r).st w→∀ g∈(rwO E lo A n c ls r).F,g < B∨¬ isU8 w g:=by
 intro w h g hg
 rcases own_at h with ⟨rfl,_⟩ | ⟨g',cur,rfl,_,hb,_⟩
 ·cases hg
 ·have:g=g':=by simpa [rwO,blkOf] using hg
  subst this
  refine .inr ?_
  rintro ⟨c2,fz,e⟩
  unfold Blk at hb
  rw [hb] at e
  injection e with e
  injection e with _ e _
  exact ht e
theorem tab_up {P:Program} {nm:String} {k:IntKind} {zs:List Int} (h:Lib.TabIs P w nm k zs) (u:Upd [] w w'):Lib.TabIs P w' nm k zs:=by
 unfold Lib.TabIs World.var? at h ⊢
 cases hg:P.globalNamed nm with
 | none=>simp [hg] at h
 | some g =>
  simp only [hg,Option.bind_some] at h ⊢
  have hlt:g < w.heap.size:=by
   rcases Nat.lt_or_ge g w.heap.size with h' | h'
   ·exact h'
   ·simp [Array.getElem?_eq_none h'] at h
  rw [u.block g hlt (by simp)]
  exact h
theorem Hold.toObj (hH:Hold X m ob w) {k:Nat} {C:Asr} {r:Row} (hr:m[k]?=some r) (hl:r.live=true) (hrw:r.rw=true) (hF:C.F=[r.g]) (hC:C.st w):Hold X (m.set k { r with live:=false }) (ob++[C]) w:=by
 have hE:=Ext.dead hr
 have live:∀ (j:Nat) (q:Row),(m.set k { r with live:=false })[j]?=some q→q.live=true→j≠k∧m[j]?=some q:=fun j q hq hql=>by
  rcases getElem?_set_or hq with ⟨rfl,rfl⟩ | ⟨hne,hq⟩
  ·cases hql
  ·exact ⟨Ne.symm hne,hq⟩
 have mem:∀ D,D∈ob++[C]→D=C∨D∈ob:=fun D hD=>by
  rcases List.mem_append.1 hD with h | h
  ·exact .inr h
  ·exact .inl (List.mem_singleton.1 h)
 refine ⟨hH.upd,fun a q hq hql=>?_,fun a q hq hql=>?_,fun a b q q' ha hb hq hq' hne=>?_,fun D hD=>?_,fun D hD a q hq hql hg=>?_,fun D hD hDw g hg=>?_, ?_⟩
 ·obtain ⟨_,hq⟩:=live a q hq hql
  rw [rowA_ext hE (hH.wf a q hq hql).1]; exact hH.row a q hq hql
 ·obtain ⟨_,hq⟩:=live a q hq hql
  rw [List.length_set]; exact hH.wf a q hq hql
 ·obtain ⟨_,ha⟩:=live a q ha hq
  obtain ⟨_,hb⟩:=live b q' hb hq'
  exact hH.ne a b q q' ha hb hq hq' hne
 ·rcases mem D hD with rfl | hD
  ·exact hC
  ·exact hH.obj D hD
 ·obtain ⟨hak,hq⟩:=live a q hq hql
  rcases mem D hD with rfl | hD
  ·rw [hF,List.mem_singleton] at hg
   exact hH.ne a k q r hq hr hql hl hak hg
  ·exact hH.far D hD a q hq hql hg
 ·rcases mem D hD with rfl | hD
  ·rw [hF,List.mem_singleton] at hg; subst hg
   exact (hH.wf k r hr hl).2.2 hrw
  ·exact hH.own D hD hDw g hg
 ·refine List.pairwise_append.2 ⟨hH.dis,List.pairwise_singleton ..,fun D hD E hE _ g hg hgE=>?_⟩
  rw [List.mem_singleton] at hE; subst hE
  rw [hF,List.mem_singleton] at hgE; subst hgE
  exact hH.far D hD k r hr hl hg
theorem bldX {f:FuncId} {vs:List SV} {K:SV→St→Prop} (j:Nat) {r:Row} (hr:s.m[j]?=some r) (hl:(r.live && r.rw)=true) (hS:X.S=[]) (hrow:∀ m,rowA m r=#[.pointer none,.slice none 0 0]) (ht:r.t=169) (hv:denL (s.m.set j { r with live:=false }) vs=denL s.m vs)
  (h:setR j (fun r K=>K { r with live:=false }) s.m fun m=>appO s.ob (bldO X.w0.heap.size r.g none [] true) fun ob=>CallVC X f vs ⟨s.fr,m,ob⟩ K):CallVC X f vs s K:=by
 simp only [Bool.and_eq_true] at hl
 obtain ⟨r',hr',hs⟩:=setR_of h
 rw [hr] at hr'; cases hr'
 have hs:=appO_of hs
 refine ⟨hs.out.1,fun w hH=>?_⟩
 have hb:=hH.row j r hr hl.1
 rw [hrow,ht] at hb
 have hg:X.w0.heap.size≤r.g:=by
  rcases (hH.wf j r hr hl.1).2.2 hl.2 with h | h
  ·rw [hS] at h; cases h
  ·exact h
 have hH2:=Hold.toObj hH (C:=bldO X.w0.heap.size r.g none [] true) hr hl.1 hl.2 rfl ⟨hg,.pointer none,0,0,.inl rfl,hb,⟨rfl,.inl ⟨rfl,rfl⟩⟩,by intro h; cases h⟩
 have:=hs.out.2 w hH2
 rw [show denL (s.m.set j { r with live:=false }) vs=denL s.m vs from hv] at this
 refine this.mono ?_
 rintro e w' ⟨v,m',ob',h1,h2,h3,h4,h5⟩
 exact ⟨v,m',ob',h1,h2,(Ext.dead hr).trans h3,h4,h5⟩
variable {o:Oper} {K:St→Prop}
theorem opsa {t t2:TypeId} {x y:Operand} {xs ys:List UInt8} (ho:o.op=.binOp .add t x y t2) (hx:evO x s.fr=some (.v (.string ⟨xs.toArray⟩))) (hy:evO y s.fr=some (.v (.string ⟨ys.toArray⟩))) (h1:(xs.length:Int)≤8388608) (h2:(ys.length:Int)≤8388608) (h:put X.n o.dst (.v (.string ⟨(xs++ys).toArray⟩)) s K):OpVC X o s K :=
 opq (.v (.string ⟨(xs++ys).toArray⟩)) (fun a w hf _=>by
  have e1:=(evO_of hf hx).2
  have e2:=(evO_of hf hy).2
  unfold execOp
  simp only [ho,e1,e2,den]
  simp [eqGuard,binOp,run_string_add_lists (P:=X.P) w xs ys h1 h2,Result.andThen]) h rfl
def strO (g:Nat) (bs:List UInt8):Asr:=⟨[g],true,fun w=>∃ cs fz,w.heap[g]?=some (.cells cs 5 fz)∧cs.toList.take bs.length=Lib.byteCells bs,fun u hd ⟨cs,fz,h,r⟩=>⟨cs,fz,(u.block _ (Array.getElem?_eq_some_iff.1 h).1 (hd _ (List.mem_singleton.2 rfl))).trans h,r⟩,fun ⟨cs,fz,h,_⟩ g hg=>by rw [List.mem_singleton.1 hg]; exact (Array.getElem?_eq_some_iff.1 h).1⟩
theorem wp_q2 {P:Program} {a:Act} {w w2:World} {K:Act→World→Prop} {Q:Exit→Act→World→Prop} (v:Value) (he:(execOp a.eval o).run P w=.ok (.value v) w2) (h:K (a.put o.dst v) w2):o.wp P a w K Q:=by
 unfold Oper.wp
 rw [he]
 exact h
theorem opcb {t d:TypeId} {x:Operand} {bs:List UInt8} (ho:o.op=.convert t d x) (hx:evO x s.fr=some (.v (.string ⟨bs.toArray⟩))) {u:TypeDesc} (h1:X.P.underlying t=some u) (h2:X.P.underlying d=some (.slice 5)) (h3:X.P.underlying 5=some (.int .u8))
  (h:∀ (g c:Nat),appO s.ob (strO g bs) fun ob=>put X.n o.dst (.v (.slice (some ⟨g,0,none⟩) bs.length c)) ⟨s.fr,s.m,ob⟩ K):OpVC X o s K:=⟨fun a w Q hR=>by
 have e1:=(evO_of hR.fr hx).2
 have hsz:(⟨bs.toArray⟩:ByteArray).size=bs.length:=by simp [ByteArray.size]
 have hold:=Lib.bytesWorld_at_old w 5 ⟨bs.toArray⟩
 have hsn:Since w (Lib.bytesWorld w 5 ⟨bs.toArray⟩):=⟨rfl,rfl,rfl,by rw [Lib.bytesWorld_size]; omega,fun k hk=>hold k hk⟩
 have hst:(strO w.heap.size bs).st (Lib.bytesWorld w 5 ⟨bs.toArray⟩):=⟨_,_,Lib.bytesWorld_at_new w 5 ⟨bs.toArray⟩,by
  have h4:bs.length=(List.map (fun b=>Value.int .u8 (b.toNat:Int)) bs).length:=by simp
  simp only [Lib.bytesCells,Array.toList_append,Array.toList_map,Lib.byteCells]
  exact List.take_left' (by simp)⟩
 have hH:=hR.h.obj_new (B:=strO w.heap.size bs) hst hsn (by intro g hg; rw [List.mem_singleton.1 hg]; exact Nat.le_refl _)
 obtain ⟨s',r1,r2,r3,r4⟩:=put_of (a:=a) (s:=⟨s.fr,s.m,s.ob++[strO w.heap.size bs]⟩) (v:=.v (.slice (some ⟨w.heap.size,0,none⟩) bs.length (grownCap w bs.length 0 5))) hR.ds hR.sz hR.fr hH rfl (appO_of (h w.heap.size _))
 refine wp_q2 _ ?_ ⟨s',r1,by rw [r2]; exact Ext.refl _,r4⟩
 have:=Lib.run_convert_string_bytes (P:=X.P) w t d 5 ⟨bs.toArray⟩ h1 h2 h3
 rw [hsz] at this
 unfold execOp
 simp only [ho,e1,den]
 simp [this,Result.andThen]⟩
end
end Gw
namespace Gw
open Go.RowKit Ba Mem En Go.Proofs.YtepfmfalebmcnaaGreatDoor.Ty Mp
open Co (KV Pt KW Nr NgA toNCg Hold.ob)
set_option maxRecDepth 100000
attribute [local irreducible] Go.Calls
def n64 (i:Int):Prop := -9223372036854775808≤i∧i≤9223372036854775807
def numsL (ns:List Int) (j:Nat):List UInt8:=(ns.take j).flatMap fun n=>Lib.itoa n++[32]
def vN (k:Nat) (v:ViewV):List Int:=[(k:Int),v.un,v.ds,v.mo,v.wy]
def lineL (k:Nat) (v:ViewV):List UInt8:=numsL (vN k v) 5++(Lib.itoa v.lo++[10])
def upTo (vs:List ViewV):Nat→List UInt8
 | 0=>[]
 | k+1=>upTo vs k++(match vs[k]? with | some v=>lineL k v | none=>[])
def allB (P:Asr→Prop):Nat→List Asr→Prop
 | _,[]=>True
 | 0,_::r=>∀ A∈r,P A
 | i+1,A::r=>P A∧allB P i r
theorem allB_of {P:Asr→Prop}:∀ {i:Nat} {l:List Asr} {k:Nat} {C:Asr},allB P i l→l[k]?=some C→k≠i→P C
 | _,[],_,_,_,h,_=>by simp at h
 | 0,_::r,0,_,_,_,hk=>absurd rfl hk
 | 0,_::r,k+1,C,h,hC,_=>h C (List.mem_of_getElem? (by simpa using hC))
 | i+1,A::r,0,C,h,hC,_=>by simp at hC; subst hC; exact h.1
 | i+1,A::r,k+1,C,h,hC,hk=>allB_of (i:=i) (l:=r) (k:=k) h.2 (by simpa using hC) (by omega)
def offU (B:Nat) (C:Asr):Prop:=∀ w,C.st w→∀ g∈C.F,g < B∨¬ isU8 w g
theorem off_nil {B:Nat}:∀ C∈([]:List Asr),offU B C:=fun _ h=>by cases h
theorem off_cons {B:Nat} {A:Asr} {l:List Asr} (hA:offU B A) (h:∀ C∈l,offU B C):∀ C∈A::l,offU B C:=fun C hC=>by
 rcases List.mem_cons.1 hC with rfl | hC
 ·exact hA
 ·exact h C hC
section
variable {X:Cx} {s:St}
theorem wrtX {f:FuncId} {vs:List SV} {K:SV→St→Prop} (i b:Nat) {A:Option Addr} {bs l:List UInt8} (hf:f=107) (hP:X.P=Tryz.prog) (hA:s.ob[i]?=some (bldO X.w0.heap.size b A bs true)) (hv:denL s.m vs=[.pointer (some ⟨b,0,none⟩),.string ⟨l.toArray⟩]) (hlen:bs.length+l.length≤1000000) (hrow:(s.m.all fun r=>!Nat.beq r.t 5)=true) (hob:allB (offU X.w0.heap.size) i s.ob)
  (h:∀ A',setO i (bldO X.w0.heap.size b A' (bs++l) true) s.ob fun ob=>K (.t [.i .i64 (l.length:Int),.v .nilIface]) ⟨s.fr,s.m,ob⟩) (he:entChk X.P f=true:=by kernel_rfl):CallVC X f vs s K:=by
 refine callK i b (A:=bldO X.w0.heap.size b A bs true) (ι:=Option Addr) (fun _=>.t [.i .i64 (l.length:Int),.v .nilIface]) (fun A'=>bldO X.w0.heap.size b A' (bs++l) true) (fun w hH hS=>?_) (List.mem_cons_self ..) (fun j r hr ht=>?_) (fun k C hC hk=>kO (allB_of hob hC hk)) h hA rfl he (fun _=>rfl)
 ·rw [hv,hf,hP]
  refine (writeC (l:=l) hS hlen hH.upd.size).mono ?_
  rintro e w' ⟨A',rfl,h1,h2,h3,h4⟩
  exact ⟨A',rfl,h1,h2,h3,h4⟩
 ·have:=List.all_eq_true.1 hrow r (List.mem_of_getElem? hr)
  rw [ht] at this
  exact absurd this (by decide)
theorem stgX {f:FuncId} {vs:List SV} {K:SV→St→Prop} (i b:Nat) {A:Option Addr} {bs:List UInt8} (hf:f=109) (hP:X.P=Tryz.prog) (hA:s.ob[i]?=some (bldO X.w0.heap.size b A bs true)) (hv:denL s.m vs=[.pointer (some ⟨b,0,none⟩)]) (hrow:(s.m.all fun r=>!Nat.beq r.t 5)=true) (hob:allB (offU X.w0.heap.size) i s.ob)
  (h:∀ A',setO i (bldO X.w0.heap.size b A' bs true) s.ob fun ob=>K (.v (.string ⟨bs.toArray⟩)) ⟨s.fr,s.m,ob⟩) (he:entChk X.P f=true:=by kernel_rfl):CallVC X f vs s K:=by
 refine callK i b (A:=bldO X.w0.heap.size b A bs true) (ι:=Option Addr) (fun _=>.v (.string ⟨bs.toArray⟩)) (fun A'=>bldO X.w0.heap.size b A' bs true) (fun w hH hS=>?_) (List.mem_cons_self ..) (fun j r hr ht=>?_) (fun k C hC hk=>kO (allB_of hob hC hk)) h hA rfl he (fun _=>rfl)
 ·rw [hv,hf,hP]
  refine (stringC hS hH.upd.size).mono ?_
  rintro e w' ⟨A',rfl,h1,h2,h3,h4⟩
  exact ⟨A',rfl,h1,h2,h3,h4⟩
 ·have:=List.all_eq_true.1 hrow r (List.mem_of_getElem? hr)
  rw [ht] at this
  exact absurd this (by decide)
end
section
variable {lo gq M:Nat} {c:CfgV} {x:Gp} {ep sk sa sb:Int} {K:KV} {Sk:List Nat} {D:Fam} {w:World} {dA:Option Addr} {dn dc:Nat}
theorem upTo_len (vs:List ViewV) (hn:∀ v∈vs,n64 v.un∧n64 v.ds∧n64 v.mo∧n64 v.wy∧n64 v.lo) (hl:vs.length≤1000):∀ k,k≤vs.length→(upTo vs k).length≤132*k:=by
 intro k
 induction k with
 | zero=>intro _; simp [upTo]
 | succ k ih =>
  intro hk
  have h1:=ih (by omega)
  obtain ⟨v,hv⟩:∃ v,vs[k]?=some v:=⟨_,List.getElem?_eq_getElem (by omega)⟩
  obtain ⟨a1,a2,a3,a4,a5⟩:=hn v (List.mem_of_getElem? hv)
  have b0:=Lib.itoa_length_le (k:Int) (by omega) (by omega)
  have b1:=Lib.itoa_length_le _ a1.1 a1.2
  have b2:=Lib.itoa_length_le _ a2.1 a2.2
  have b3:=Lib.itoa_length_le _ a3.1 a3.2
  have b4:=Lib.itoa_length_le _ a4.1 a4.2
  have b5:=Lib.itoa_length_le _ a5.1 a5.2
  unfold upTo
  rw [hv]
  simp only [lineL,numsL,vN,List.take_succ_cons,List.take_zero,List.flatMap_cons,List.flatMap_nil,List.length_append,List.length_cons,List.length_nil]
  omega
theorem numsL_len (ns:List Int) (hn:∀ n∈ns,n64 n):∀ j,j≤ns.length→(numsL ns j).length≤22*j:=by
 intro j
 induction j with
 | zero=>intro _; simp [numsL]
 | succ j ih =>
  intro hj
  have h1:=ih (by omega)
  have h2:=hn _ (List.getElem_mem (by omega:j < ns.length))
  have h3:=Lib.itoa_length_le _ h2.1 h2.2
  unfold numsL at h1 ⊢
  rw [List.take_succ_eq_append_getElem (by omega),List.flatMap_append]
  simp only [List.flatMap_cons,List.flatMap_nil,List.length_append,List.length_cons,List.length_nil]
  omega
theorem numsL_succ {ns:List Int} {j:Nat} {n:Int} (h:ns[j]?=some n):numsL ns (j+1)=numsL ns j++(Lib.itoa n++[32]):=by
 obtain ⟨hj,rfl⟩:=List.getElem?_eq_some_iff.1 h
 unfold numsL
 rw [List.take_succ_eq_append_getElem hj,List.flatMap_append]
 simp
set_option maxHeartbeats 4000000 in
theorem listT (hb:Blk w gq 96 (gwA c x ep)) (h:KG lo x.q x.p x.mb M K Sk D w) (hg:gq∉kgF x.mb Sk D) (h0:0 < K.G.cars.length) (h1:K.G.cars.length≤1000) (htab:Lib.TabIs Tryz.prog w "internal/strconv.uint64pow10" .u64 Lib.pow10Tab) (hn:∀ v∈K.G.cars.map viewOf,n64 v.un∧n64 v.ds∧n64 v.mo∧n64 v.wy∧n64 v.lo) :
  Calls Tryz.prog 78 #[.pointer (some ⟨gq,0,none⟩),.agg #[.int .i64 sk,.int .i64 sa,.int .i64 sb,.slice dA dn dc]] w fun e w'=>∃ g gb c':Nat,e=.returned (.tuple #[.slice (some ⟨g,0,none⟩) 1 1,.int .i64 0])∧Blk w' g 64 #[.int .i64 (-1),.slice (some ⟨gb,0,none⟩) (upTo (K.G.cars.map viewOf) K.G.cars.length).length c']∧(strO gb (upTo (K.G.cars.map viewOf) K.G.cars.length)).st w'∧Since w w'∧w.heap.size≤g∧w.heap.size≤gb∧g≠gb:=by
 have hlow:∀ g∈kgF x.mb Sk D,g < w.heap.size:=(kgO lo x.q x.p x.mb M K Sk D false).lt h
 have u0:offU w.heap.size (kgO lo x.q x.p x.mb M K Sk D false):=fun w1 _ g hg=>.inl (hlow g hg)
 have hlen:(K.G.cars.map viewOf).length=K.G.cars.length:=List.length_map ..
 generalize hN:K.G.cars.length=n at *
 generalize hV:K.G.cars.map viewOf=vs at *
 refine entH tab_ok (hold_gr hb h hg) [.p 0 0,.a [.i .i64 sk,.i .i64 sa,.i .i64 sb,.v (.slice dA dn dc)]] Tryz.func78 Tryz.ntmps78 rfl rfl ?_
 conv=>whnf
 intro b1
 conv=>whnf
 intro b2
 conv=>whnf
 refine sgo ⟨tab_ok⟩ ?_
 conv=>whnf
 refine bldX 2 (by rfl) (by rfl) rfl (fun _=>by rfl) rfl (by rfl) ?_
 conv=>whnf
 refine callN (f:=32) (ι:=Nat×Nat) (fun y=>.v (.slice (some ⟨y.1,0,none⟩) n y.2)) (fun y=>rwO viewE w.heap.size (some ⟨y.1,0,none⟩) n y.2 vs true) (fun w1 hH=>(viewsT (hH.row 0 _ rfl rfl) (Hold.ob hH (A:=kgO lo x.q x.p x.mb M K Sk D false) 0 rfl) hg (by omega) (by omega)).mono (by
  rintro e w' ⟨A',c',rfl,a1,a2⟩
  rw [hN,hV] at a1
  obtain ⟨g',hg'⟩:=Ek.addr a1
  have hg':=hg' h0
  subst hg'
  exact ⟨(g',c'),by rw [hN]; rfl,Ek.base a1 hH.upd.size,a2,Ek.lows a1⟩)) (fun y=>?_)
 conv=>whnf
 refine lp ⟨tab_ok⟩ (ι:={v:(Nat×Option Addr)×List UInt8 // v.1.1≤n∧upTo vs v.1.1=v.2}) (fun v=>match v with | ⟨((k,A),bs),_⟩=>⟨[(6,.p 2 0),(12,.v (.slice (some ⟨y.1,0,none⟩) n y.2)),(13,.i .i64 n),(14,.i .i64 (k:Int))],[⟨gq,96,true,0,[],gwS c x ep,[],false⟩,⟨b1,38,true,0,[],[.i .i64 sk,.i .i64 sa,.i .i64 sb,.v (.slice dA dn dc)],[],true⟩,⟨b2,169,false,0,[],[.v (.pointer none),.v (.slice none 0 0)],[],true⟩],[kgO lo x.q x.p x.mb M K Sk D false,bldO w.heap.size b2 A bs true,rwO viewE w.heap.size (some ⟨y.1,0,none⟩) n y.2 vs true]⟩) (fun v=>n - v.1.1.1) ⟨((0,none),[]),Nat.zero_le _,rfl⟩ (wk ?_) ?_
 ·repeat' (first | exact trivial | rfl | ((conv=>whnf); refine And.intro ?_ ?_))
 rintro ⟨⟨⟨k,A⟩,bs⟩,hk,he⟩
 have hk:k≤n:=hk
 have he:upTo vs k=bs:=he
 have hbs:bs.length≤132*k:=by rw [← he]; exact upTo_len vs hn (by omega) k (by omega)
 by_cases hlt:k < n
 ·obtain ⟨z,hz⟩:∃ z,vs[k]?=some z:=⟨_,List.getElem?_eq_getElem (by omega)⟩
  obtain ⟨a1,a2,a3,a4,a5⟩:=hn z (List.mem_of_getElem? hz)
  have a0:n64 (k:Int):=⟨by omega,by omega⟩
  have he2:upTo vs (k+1)=bs++lineL k z:=by rw [← he]; show upTo vs k++_=_; rw [hz]
  have hns:∀ i∈vN k z,n64 i:=by
   intro i hi
   simp only [vN,List.mem_cons,List.mem_nil_iff,or_false] at hi
   rcases hi with rfl | rfl | rfl | rfl | rfl <;> assumption
  repeat' (first | refine gq_ ?_|((conv=>whnf); first | refine bto ?_|refine bfo ?_|refine wr_i ?_|refine iv_ ?_|refine opix (g:=y.1) (off:=0+k*5) [.i .i64 z.un,.i .i64 z.ds,.i .i64 z.mo,.i .i64 z.wy,.i .i64 z.lo] (fun w hH=>Ek.rng (Hold.ob hH (A:=rwO viewE _ (some ⟨y.1,0,none⟩) n y.2 vs true) 2 rfl) hz) ⟨tab_ok⟩ (by rfl) (by rfl) (by show Addr.add ⟨y.1,0,none⟩ (k*5)=_; rw [Go.WideShapes.add_plain]) ?_|refine fin_s ?_))
  intro b3
  repeat' (first | refine gq_ ?_|((conv=>whnf); first | refine bto ?_|refine bfo ?_|refine wr_i ?_|refine opbo ⟨tab_ok⟩ Qu.intE (vN k z) [_,_,_,_,_] [.i .i64 k,.i .i64 z.un,.i .i64 z.ds,.i .i64 z.mo,.i .i64 z.wy] (by rfl) (by rfl) (by rfl) rfl rfl (fun g0=>?_)|refine fin_s ?_))
  conv=>whnf
  refine lp ⟨tab_ok⟩ (ι:={v:(Nat×Option Addr)×List UInt8 // v.1.1≤5∧bs++numsL (vN k z) v.1.1=v.2}) (fun v=>match v with | ⟨((j,A),bs),_⟩=>⟨[(6,.p 2 0),(8,.p 3 0),(12,.v (.slice (some ⟨y.1,0,none⟩) n y.2)),(13,.i .i64 n),(14,.i .i64 (k:Int)),(28,.v (.slice (some ⟨g0,0,none⟩) 5 5)),(29,.i .i64 5),(30,.i .i64 (j:Int))],[⟨gq,96,true,0,[],gwS c x ep,[],false⟩,⟨b1,38,true,0,[],[.i .i64 sk,.i .i64 sa,.i .i64 sb,.v (.slice dA dn dc)],[],true⟩,⟨b2,169,false,0,[],[.v (.pointer none),.v (.slice none 0 0)],[],true⟩,⟨b3,62,true,0,[],[.i .i64 z.un,.i .i64 z.ds,.i .i64 z.mo,.i .i64 z.wy,.i .i64 z.lo],[],true⟩],[kgO lo x.q x.p x.mb M K Sk D false,bldO w.heap.size b2 A bs true,rwO viewE w.heap.size (some ⟨y.1,0,none⟩) n y.2 vs true,rwO Qu.intE w.heap.size (some ⟨g0,0,none⟩) 5 5 (vN k z) true]⟩) (fun v=>5 - v.1.1.1) ⟨((0,A),bs),Nat.zero_le _,by simp [numsL]⟩ (wk ?_) ?_
  ·repeat' (first | exact trivial | rfl | ((conv=>whnf); refine And.intro ?_ ?_))
  rintro ⟨⟨⟨j,A2⟩,es⟩,hj,he3⟩
  have hj:j≤5:=hj
  have he3:bs++numsL (vN k z) j=es:=he3
  have hes:es.length≤132*k+22*j:=by
   have:=numsL_len (vN k z) hns j (by exact hj)
   rw [← he3,List.length_append]; omega
  by_cases hlj:j < 5
  ·obtain ⟨i,hi⟩:∃ i,(vN k z)[j]?=some i:=⟨_,List.getElem?_eq_getElem (by exact hlj)⟩
   have hi64:=hns i (List.mem_of_getElem? hi)
   have hil:=Lib.itoa_length_le _ hi64.1 hi64.2
   have he4:bs++numsL (vN k z) (j+1)=es++(Lib.itoa i++[32]):=by rw [numsL_succ hi,← he3,List.append_assoc]
   repeat' (first | refine gq_ ?_|((conv=>whnf); first | refine bto ?_|refine bfo ?_|refine wr_i ?_|refine iv_ ?_|refine opxc (g:=g0) (off:=0+j*1) (.i .i64 i) (fun w hH=>Ek.rng (Hold.ob hH (A:=rwO Qu.intE _ (some ⟨g0,0,none⟩) 5 5 (vN k z) true) 3 rfl) hi) ⟨tab_ok⟩ (by rfl) (by rfl) (by show Addr.add ⟨g0,0,none⟩ (j*1)=_; rw [Go.WideShapes.add_plain]) ?_|refine callH (f:=108) (.v (.string ⟨(Lib.itoa i).toArray⟩)) (fun w1 hH=>itoaC i hi64.1 hi64.2 w1 (tab_up htab hH.upd)) ?_|refine opsa (xs:=Lib.itoa i) (ys:=[32]) (by rfl) (by rfl) (by rfl) (by omega) (by decide) ?_|refine wrtX 1 b2 (l:=Lib.itoa i++[32]) (by rfl) rfl (by rfl) (by rfl) (by simp only [List.length_append,List.length_cons,List.length_nil]; omega) (by rfl) (And.intro u0 (fun C hC=>?_)) (fun A3=>?_)|refine En.back ⟨((j+1,A3),es++(Lib.itoa i++[32])),by show j+1≤_; omega,he4⟩ (wk ?_) ?_|refine fin_s ?_))
   all_goals first | (show 5 - (j+1) < 5 - j; omega)|skip
   all_goals first | (refine off_cons (rw_k (by decide)) (off_cons (rw_k (by decide)) off_nil) C hC)|(refine off_cons (rw_k (by decide)) off_nil C hC)|skip
   all_goals (repeat' (first | exact trivial | rfl | ((conv=>whnf); refine And.intro ?_ ?_)))
  ·obtain rfl:j=5:=by omega
   have hi64:=a5
   have hil:=Lib.itoa_length_le _ hi64.1 hi64.2
   have he4:upTo vs (k+1)=es++(Lib.itoa z.lo++[10]):=by rw [he2,← he3]; unfold lineL; rw [List.append_assoc]
   repeat' (first | refine gq_ ?_|((conv=>whnf); first | refine bto ?_|refine bfo ?_|refine wr_i ?_|refine callH (f:=108) (.v (.string ⟨(Lib.itoa z.lo).toArray⟩)) (fun w1 hH=>itoaC z.lo hi64.1 hi64.2 w1 (tab_up htab hH.upd)) ?_|refine opsa (xs:=Lib.itoa z.lo) (ys:=[10]) (by rfl) (by rfl) (by rfl) (by omega) (by decide) ?_|refine wrtX 1 b2 (l:=Lib.itoa z.lo++[10]) (by rfl) rfl (by rfl) (by rfl) (by simp only [List.length_append,List.length_cons,List.length_nil]; omega) (by rfl) (And.intro u0 (fun C hC=>?_)) (fun A3=>?_)|refine En.back ⟨((k+1,A3),es++(Lib.itoa z.lo++[10])),by show k+1≤_; omega,he4⟩ (wkd ?_) ?_|refine fin_s ?_))
   all_goals first | (show n - (k+1) < n - k; omega)|skip
   all_goals first | (refine off_cons (rw_k (by decide)) (off_cons (rw_k (by decide)) off_nil) C hC)|(refine off_cons (rw_k (by decide)) off_nil C hC)|skip
   all_goals (repeat' (first | exact trivial | rfl | ((conv=>whnf); refine And.intro ?_ ?_)))
 ·obtain rfl:k=n:=by omega
  subst he
  repeat' (first | refine gq_ ?_|((conv=>whnf); first | refine bto ?_|refine bfo ?_|refine wr_i ?_|refine stgX 1 b2 (by rfl) rfl (by rfl) (by rfl) (by rfl) (And.intro u0 (off_cons (rw_k (by decide)) off_nil)) (fun A3=>?_)|refine opcb (bs:=upTo vs k) (by rfl) (by rfl) (Tryz.underlying9) (Tryz.underlying29) (Tryz.underlying5) (fun gb cb=>?_)|refine opb1 (e:=64) ⟨tab_ok⟩ [.i .i64 (-1),.v (.slice (some ⟨gb,0,none⟩) (upTo vs k).length cb)] (by rfl) (by rfl) ?_|intro g1 | refine fin fun w' hH=>?_|refine fin_s ?_))
  have hS:=Hold.ob hH (A:=strO gb (upTo vs k)) 3 rfl
  have hB:=hH.row 3 _ rfl rfl
  refine ⟨g1,gb,cb,rfl, ?_,hS,hH.upd.since, ?_, ?_, ?_⟩
  ·exact hB
  ·rcases (hH.wf 3 _ rfl rfl).2.2 rfl with h | h
   ·cases h
   ·exact h
  ·rcases hH.own _ (List.mem_of_getElem? (i:=3) rfl) rfl gb (List.mem_singleton.2 rfl) with h | h
   ·cases h
   ·exact h
  ·intro e
   exact hH.far _ (List.mem_of_getElem? (i:=3) rfl) 3 _ rfl rfl (by rw [e]; exact List.mem_singleton.2 rfl)
end
end Gw
namespace Gw
open Go.RowKit Ba Mem En Go.Proofs.YtepfmfalebmcnaaGreatDoor.Ty Mp
open Co (KV Pt KW Hold.ob)
set_option maxRecDepth 100000
attribute [local irreducible] Go.Calls
theorem tab_upT {P:Program} {T:List Nat} {w w':World} {nm:String} {k:IntKind} {zs:List Int} (h:Lib.TabIs P w nm k zs) (u:Upd T w w') (hT:∀ g,P.globalNamed nm=some g→g∉T):Lib.TabIs P w' nm k zs:=by
 unfold Lib.TabIs World.var? at h ⊢
 cases hg:P.globalNamed nm with
 | none=>simp [hg] at h
 | some g =>
  simp only [hg,Option.bind_some] at h ⊢
  have hlt:g < w.heap.size:=by
   rcases Nat.lt_or_ge g w.heap.size with h' | h'
   ·exact h'
   ·simp [Array.getElem?_eq_none h'] at h
  rw [u.block g hlt (hT g hg)]
  exact h
def listO (g gb c:Nat) (bs:List UInt8):Asr:=⟨[g,gb],true,fun w=>Blk w g 64 #[.int .i64 (-1),.slice (some ⟨gb,0,none⟩) bs.length c]∧(strO gb bs).st w,fun u hd h=>⟨u.blk h.1 (hd g (List.mem_cons_self ..)),(strO gb bs).up u (fun x hx=>hd x (List.mem_cons_of_mem _ hx)) h.2⟩,fun h x hx=>by
 rcases List.mem_cons.1 hx with rfl | hx
 ·exact h.1.lt
 ·exact (strO gb bs).lt h.2 x hx⟩
section
variable {gq M N:Nat} {c:CfgV} {x:Gp} {ep sa sb:Int} {K:KV} {xs:List Int} {Sk Ss:List Nat} {D:Fam} {w:World} {dA:Option Addr} {dn dc:Nat}
theorem listD (h:GWt gq c x M N K ep xs Sk D Ss w) (h0:0 < K.G.cars.length) (h1:K.G.cars.length≤1000) (htab:Lib.TabIs Tryz.prog w "internal/strconv.uint64pow10" .u64 Lib.pow10Tab) (hT:∀ g,(Tryz.prog).globalNamed "internal/strconv.uint64pow10" = some g→g∉gwF gq x Sk D Ss) (hn:∀ v∈K.G.cars.map viewOf,n64 v.un∧n64 v.ds∧n64 v.mo∧n64 v.wy∧n64 v.lo) :
  Calls Tryz.prog 24 #[.pointer (some ⟨gq,0,none⟩),.agg #[.int .i64 8,.int .i64 sa,.int .i64 sb,.slice dA dn dc]] w fun e w'=>∃ y:Nat×Nat×Nat,e=.returned (.tuple #[.slice (some ⟨y.1,0,none⟩) 1 1,.int .i64 0])∧GWt gq c x M N K ep xs Sk D Ss w'∧(listO y.1 y.2.1 y.2.2 (upTo (K.G.cars.map viewOf) K.G.cars.length)).st w'∧Upd (gwF gq x Sk D Ss) w w'∧∀ g∈[y.1,y.2.1],w.heap.size≤g∧g∉gwF gq x Sk D Ss:=by
 refine entH tab_ok (hold_w h) [.v (.pointer (some ⟨gq,0,none⟩)),.a [.i .i64 8,.i .i64 sa,.i .i64 sb,.v (.slice dA dn dc)]] Tryz.func24 Tryz.ntmps24 rfl rfl ?_
 repeat' (first | refine gs_ ?_|((conv=>whnf); first | intro b0 | refine And.intro ?_ ?_|refine callN (f:=53) (ι:=Nat) (fun b=>.v (.map (some b))) (fun b=>mpO Tryz.prog 3 b 8 (mtab kindL) true) (fun w1 hH=>(kindsT w1).mono (by rintro e w' ⟨b,rfl,h1,h2,h3⟩; exact ⟨b,rfl,h1,h2,fun g hg=>by rw [List.mem_singleton.1 hg]; exact h3⟩)) (fun b=>?_)|refine oplo (b:=b) (n:=8) (m:=mtab kindL) (k:=3) (e:=104) 1 _ (.f 78 []) true (by rfl) (by rfl) (by rfl) (by rfl) (fun w h=>h) (by kernel_rfl) (by kernel_rfl) (fun w=>rfl) (wf_small (by decide)) (by rfl) (by rfl) ?_|refine callN (f:=78) (ι:=Nat×Nat×Nat) (fun y=>.t [.v (.slice (some ⟨y.1,0,none⟩) 1 1),.i .i64 0]) (fun y=>listO y.1 y.2.1 y.2.2 (upTo (K.G.cars.map viewOf) K.G.cars.length)) (fun w1 hH=>have hW:=Hold.ob hH (A:=gwO gq c x M N K ep xs Sk D Ss true) 0 rfl; (listT hW.b hW.k hW.g1 h0 h1 (tab_upT htab hH.upd hT) hn).mono (by rintro e w' ⟨g,gb,c',rfl,a1,a2,a3,a4,a5,a6⟩; exact ⟨(g,gb,c'),rfl,⟨a1,a2⟩,a3,fun g2 hg2=>by rcases List.mem_cons.1 hg2 with rfl | hg2; exact a4; rw [List.mem_singleton.1 hg2]; exact a5⟩)) (fun y=>?_)|refine fin fun w' hH=>?_|refine fin_s ?_))
 refine ⟨y,rfl,Hold.ob hH (A:=gwO gq c x M N K ep xs Sk D Ss true) 0 rfl,Hold.ob hH (A:=listO y.1 y.2.1 y.2.2 (upTo (K.G.cars.map viewOf) K.G.cars.length)) 2 rfl,hH.upd,fun g hg=>?_⟩
 have hd:=(pair_at (R:=DisR) (fun _ _ h=>h.symm) hH.dis (i:=2) (j:=0) rfl rfl (by decide) (.inl rfl)) g hg
 rcases hH.own _ (List.mem_of_getElem? (i:=2) rfl) rfl g hg with h2 | h2
 ·exact absurd h2 hd
 ·exact ⟨h2,hd⟩
end
end Gw
namespace Lc
open Go.RowKit Ba Mem En Go.Proofs.YtepfmfalebmcnaaGreatDoor.Ty Mo Go.Proofs.YtepfmfalebmcnaaGreatDoor.St Co
open Gr (GrV one giveR aimR takeR tickG)
def SU (G G':GrV):Prop:=G'.cars.length=G.cars.length∧∀ (i:Nat) (x:CarV),G.cars[i]?=some x→∃ y,G'.cars[i]?=some y∧y.ds=x.ds∧y.un=x.un
theorem SU.one {G:GrV} (i:Int) (f:CarV→CarV×Int) (hf:∀ x,(f x).1.ds=x.ds∧(f x).1.un=x.un):SU G (Gr.one G i f).1 :=
 ⟨Gr.one_same.2.2.2,fun k x h=>⟨_,Gr.one_at h,by split; exact (hf x).1; rfl,by split; exact (hf x).2; rfl⟩⟩
end Lc
namespace Gw
open Go.RowKit Ba Mem En Go.Proofs.YtepfmfalebmcnaaGreatDoor.Ty
open Ri (MsgV)
open Mg (PktV)
open Fm (frames)
open Byt (isB)
open Co (KV KI KT EvV ansK hearK goneK tickK tickE inC newK setK stepK foldK tkK1 grantK)
open Gr (GrV doR aimR takeR)
open Lc (PI CI doK KopV)
set_option maxRecDepth 100000
structure Rk (R:KV→KV→Prop):Prop where
 refl:∀ K,R K K
 trans:∀ {K K' K''},R K K'→R K' K''→R K K''
 gone:∀ K s,R K (goneK K s)
 ans:∀ K a,R K (ansK K a)
 hear:∀ K s m,R K (hearK K s m)
section
variable {R:KV→KV→Prop}
theorem Rk.tell1 (h:Rk R) (x:Kv) (e:EvV):R x.1 (tell1 x e).1:=by
 unfold Gw.tell1
 cases x.2 e.s with
 | none=>exact h.refl _
 | some v =>
  simp only []
  split
  ·exact h.refl _
  ·exact h.gone _ _
theorem Rk.tell (h:Rk R):∀ (es:List EvV) (x:Kv),R x.1 (tellF x es).1
 | [],x=>h.refl _
 | e::r,x=>h.trans (h.tell1 x e) (Rk.tell h r (Gw.tell1 x e))
theorem Rk.born (h:Rk R) (c:CfgV) (x:Kv) (e i:Int) (m:MsgV):R x.1 (bornK c x e i m).1:=h.tell1 (x.1,setV x.2 i (some (newV c i e x.1.G.now m))) ⟨i,⟨2,e,0,0⟩⟩
theorem Rk.wel (h:Rk R) (c:CfgV) (x:Kv) (ep i:Int) (m:MsgV):R x.1 (welK c x ep i m).1.1:=by
 unfold welK
 cases x.2 i with
 | none=>exact h.born ..
 | some v =>
  simp only []
  split
  ·exact h.refl _
  ·exact h.trans (h.gone x.1 i) (h.born c (endV x i) _ _ _)
theorem Rk.said (h:Rk R) (K:KV) (n f:Int) (m:MsgV):R K (saidK K n f m):=by
 unfold saidK
 split
 ·exact h.ans ..
 ·split
  ·exact h.hear ..
  ·exact h.refl _
theorem Rk.come (h:Rk R) (c:CfgV) (x:Kv) (ep:Int) (p:PktV):R x.1 (comeK c x ep p).1.1:=by
 unfold comeK
 split
 ·exact h.wel ..
 ·cases x.2 p.se with
  | none=>exact h.refl _
  | some v =>
   simp only []
   split
   ·exact h.trans (h.said ..) (h.tell _ (saidK x.1 p.se v.h.b (msgP p),setV x.2 p.se (some (recvS v p x.1.G.now true))))
   ·exact h.refl _
theorem Rk.run (h:Rk R) (c:CfgV):∀ (ps:List (List Int)) (x:Kv×Int),R x.1.1 (runL c x ps).1.1
 | [],x=>h.refl _
 | p::r,x=>by
  show R x.1.1 (runL c (if (Mg.getV p).2=0 then comeK c x.1 x.2 (Mg.getV p).1 else x) r).1.1
  refine h.trans ?_ (Rk.run h c r _)
  split
  ·exact h.come ..
  ·exact h.refl _
theorem Rk.tickS (h:Rk R) (x:Ko) (i:Int):R x.1.1 (tickS x i).1.1:=by
 unfold Gw.tickS
 cases x.1.2 i with
 | none=>exact h.refl _
 | some v =>
  simp only []
  split
  ·exact h.gone ..
  ·exact h.refl _
theorem Rk.tickL (h:Rk R):∀ (ks:List Int) (x:Ko),R x.1.1 (tickL x ks).1.1
 | [],x=>h.refl _
 | k::r,x=>h.trans (h.tickS x k) (Rk.tickL h r (Gw.tickS x k))
theorem Rk.tick (h:Rk R) (x:Kv):R (tickK x.1) (tickG x).1.1:=by
 unfold tickG
 exact h.trans (h.tell (tickE x.1) (tickK x.1,x.2)) (h.tickL _ (tellF (tickK x.1,x.2) (tickE x.1),[]))
end
def SL (G G':GrV):Prop:=G'.cars.length=G.cars.length∧∀ (i:Nat) (x:CarV),G.cars[i]?=some x→∃ y,G'.cars[i]?=some y∧y.lo=x.lo
theorem SL.refl (G:GrV):SL G G:=⟨rfl,fun i x h=>⟨x,h,rfl⟩⟩
theorem SL.trans {G G' G'':GrV} (h:SL G G') (k:SL G' G''):SL G G'':=⟨k.1.trans h.1,fun i x hx=>by
 obtain ⟨y,h1,h2⟩:=h.2 i x hx
 obtain ⟨z,k1,k2⟩:=k.2 i y h1
 exact ⟨z,k1,k2.trans h2⟩⟩
theorem SL.one {G:GrV} (i:Int) (f:CarV→CarV×Int) (hf:∀ x,(f x).1.lo=x.lo):SL G (Gr.one G i f).1 :=
 ⟨Gr.one_same.2.2.2,fun k x h=>⟨_,Gr.one_at h,by split; exact hf x; rfl⟩⟩
theorem sl_end (K:KV) (s:Int):SL K.G (Co.endK K s).G:=by
 unfold Co.endK; split
 ·exact SL.one _ _ (fun x=>by show (Gr.givX _ x).lo=_; unfold Gr.givX; split <;> rfl)
 ·exact SL.refl _
theorem sl_set (K:KV) (l:LeaseV) (o:Bool):SL K.G (setK K l o).G:=by
 unfold Co.setK; split
 ·exact sl_end _ _
 ·show SL K.G (aimR _ _ _ _).1
  unfold Gr.aimR; split
  ·exact SL.one _ _ (fun x=>by show (Gr.aimX _ _ x).lo=_; unfold Gr.aimX; split <;> rfl)
  ·exact SL.refl _
theorem sl_fold (K:KV) (k:Nat):SL (Gr.tickG K.G) (foldK K k).1.G:=by
 have key:∀ (ls:List LeaseV) (x:KV×List EvV),SL x.1.G (ls.foldl stepK x).1.G:=by
  intro ls
  induction ls with
  | nil=>intro x; exact SL.refl _
  | cons l r ih=>intro x; rw [List.foldl_cons]; exact SL.trans (sl_set x.1 _ _) (ih (stepK x l))
 exact key _ (tkK1 K,[])
theorem sl_grant (K:KV):SL K.G (grantK K).G:=by
 unfold Co.grantK; split
 ·exact SL.refl _
 ·rename_i a _
  show SL K.G (takeR _ _ _).1
  unfold Gr.takeR; split
  ·exact SL.one _ _ (fun x=>by show (Gr.takeX _ x).lo=_; unfold Gr.takeX; split <;> rfl)
  ·exact SL.refl _
theorem tkV_lo (c:CfgV) (y:CarV):(Ct.tkV c y).lo=y.lo:=by
 show (Ct.tkX c y).lo=y.lo
 unfold Ct.tkX Ct.ldX Ct.goX Ct.stX Ct.svX
 (repeat' split) <;> rfl
theorem sl_tick (K:KV):SL K.G (tickK K).G:=by
 refine SL.trans ?_ ((sl_fold K _).trans (sl_grant _))
 refine ⟨Gr.tick_len _,fun i x hx=>?_⟩
 obtain ⟨y,_,hn,hz⟩:=Gr.tick_at hx
 refine ⟨_,hz, ?_⟩
 have h0:y={ x with su:=y.su,sd:=y.sd }:=hn
 have h1:y.lo=({ x with su:=y.su,sd:=y.sd }:CarV).lo:=congrArg CarV.lo h0
 have h1:y.lo=x.lo:=h1
 rw [← h1]
 exact tkV_lo _ _
theorem rk_lo:Rk (fun K K'=>SL K.G K'.G):=⟨fun K=>SL.refl _,fun h k=>SL.trans h k,fun K s=>sl_end K s,fun K a=>SL.refl _,fun K s m=>by
 unfold Co.hearK; split
 ·exact sl_set _ _ _
 ·exact SL.refl _⟩
def LoK (K:KV):Prop:=∀ x∈K.G.cars,n64 x.lo
theorem SL.lo {K K':KV} (h:SL K.G K'.G) (hl:LoK K):LoK K':=fun z hz=>by
 obtain ⟨i,hi,rfl⟩:=List.mem_iff_getElem.1 hz
 have hi2:i < K.G.cars.length:=by rw [← h.1]; exact hi
 obtain ⟨y,h1,h2⟩:=h.2 i _ (List.getElem?_eq_getElem hi2)
 rw [List.getElem?_eq_getElem hi] at h1
 rw [Option.some.inj h1,h2]
 exact hl _ (List.getElem_mem hi2)
structure Gs where
 x:Kv
 ep:Int
 xs:List Int
def txtV (cs:List CarV):List Int:=(upTo (cs.map viewOf) cs.length).map fun b=>(b.toNat:Int)
def grpG (g:Gs) (G:GrV):Gs:=⟨({ g.x.1 with G:=G },g.x.2),g.ep,g.xs⟩
def doV (c:CfgV) (g:Gs) (k a b:Int) (d:List Int):Gs×List (Int×List Int)×Int :=
 if k=1 then (⟨(tickG g.x).1,g.ep,g.xs⟩,(tickG g.x).2,0)
 else if k=2 then (⟨(runL c (g.x,g.ep) (frames (g.xs++d)).1).1,(runL c (g.x,g.ep) (frames (g.xs++d)).1).2,(frames (g.xs++d)).2⟩,[],0)
 else if 3≤k∧k≤7 then (grpG g (doR g.x.1.G (k - 2) a b (b == 1)).1,[],(doR g.x.1.G (k - 2) a b (b == 1)).2)
 else if k=8 then (g,[(-1,txtV g.x.1.G.cars)],0)
 else (g,[],1)
theorem come_ep (c:CfgV) (x:Kv) (ep:Int) (p:PktV):(comeK c x ep p).2=ep∨(comeK c x ep p).2=nxE ep:=by
 unfold comeK
 split
 ·unfold welK
  cases x.2 p.se with
  | none=>exact .inr rfl
  | some v =>
   simp only []
   split
   ·exact .inl rfl
   ·exact .inr rfl
 ·cases x.2 p.se with
  | none=>exact .inl rfl
  | some v =>
   simp only []
   split <;> exact .inl rfl
theorem nxE_one {e:Int} (h:0≤e∧e < 65535):nxE e=e+1:=by
 have:Se.nx e=e+1:=by unfold Se.nx; omega
 unfold nxE
 rw [this,if_neg (by omega)]
theorem run_ep (c:CfgV):∀ (ps:List (List Int)) (x:Kv×Int),0≤x.2→x.2+ps.length≤65535→x.2≤(runL c x ps).2∧(runL c x ps).2≤x.2+ps.length
 | [],x,h,_=>⟨Int.le_refl _,by show x.2≤_; simp⟩
 | p::r,x,h,h2=>by
  show x.2≤(runL c (if (Mg.getV p).2=0 then comeK c x.1 x.2 (Mg.getV p).1 else x) r).2∧(runL c (if (Mg.getV p).2=0 then comeK c x.1 x.2 (Mg.getV p).1 else x) r).2≤_
  simp only [List.length_cons] at h2 ⊢
  have hx:x.2≤(if (Mg.getV p).2=0 then comeK c x.1 x.2 (Mg.getV p).1 else x).2∧(if (Mg.getV p).2=0 then comeK c x.1 x.2 (Mg.getV p).1 else x).2≤x.2+1:=by
   split
   ·rcases come_ep c x.1 x.2 (Mg.getV p).1 with e | e
    ·rw [e]; omega
    ·rw [e,nxE_one (by omega)]; omega
   ·omega
  have:=run_ep c r (if (Mg.getV p).2=0 then comeK c x.1 x.2 (Mg.getV p).1 else x) (by omega) (by omega)
  omega
structure GI (c:CfgV) (i B:Nat) (g:Gs):Prop where
 j:JI c i i g.x
 lo:LoK g.x.1
 e:0≤g.ep∧g.ep+(g.xs.length:Int)≤B
theorem GI.new (c:CfgV):GI c 0 0 ⟨(newK c,fun _=>none),0,[]⟩:=⟨JI.new c,fun x hx=>by
 have:=List.eq_of_mem_replicate (show x∈List.replicate (Gr.ncars c) Gr.zeroX from hx)
 rw [this]; exact ⟨by decide,by decide⟩,by simp⟩
theorem GI.more {c:CfgV} {i B i' B':Nat} {g:Gs} (h:GI c i B g) (h1:i≤i') (h2:B≤B'):GI c i' B' g:=⟨h.j.more h1 h1,h.lo,by have:=h.e; omega⟩
theorem doR_lo {G:GrV} {k a b:Int} {y:Bool} (hk:1≤k∧k≤5) (hb:n64 b) (h:∀ x∈G.cars,n64 x.lo):∀ x∈(doR G k a b y).1.cars,n64 x.lo:=by
 have on:∀ (f:CarV→CarV×Int),(∀ x,n64 x.lo→n64 (f x).1.lo)→∀ x∈(Gr.one G a f).1.cars,n64 x.lo:=fun f hf=>Gr.one_cars h (fun x _ hx=>hf x hx)
 unfold Gr.doR
 split
 ·unfold Gr.hallR; (repeat' split) <;> exact h
 split
 ·unfold Gr.pressR; split
  ·exact on _ (fun x hx=>by show n64 (Gr.pressX _ x).lo; unfold Gr.pressX; split <;> exact hx)
  ·exact h
 split
 ·exact on _ (fun x _=>hb)
 split
 ·exact on _ (fun x hx=>hx)
 split
 ·unfold Gr.faultR; split
  ·split
   ·exact on _ (fun x hx=>hx)
   ·exact h
  ·exact on _ (fun x hx=>hx)
 omega
theorem GI.do_ {c:CfgV} {i B:Nat} {g:Gs} (h:GI c i B g) (hi:i < 10000) {k a b:Int} {d:List Int} (hB:B+d.length≤60000) (hb:n64 b):GI c (i+1) (B+d.length) (doV c g k a b d).1:=by
 have he:=h.e
 have hm:GI c (i+1) (B+d.length) g:=h.more (by omega) (by omega)
 unfold doV
 by_cases h1:k=1
 ·rw [if_pos h1]
  exact ⟨(h.j.tick hi).more (by omega) (Nat.le_refl _),SL.lo (SL.trans (sl_tick _) (rk_lo.tick g.x)) h.lo,by show 0≤g.ep∧g.ep+(g.xs.length:Int)≤_; omega⟩
 rw [if_neg h1]
 by_cases h2:k=2
 ·rw [if_pos h2]
  have hc:=Fm.frames_le (g.xs++d)
  rw [List.length_append] at hc
  have hr:=run_ep c (frames (g.xs++d)).1 (g.x,g.ep) he.1 (by show g.ep+_≤_; omega)
  refine ⟨(JI.run (by omega) _ h.j).more (by omega) (by omega),SL.lo (rk_lo.run c _ (g.x,g.ep)) h.lo, ?_⟩
  show 0≤(runL c (g.x,g.ep) (frames (g.xs++d)).1).2∧(runL c (g.x,g.ep) (frames (g.xs++d)).1).2+((frames (g.xs++d)).2.length:Int)≤_
  have hr1:g.ep≤(runL c (g.x,g.ep) (frames (g.xs++d)).1).2:=hr.1
  have hr2:(runL c (g.x,g.ep) (frames (g.xs++d)).1).2≤g.ep+((frames (g.xs++d)).1.length:Int):=hr.2
  push_cast
  omega
 rw [if_neg h2]
 by_cases h3:3≤k∧k≤7
 ·rw [if_pos h3]
  have hd:doK g.x.1 ⟨k+1,a,b,⟨0,0,0,0,0⟩,⟨0,0,0,0⟩⟩={ g.x.1 with G:=(doR g.x.1.G (k - 2) a b (b == 1)).1 }:=by
   unfold Lc.doK Lc.gdo
   simp only []
   rw [if_neg (by omega),if_neg (by omega),if_neg (by omega),if_neg (by omega),if_pos (by omega),show k+1 - 3=k - 2 by omega]
  have hp:=h.j.p.do_ (by omega) ⟨k+1,a,b,⟨0,0,0,0,0⟩,⟨0,0,0,0⟩⟩
  have hc:=h.j.ci.do_ (by omega) h.j.p ⟨k+1,a,b,⟨0,0,0,0,0⟩,⟨0,0,0,0⟩⟩
  rw [hd] at hp hc
  refine ⟨⟨hp.more (Nat.le_refl _) (by omega),hc,⟨?_, ?_,h.j.t.s,fun j v hv=>?_⟩⟩,doR_lo (by omega) hb h.lo,by show 0≤g.ep∧g.ep+(g.xs.length:Int)≤_; omega⟩
  ·exact h.j.t.q
  ·exact h.j.t.l
  ·have:=h.j.t.t j v hv; omega
 rw [if_neg h3]
 by_cases h8:k=8
 ·rw [if_pos h8]; exact hm
 ·rw [if_neg h8]; exact hm
theorem GI.num {c:CfgV} {i B:Nat} {g:Gs} (h:GI c i B g):∀ v∈g.x.1.G.cars.map viewOf,n64 v.un∧n64 v.ds∧n64 v.mo∧n64 v.wy∧n64 v.lo:=by
 intro v hv
 obtain ⟨x,hx,rfl⟩:=List.mem_map.1 hv
 have hs:=h.j.p.k.g.2.2.1 x hx
 have hm:=(Ct.mayB_iff c x).1 hs.1
 have hb:=(Ct.may_bd hs.1).2
 have hg:=(Pl.goodB_iff c x).1 hm.1
 have hd:=Do.gd_bd _ _ _ hg.1
 have hl:=h.lo x hx
 unfold viewOf n64 at *
 refine ⟨by show _≤x.un∧x.un≤_; omega,by show _≤x.ds∧x.ds≤_; omega, ?_,by show _≤x.wy∧x.wy≤_; omega,hl⟩
 show _≤(if x.br=true then (2:Int) else x.mo)∧(if x.br=true then (2:Int) else x.mo)≤_
 split <;> omega
theorem GI.len {c:CfgV} {i B:Nat} {g:Gs} (h:GI c i B g):1≤g.x.1.G.cars.length∧g.x.1.G.cars.length≤8:=by
 rw [h.j.p.k.len]; exact Gr.ncars_bd c
end Gw
namespace Gw
open Go.RowKit Ba Mem En Go.Proofs.YtepfmfalebmcnaaGreatDoor.Ty
open Fm (frames)
open Byt (BV isB)
open Co (KV newK tickK tickE Hold.ob)
open Gr (GrV doR hallR pressR loadR curtR faultR)
set_option maxRecDepth 100000
structure Gm where
 Sk:List Nat
 D:Fam
 Ss:List Nat
 M:Nat
 N:Nat
structure GSt (gq:Nat) (c:CfgV) (x:Gp) (B:Nat) (m:Gm) (g:Gs) (w:World):Prop where
 t:GWt gq c x m.M m.N g.x.1 g.ep g.xs m.Sk m.D m.Ss w
 v:vals m.D=g.x.2
 hM:m.M+g.xs.length≤B
 hN:m.N≤B
def gmF (gq:Nat) (x:Gp) (m:Gm):List Nat:=gwF gq x m.Sk m.D m.Ss
def gsO (gq:Nat) (c:CfgV) (x:Gp) (B:Nat) (m:Gm) (g:Gs) (rw:Bool):Asr:=⟨gmF gq x m,rw,GSt gq c x B m g,fun u hd h=>⟨h.t.upd u hd,h.v,h.hM,h.hN⟩,fun h=>h.t.lt⟩
structure OsAt (A:Option Addr) (c:Nat) (os:List OutD) (w:World):Prop where
 r:outE.At 0 A os.length c os w
 d:∀ o∈os,BV w o.A o.zs.length o.zs
def osF (A:Option Addr) (os:List OutD):List Nat:=blkOf A++os.flatMap fun o=>rdF o.A o.zs.length
theorem osF_at {A:Option Addr} {os:List OutD} {o:OutD} (ho:o∈os):∀ g∈rdF o.A o.zs.length,g∈osF A os:=fun g hg=>List.mem_append.2 (.inr (List.mem_flatMap.2 ⟨o,ho,hg⟩))
def osO (A:Option Addr) (c:Nat) (os:List OutD):Asr:=⟨osF A os,false,OsAt A c os,fun u hd h=>⟨u.own h.r (fun g hg=>hd g (List.mem_append.2 (.inl hg))),fun o ho=>bv_up u (h.d o ho) (fun g hg=>hd g (osF_at ho g hg))⟩,fun h g hg=>by
 rcases List.mem_append.1 hg with hg | hg
 ·exact own_lt h.r g hg
 ·obtain ⟨o,ho,hg⟩:=List.mem_flatMap.1 hg
  exact bv_lt (h.d o ho) g hg⟩
theorem rdF_blk {A:Option Addr} {n:Nat}:∀ g∈rdF A n,g∈blkOf A:=fun g hg=>by
 cases n with
 | zero=>cases hg
 | succ n=>exact hg
theorem tickS_isB {x:Ko} {i:Int} (h:∀ q∈x.2,∀ z∈q.2,isB z):∀ q∈(tickS x i).2,∀ z∈q.2,isB z:=by
 unfold tickS
 cases x.1.2 i with
 | none=>exact h
 | some v =>
  simp only []
  split
  ·exact h
  ·split
   ·intro q hq
    rcases List.mem_append.1 hq with hq | hq
    ·exact h q hq
    ·rw [List.mem_singleton] at hq
     subst hq
     intro z hz
     have hz:z∈frV _:=hz
     unfold frV at hz
     split at hz
     ·exact Fm.frm_isB (Mg.bytes_isB _) z hz
     ·cases hz
   ·exact h
theorem tickL_isB:∀ (ks:List Int) {x:Ko},(∀ q∈x.2,∀ z∈q.2,isB z)→∀ q∈(tickL x ks).2,∀ z∈q.2,isB z
 | [],_,h=>h
 | k::r,x,h=>tickL_isB r (x:=tickS x k) (tickS_isB h)
theorem tick_isB (x:Kv):∀ q∈(tickG x).2,∀ z∈q.2,isB z:=tickL_isB _ (x:=(tellF (tickK x.1,x.2) (tickE x.1),[])) (by intro q hq; cases hq)
def DoQ (gq:Nat) (c:CfgV) (x:Gp) (B:Nat) (m:Gm) (g:Gs) (w:World) (k a b:Int) (d:List Int) (e:Ending) (w':World):Prop :=
 ∃ y:{y:Gm×Option Addr×Nat×List OutD // outsV y.2.2.2=(doV c g k a b d).2.1},e=.returned (.tuple #[.slice y.1.2.1 (doV c g k a b d).2.1.length y.1.2.2.1,.int .i64 (doV c g k a b d).2.2])∧GSt gq c x (B+d.length) y.1.1 (doV c g k a b d).1 w'∧OsAt y.1.2.1 y.1.2.2.1 y.1.2.2.2 w'∧Upd (gmF gq x m) w w'∧(∀ i∈gmF gq x y.1.1,i∈gmF gq x m∨w.heap.size≤i)∧∀ i∈osF y.1.2.1 y.1.2.2.2,w.heap.size≤i∧i∉gmF gq x y.1.1
attribute [local irreducible] Go.Calls
section
variable {gq B:Nat} {c:CfgV} {x:Gp} {m:Gm} {g:Gs} {k a b:Int} {d:List Int} {w:World} {dA:Option Addr} {dn dc:Nat}
theorem doq_nil {g':Gs} {r:Int} {m':Gm} {e:Ending} {w':World} (he:doV c g k a b d=(g',[],r)) (h1:e=.returned (.tuple #[.slice none 0 0,.int .i64 r])) (h2:GSt gq c x (B+d.length) m' g' w') (h3:Upd (gmF gq x m) w w') (h4:∀ i∈gmF gq x m',i∈gmF gq x m∨w.heap.size≤i):DoQ gq c x B m g w k a b d e w':=by
 unfold DoQ
 rw [he]
 exact ⟨⟨(m',none,0,[]),rfl⟩,h1,h2,⟨Ek.nil _ _ _,by intro o ho; cases ho⟩,h3,h4,by intro i hi; cases hi⟩
theorem GSt.more {B':Nat} (h:GSt gq c x B m g w) (hb:B≤B'):GSt gq c x B' m g w:=⟨h.t,h.v,Nat.le_trans h.hM hb,Nat.le_trans h.hN hb⟩
theorem doq_grp {G:GrV} {r:Int} {S':List Nat} {e:Ending} {w':World} (h:GSt gq c x B m g w) (he:doV c g k a b d=(grpG g G,[],r)) (h1:e=.returned (.tuple #[.slice none 0 0,.int .i64 r])) (h2:GWt gq c x m.M m.N { g.x.1 with G:=G } g.ep g.xs S' m.D m.Ss w') (h3:Upd (gwF gq x m.Sk m.D m.Ss) w w') (h4:∀ i∈gwF gq x S' m.D m.Ss,i∈gwF gq x m.Sk m.D m.Ss∨w.heap.size≤i):DoQ gq c x B m g w k a b d e w' :=
 doq_nil (m':=⟨S',m.D,m.Ss,m.M,m.N⟩) he h1 ⟨h2,h.v,Nat.le_trans h.hM (Nat.le_add_right ..),Nat.le_trans h.hN (Nat.le_add_right ..)⟩ h3 h4
theorem bv_str {gb:Nat} {bs:List UInt8} (h:(strO gb bs).st w) (hl:bs.length≤1000000):BV w (some ⟨gb,0,none⟩) bs.length (bs.map fun b=>(b.toNat:Int)):=by
 obtain ⟨cs,fz,h1,h2⟩:=h
 refine ⟨List.length_map ..,by omega,fun z hz=>?_,.inr ⟨gb,0,rfl,(Array.getElem?_eq_some_iff.1 h1).1,fun j hj=>?_⟩⟩
 ·obtain ⟨u,_,rfl⟩:=List.mem_map.1 hz
  have:=u.toNat_lt
  unfold isB; omega
 ·have h3:(cs.toList.take bs.length)[j]?=(Lib.byteCells bs)[j]?:=by rw [h2]
  rw [List.getElem?_take,if_pos hj] at h3
  have h4:(Lib.byteCells bs)[j]?=some (.int .u8 ((bs.map fun b=>(b.toNat:Int)).getD j 0)):=by
   simp [Lib.byteCells,List.getD,hj]
  rw [h4] at h3
  simp only [World.cell?,h1,Nat.zero_add]
  simpa using h3
set_option maxHeartbeats 1000000 in
theorem doD {i:Nat} (h:GSt gq c x B m g w) (hg:GI c i B g) (hi:i < 10000) (hB:B+d.length≤60000) (hz:BV w dA dn d) (hz1:∀ y∈rdF dA dn,y∉gmF gq x m) (htab:Lib.TabIs Tryz.prog w "internal/strconv.uint64pow10" .u64 Lib.pow10Tab) (hT:∀ t,(Tryz.prog).globalNamed "internal/strconv.uint64pow10" = some t→t∉gmF gq x m) (hk:(Lit.int .i64 k).wf=true) :
  Calls Tryz.prog 24 #[.pointer (some ⟨gq,0,none⟩),.agg #[.int .i64 k,.int .i64 a,.int .i64 b,.slice dA dn dc]] w (DoQ gq c x B m g w k a b d):=by
 have ex:(g.x.1,vals m.D)=g.x:=by rw [h.v]
 have hj:JI c i i (g.x.1,vals m.D):=ex ▸ hg.j
 have hl:=hz.1
 have hw:g.x.1.G.waits.length≤10000:=Nat.le_trans hg.j.p.k.g.2.2.2.2 (by omega)
 by_cases h1:k=1
 ·subst h1
  have he:doV c g 1 a b d=(⟨(tickG g.x).1,g.ep,g.xs⟩,(tickG g.x).2,0):=by unfold doV; rw [if_pos rfl]
  refine (tickD (n:=i) (T:=i) h.t hj (by omega) hi (by have:=h.hM; omega)).mono ?_
  rintro e w' ⟨⟨S',D',A,cp,os⟩,rfl,h2,h3,h4,h5,h6,h7,h8,h9,h10,h11⟩
  rw [ex] at h2 h10 h11
  have hlen:os.length=(tickG g.x).2.length:=by rw [← h11]; exact (List.length_map ..).symm
  unfold DoQ
  rw [he]
  refine ⟨⟨(⟨S',D',m.Ss,m.M,m.N⟩,A,cp,os),h11⟩,by simp only [hlen],⟨h2,h10,Nat.le_trans h.hM (Nat.le_add_right ..),Nat.le_trans h.hN (Nat.le_add_right ..)⟩,⟨Ek.base h3 (Nat.zero_le _),fun o ho=>?_⟩,h5,h6,fun y hy=>?_⟩
  ·have hm:(o.s,o.zs)∈(tickG g.x).2:=by rw [← h11]; exact List.mem_map.2 ⟨o,ho,rfl⟩
   exact Byt.BV.of_own (byte_own.1 (h4 o ho)) (tick_isB g.x _ hm)
  ·rcases List.mem_append.1 hy with hy | hy
   ·exact h7 y hy
   ·obtain ⟨o,ho,hy⟩:=List.mem_flatMap.1 hy
    exact h8 y (dat_mem.2 ⟨o,ho,rdF_blk y hy⟩)
 by_cases h2:k=2
 ·subst h2
  have he:doV c g 2 a b d=(⟨(runL c (g.x,g.ep) (frames (g.xs++d)).1).1,(runL c (g.x,g.ep) (frames (g.xs++d)).1).2,(frames (g.xs++d)).2⟩,[],0):=by unfold doV; rw [if_neg (by decide),if_pos rfl]
  have hfl:=Fm.frames_le (g.xs++d)
  have hM:=h.hM
  have hN:=h.hN
  rw [List.length_append] at hfl
  refine (bytesD (n:=i) (T:=i) h.t hz hz1 hj (by omega) (by rw [List.length_append]; omega) (by omega)).mono ?_
  rintro e w' ⟨y,rfl,h3,h4,h5⟩
  have hv:=y.2
  generalize y.1=z at h3 h4 h5 hv
  obtain ⟨S',D',Ss'⟩:=z
  rw [ex] at h3 hv
  exact doq_nil (m':=⟨S',D',Ss',_,_⟩) he rfl ⟨h3,hv,by show m.M+(g.xs++d).length - _+(frames (g.xs++d)).2.length≤_; rw [List.length_append]; omega,by show m.N+dn≤_; omega⟩ h4 h5
 by_cases h3:k=3
 ·subst h3
  have he:doV c g 3 a b d=(grpG g (doR g.x.1.G 1 a b (b == 1)).1,[],(hallR g.x.1.G a b).2):=by
   unfold doV; rw [if_neg (by decide),if_neg (by decide),if_pos (by decide),show (3:Int) - 2=1 from rfl]
   unfold Gr.doR; rw [if_pos rfl]
  refine (hallD h.t hw).mono ?_
  rintro e w' ⟨S',rfl,a1,a2,a3⟩
  exact doq_grp h he rfl a1 a2 a3
 by_cases h4:k=4
 ·subst h4
  have he:doV c g 4 a b d=(grpG g (doR g.x.1.G 2 a b (b == 1)).1,[],(pressR g.x.1.G a b).2):=by
   unfold doV; rw [if_neg (by decide),if_neg (by decide),if_pos (by decide),show (4:Int) - 2=2 from rfl]
   unfold Gr.doR; rw [if_neg (by decide),if_pos rfl]
  refine (pressD h.t).mono ?_
  rintro e w' ⟨S',rfl,a1,a2,a3⟩
  exact doq_grp h he rfl a1 a2 a3
 by_cases h5:k=5
 ·subst h5
  have he:doV c g 5 a b d=(grpG g (doR g.x.1.G 3 a b (b == 1)).1,[],(loadR g.x.1.G a b).2):=by
   unfold doV; rw [if_neg (by decide),if_neg (by decide),if_pos (by decide),show (5:Int) - 2=3 from rfl]
   unfold Gr.doR; rw [if_neg (by decide),if_neg (by decide),if_pos rfl]
  refine (loadD h.t).mono ?_
  rintro e w' ⟨S',rfl,a1,a2,a3⟩
  exact doq_grp h he rfl a1 a2 a3
 by_cases h6:k=6
 ·subst h6
  have he:doV c g 6 a b d=(grpG g (doR g.x.1.G 4 a b (b == 1)).1,[],(curtR g.x.1.G a (b == 1)).2):=by
   unfold doV; rw [if_neg (by decide),if_neg (by decide),if_pos (by decide),show (6:Int) - 2=4 from rfl]
   unfold Gr.doR; rw [if_neg (by decide),if_neg (by decide),if_neg (by decide),if_pos rfl]
  refine (curtainD h.t).mono ?_
  rintro e w' ⟨S',rfl,a1,a2,a3⟩
  exact doq_grp h he rfl a1 a2 a3
 by_cases h7:k=7
 ·subst h7
  have he:doV c g 7 a b d=(grpG g (doR g.x.1.G 5 a b (b == 1)).1,[],(faultR g.x.1.G a (b == 1)).2):=by
   unfold doV; rw [if_neg (by decide),if_neg (by decide),if_pos (by decide),show (7:Int) - 2=5 from rfl]
   unfold Gr.doR; rw [if_neg (by decide),if_neg (by decide),if_neg (by decide),if_neg (by decide),if_pos rfl]
  refine (faultD h.t hw).mono ?_
  rintro e w' ⟨S',rfl,a1,a2,a3⟩
  exact doq_grp h he rfl a1 a2 a3
 by_cases h8:k=8
 ·subst h8
  have he:doV c g 8 a b d=(g,[(-1,txtV g.x.1.G.cars)],0):=by unfold doV; rw [if_neg (by decide),if_neg (by decide),if_neg (by decide),if_pos rfl]
  have hcl:=hg.len
  refine (listD h.t (by omega) (by omega) htab hT hg.num).mono ?_
  rintro e w' ⟨⟨g1,gb,cb⟩,rfl,a1,⟨a2,a3⟩,a4,a5⟩
  have hul:=upTo_len (g.x.1.G.cars.map viewOf) hg.num (by rw [List.length_map]; omega) g.x.1.G.cars.length (by rw [List.length_map]; exact Nat.le_refl _)
  have hbv:=bv_str a3 (by omega)
  unfold DoQ
  rw [he]
  refine ⟨⟨(m,some ⟨g1,0,none⟩,1,[⟨-1,some ⟨gb,0,none⟩,cb,txtV g.x.1.G.cars⟩]),rfl⟩,rfl,⟨a1,h.v,Nat.le_trans h.hM (Nat.le_add_right ..),Nat.le_trans h.hN (Nat.le_add_right ..)⟩,⟨⟨rfl,.inr ⟨g1,1,_,rfl,Nat.zero_le _,a2,Nat.le_refl _,by decide,rfl, ?_⟩⟩,fun o ho=>?_⟩,a4,fun y hy=>.inl hy,fun y hy=>?_⟩
  ·simp [rowsOf,outE,txtV]
  ·rw [List.mem_singleton] at ho
   subst ho
   have e2:(txtV g.x.1.G.cars).length=(upTo (g.x.1.G.cars.map viewOf) g.x.1.G.cars.length).length:=List.length_map ..
   show BV w' (some ⟨gb,0,none⟩) (txtV g.x.1.G.cars).length (txtV g.x.1.G.cars)
   rw [e2]; exact hbv
  ·rcases List.mem_append.1 hy with hy | hy
   ·exact a5 y (by rw [show y=g1 by simpa [blkOf] using hy]; exact List.mem_cons_self ..)
   ·have:y=gb:=List.mem_singleton.1 (show y∈[gb] from rdF_blk (A:=some ⟨gb,0,none⟩) (n:=(txtV g.x.1.G.cars).length) y (by simpa using hy))
    subst this
    exact a5 _ (List.mem_cons_of_mem _ (List.mem_singleton.2 rfl))
 ·have he:doV c g k a b d=(g,[],1):=by unfold doV; rw [if_neg h1,if_neg h2,if_neg (by omega),if_neg h8]
  refine (doNo h.t hk (by omega)).mono ?_
  rintro e w' ⟨rfl,h9⟩
  exact doq_nil (m':=m) he rfl ⟨h.t.upd (Upd.of_since (S:=[]) h9) (by intro _ _ hg; cases hg),h.v,Nat.le_trans h.hM (Nat.le_add_right ..),Nat.le_trans h.hN (Nat.le_add_right ..)⟩ (Upd.of_since h9) (fun y hy=>.inl hy)
end
end Gw
namespace Gw
open Go.ChangeShapes Go.WideShapes Go.ChangeAt Go.WideMaps Go.WideElems Go.RowKit
open Ba Mem En
theorem door_met (os:Os) (args:Array Value):laidMetH Tryz.prog Rows.gatewayNoneRow.laid ((World.doorLaid Tryz.prog 400 os).forCall (fun _ _=>0) ⟨#[],args,[]⟩).memory :=
 laidMetH_of_parts3 (fuel:=8) (laidMet_of_run' 8 (by kernel_rfl) (by kernel_rfl)) (by kernel_rfl) (by kernel_rfl)
theorem tab_data:(Rows.laid_internal_strconv_uint64pow10:DataW Unit)=Lib.tabData .u64 Lib.pow10Tab:=by kernel_rfl
theorem of_laid {W:World} (h:laidMetH Tryz.prog Rows.gatewayNoneRow.laid W):Lib.TabIs Tryz.prog W "internal/strconv.uint64pow10" .u64 Lib.pow10Tab:=by
 rw [MakeChecks.laidMetH_plain _ _ _ (by kernel_rfl)] at h
 have h2:laidMet Tryz.prog [("internal/strconv.uint64pow10", Rows.laid_internal_strconv_uint64pow10)] W:=laidMet.tail (laidMet.tail h)
 rw [tab_data] at h2
 exact Lib.tabIs_of_head (g:=0) (by kernel_rfl) (by kernel_rfl) Tryz.underlying290 Tryz.underlying120 (by kernel_rfl) (by kernel_rfl) h2
theorem tab_keep {P:Program} {T:List Nat} {w w':World} {nm:String} {k:IntKind} {zs:List Int} (h:Lib.TabIs P w nm k zs) (u:Upd T w w') (hT:∀ g,P.globalNamed nm=some g→g∉T):Lib.TabIs P w' nm k zs:=by
 unfold Lib.TabIs World.var? at h ⊢
 cases hg:P.globalNamed nm with
 | none=>simp [hg] at h
 | some g =>
  simp only [hg,Option.bind_some] at h ⊢
  have hlt:g < w.heap.size:=by
   rcases Nat.lt_or_ge g w.heap.size with h' | h'
   ·exact h'
   ·simp [Array.getElem?_eq_none h'] at h
  rw [u.block g hlt (hT g hg)]
  exact h
theorem tab_lt {P:Program} {w:World} {nm:String} {k:IntKind} {zs:List Int} (h:Lib.TabIs P w nm k zs) {g:Nat} (hg:P.globalNamed nm=some g):g < w.heap.size:=by
 unfold Lib.TabIs World.var? at h
 simp only [hg,Option.bind_some] at h
 rcases Nat.lt_or_ge g w.heap.size with h' | h'
 ·exact h'
 ·simp [Array.getElem?_eq_none h'] at h
def tbO:Asr:=⟨[0],false,fun w=>Lib.TabIs Tryz.prog w "internal/strconv.uint64pow10" .u64 Lib.pow10Tab,fun u hd h=>tab_keep h u (fun g hg=>hd g (by
 rw [show g=0 from Option.some.inj (hg.symm.trans (by kernel_rfl))]
 exact List.mem_singleton.2 rfl)),fun h g hg=>tab_lt h (by rw [List.mem_singleton.1 hg]; kernel_rfl)⟩
theorem tb_far {A:Asr} (h:∀ g∈A.F,g∉tbO.F):∀ t,(Tryz.prog).globalNamed "internal/strconv.uint64pow10" = some t→t∉A.F:=fun t ht hm=>by
 have e:t=0:=Option.some.inj (ht.symm.trans (by kernel_rfl))
 exact h t hm (by rw [e]; exact List.mem_singleton.2 rfl)
end Gw
namespace Gw
open Go.RowKit Ba Mem En Go.Proofs.YtepfmfalebmcnaaGreatDoor.Ty
open Byt (BV isB)
open Co (Hold.ob)
set_option maxRecDepth 100000
attribute [local irreducible] Go.Calls
theorem rng_at {w:World} {g off k:Nat} {cs:List Value} {v:Value} (h:w.rangeAt g off cs) (hk:cs[k]?=some v):w.rangeAt g (off+k) [v]:=fun j u hj=>by
 cases j with
 | zero =>
  simp at hj; subst hj
  simpa using h k _ hk
 | succ j=>simp at hj
def sumW (ss:Nat→StepD):Nat→Int
 | 0=>0
 | k+1=>IntKind.i64.wrap (sumW ss k+((ss k).n:Int))
def sumT (ss:Nat→StepD):Nat→Nat
 | 0=>0
 | k+1=>sumT ss k+(ss k).n
def litB (ss:Nat→StepD) (len:Nat):Bool:=decide ((len:Int)≤300) && decide (sumW ss len≤20000)
theorem sum_le {ss:Nat→StepD}:∀ k:Nat,k≤300→(∀ i,i < k→StepW (ss i))→sumW ss k=sumT ss k∧sumT ss k≤140737488351232*k
 | 0,_,_=>⟨rfl,Nat.le_refl _⟩
 | k+1,hk,h=>by
  obtain ⟨h1,h2⟩:=sum_le k (by omega) (fun i hi=>h i (by omega))
  have h3:=(h k (by omega)).m
  have h4:sumT ss (k+1)=sumT ss k+(ss k).n:=rfl
  refine ⟨?_,by omega⟩
  show IntKind.i64.wrap (sumW ss k+((ss k).n:Int))=_
  rw [h1,h4,wr64 _ (by omega) (by omega)]
  push_cast; rfl
theorem lit_of {ss:Nat→StepD} {len:Nat} (h:litB ss len=true) (hw:∀ i,i < len→StepW (ss i)):len≤300∧sumT ss len≤20000:=by
 unfold litB at h
 simp only [Bool.and_eq_true,decide_eq_true_eq] at h
 obtain ⟨h1,h2⟩:=h
 have h3:len≤300:=by omega
 have h4:=sum_le len h3 hw
 exact ⟨h3,by rw [h4.1] at h2; omega⟩
theorem sumT_mono {ss:Nat→StepD}:∀ {i k:Nat},i≤k→sumT ss i≤sumT ss k
 | i,0,h=>by rw [Nat.le_zero.1 h]; exact Nat.le_refl _
 | i,k+1,h=>by
  rcases Nat.lt_or_ge i (k+1) with hk | hk
  ·exact Nat.le_trans (sumT_mono (i:=i) (k:=k) (by omega)) (Nat.le_add_right ..)
  ·rw [show i=k+1 by omega]; exact Nat.le_refl _
theorem sumT_at {ss:Nat→StepD} {i len:Nat} (h:i < len):sumT ss i+(ss i).n≤sumT ss len:=sumT_mono (ss:=ss) (i:=i+1) h
theorem hold_st {a:Option Addr} {len nt:Nat} {ss:Nat→StepD} {w:World} (h:StR a len ss w):Hold ⟨Tryz.prog,tab,[],w,nt,[]⟩ [] [stO a len ss] w :=
 Hold.addObj (Hold.nil _ tab [] _ w) (stO a len ss) h (by intro k; cases k) (by intro r hr; cases hr) (by intro A hA; cases hA)
end Gw
namespace Gw
open Go.RowKit Ba Mem En Go.Proofs.YtepfmfalebmcnaaGreatDoor.Ty
open Fm (frames)
open Byt (BV isB)
open Co (KV newK Hold.ob)
set_option maxRecDepth 100000
attribute [local irreducible] Go.Calls
abbrev DoI (o':List (Int×List Int)):={y:Gm×Option Addr×Nat×List OutD // outsV y.2.2.2=o'∧(0 < o'.length→∃ g,y.2.1=some ⟨g,0,none⟩)}
section
variable {X:Cx} {s:St}
end
end Gw
end Go.Proofs.YtepfmfalebmcnaaGreatDoor
