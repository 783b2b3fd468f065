/-
  Wanted: part 16.
  No condition.
-/
import Derived.Test.YtepfmfalebmcnaaGreatDoorQH14
import Derived.Test.YtepfmfalebmcnaaGreatDoorRows
import Derived.Test.YtepfmfalebmcnaaGreatDoorQH11
import Derived.WalkKit
import Derived.WalkLawsBesides
import Derived.IntWalk
import Derived.OwnWalk
import Derived.Lib.Hide
import Derived.Test.YtepfmfalebmcnaaGreatDoorQH15
import Derived.ProofKit
import Derived.OpenShut
set_option linter.all false
namespace Go.Proofs.YtepfmfalebmcnaaGreatDoor
namespace En
open Go.RowKit Ba Mem
section
variable {X:Cx} {s:St}
theorem opapo (i j:Nat) {A C:Asr} {o:Oper} {K:St→Prop} {xs ys:Operand} {t e:TypeId} {lo size n c0 m c n2 bytes:Nat} {A0 A1:Option Addr} {z:Value} {vals cells zs:List Value} (B:Option Addr→Nat→Asr)
  (ho:o.op=.call { callee:=.builtin .append,args:=#[xs,ys],argTypes:=#[t,t] }) (hxs:evO xs s.fr=some (.v (.slice A0 n c0))) (hys:evO ys s.fr=some (.v (.slice A1 m c)))
  (hA:s.ob[i]?=some A) (hrw:A.rw=true) (hF:A.F=blkOf A0) (hst:∀ w,A.st w→w.ownsRow lo e size (.slice A0 n c0) n vals) (hB:∀ A' c' w,w.ownsRow lo e size (.slice A' n2 c') n2 zs→(B A' c').st w) (hBF:∀ A' c',(B A' c').F=blkOf A')
  (hC:s.ob[j]?=some C) (hrd:∀ w,C.st w→Reads w w.heap.size size A1 m cells)
  (ht:X.P.underlying t=some (.slice e)) (hinf:(X.P.info? e).map (fun i=>(i.zero,i.size,i.bytes))=some (some z,size,bytes)) (hzs:z.cells.size=size) (hsz:0 < size) (hby:bytes≤1000) (h1:∀ u∈cells,u.oneCell'=true)
  (hnm:n+m≤1000000) (hbase:∀ w,Hold X s.m s.ob w→lo≤w.heap.size) (hn2:n+m=n2) (hzs2:vals++cells=zs)
  (h:∀ A' c',setO i (B A' c') s.ob fun ob=>put X.n o.dst (.v (.slice A' n2 c')) ⟨s.fr,s.m,ob⟩ K):OpVC X o s K:=⟨fun a w Q hR=>by
 have sC:=hR.h.obj C (List.mem_of_getElem? hC)
 refine wp_append_row xs ys t ho lo e z size bytes ht hinf hzs hsz hby A0 n c0 vals (by rw [(evO_of hR.fr hxs).2]; rfl) (hst w (hR.h.obj A (List.mem_of_getElem? hA))) w.heap.size A1 m c cells (by rw [(evO_of hR.fr hys).2]; rfl) (hrd w sC) h1 hnm (hbase w hR.h) n2 zs hn2 hzs2 ?_
 intro A' c' w' hown hupd hfar
 have hH:=hR.h.obj_set hA hrw (hB A' c' w' hown) (by rw [hF]; exact hupd) (by rw [hF,hBF]; exact hfar)
 obtain ⟨s',r1,r2,r3,r4⟩:=put_of (a:=a) (s:=⟨s.fr,s.m,s.ob.set i (B A' c')⟩) (v:=.v (.slice A' n2 c')) hR.ds hR.sz hR.fr hH rfl (setO_of (h A' c'))
 exact ⟨s',r1,by rw [r2]; exact Ext.refl _,r4⟩⟩
end
end En
namespace Mg
open Go.RowKit Ba Mem En Go.Proofs.YtepfmfalebmcnaaGreatDoor.Ty
open Byt (BV isB cells)
open Co (Hold.ob)
set_option maxRecDepth 100000
attribute [local irreducible] Go.Calls
theorem u8_m (x:Int) (h:0≤x):IntKind.u8.wrap (x.tmod 256)=x % 256:=by
 rw [u8_wrap,Int.tmod_eq_emod_of_nonneg h]; omega
theorem numR (n:Int) (h0:0≤n∧n≤2147483647) (w:World):Calls Tryz.prog 49 #[.int .i64 n] w fun e w'=>∃ x:Option Addr×Nat,e=.returned (.slice x.1 4 x.2)∧byteE.At w.heap.size x.1 4 x.2 (fourL n) w'∧Since w w':=by
 refine ent tab_ok [.i .i64 n] Tryz.func49 Tryz.ntmps49 rfl rfl ?_
 repeat' (first | refine gs_ ?_|((conv=>whnf); first | intro b | refine cd (by first | decide | omega) ?_|refine bto ?_|refine bfo ?_|refine wr (u8_m _ (by omega)) ?_|refine wr (u8_wrap _) ?_|refine wr_q ?_|refine opbo ⟨tab_ok⟩ byteE (fourL n) [_,_,_,_] [.i .u8 (n / 16777216 % 256),.i .u8 (n / 65536 % 256),.i .u8 (n / 256 % 256),.i .u8 (n % 256)] (by rfl) (by rfl) (by rfl) rfl rfl (fun g0=>?_)|refine fin fun w' hH=>⟨(some ⟨g0,0,none⟩,4),rfl,Hold.ob hH (A:=rwO byteE w.heap.size (some ⟨g0,0,none⟩) 4 4 (fourL n) true) 0 rfl,hH.upd.since⟩|refine fin_s ?_))
theorem bytesH (p:PktV) (h0:mayB p=true) (hh:p.has=true) (w:World):Calls Tryz.prog 20 #[.agg (pktC p)] w fun e w'=>∃ x:Option Addr×Nat,e=.returned (.slice x.1 21 x.2)∧byteE.At w.heap.size x.1 21 x.2 (headL p++bodyL p) w'∧Since w w':=by
 have hp:pktC p=#[.int .i64 p.se,.int .i64 p.ep,.int .i64 p.sq,.int .i64 p.ak,.bool true,.int .i64 p.ki,.int .i64 p.a,.int .i64 p.b,.int .i64 p.c]:=by unfold pktC; rw [hh]
 rw [hp]
 have hm:=h0
 rw [may_has hh,Bool.and_eq_true] at hm
 have hb:=(head_iff p).1 hm.1
 have hg:=(msg_iff p).1 hm.2
 refine ent tab_ok [.a [.i .i64 p.se,.i .i64 p.ep,.i .i64 p.sq,.i .i64 p.ak,.b true,.i .i64 p.ki,.i .i64 p.a,.i .i64 p.b,.i .i64 p.c]] Tryz.func20 Tryz.ntmps20 rfl rfl ?_
 repeat' (first | refine gs_ ?_|((conv=>whnf); first | intro b | refine cd (by first | decide | omega) ?_|refine bto ?_|refine bfo ?_|refine And.intro ?_ ?_|refine wr (u8_m _ (by omega)) ?_|refine wr (u8_wrap _) ?_|refine wr_q ?_|refine opbo ⟨tab_ok⟩ byteE (headL p) [_,_,_,_,_,_,_,_] [.i .u8 1,.i .u8 (p.se % 256),.i .u8 (p.ep / 256 % 256),.i .u8 (p.ep % 256),.i .u8 (p.sq / 256 % 256),.i .u8 (p.sq % 256),.i .u8 (p.ak / 256 % 256),.i .u8 (p.ak % 256)] (by rfl) (by rfl) (by rfl) rfl rfl (fun g0=>?_)|refine opbn ⟨tab_ok⟩ 5 [_] [.i .u8 (p.ki % 256)] (by rfl) (by rfl) (by rfl) ?_|refine opap 0 1 (e:=5) (lo:=w.heap.size) (size:=1) (bytes:=1) (z:=.int .u8 0) (A:=rwO byteE w.heap.size (some ⟨g0,0,none⟩) 8 8 (headL p) true) (vals:=rowsOf byteE.c (headL p)) (cells:=[.int .u8 (p.ki % 256)]) (zs:=rowsOf byteE.c (headL p++[p.ki % 256])) (n2:=9) (fun A' c'=>rwO byteE w.heap.size A' 9 c' (headL p++[p.ki % 256]) true) (by rfl) (by rfl) (by rfl) (by rfl) rfl rfl (fun w h=>h) (fun A' c' w h=>h) (fun _ _=>rfl) (by rfl) (by rfl) (by rfl) (by rfl) Tryz.underlying29 (by kernel_rfl) rfl (by decide) (by decide) (by intro u hu; simp at hu; rcases hu with rfl; rfl) (by omega) (fun w hH=>hH.upd.size) rfl (by rw [rowsOf_append]; rfl) (fun A9 c9=>?_)|refine callN (f:=49) (ι:=Option Addr×Nat) (fun x=>.v (.slice x.1 4 x.2)) (fun x=>rwO byteE w.heap.size x.1 4 x.2 (fourL p.a) true) (fun w1 hH=>(numR p.a (by omega) w1).mono (by rintro e w' ⟨x,rfl,h1,h2⟩; exact ⟨x,rfl,Ek.base h1 hH.upd.size,h2,Ek.lows h1⟩)) (fun x1=>?_)|refine opapo 0 1 (e:=5) (lo:=w.heap.size) (size:=1) (bytes:=1) (z:=.int .u8 0) (A:=rwO byteE w.heap.size A9 9 c9 (headL p++[p.ki % 256]) true) (C:=rwO byteE w.heap.size x1.1 4 x1.2 (fourL p.a) true) (vals:=rowsOf byteE.c (headL p++[p.ki % 256])) (cells:=rowsOf byteE.c (fourL p.a)) (zs:=rowsOf byteE.c (headL p++[p.ki % 256]++fourL p.a)) (n2:=13) (fun A' c'=>rwO byteE w.heap.size A' 13 c' (headL p++[p.ki % 256]++fourL p.a) true) (by rfl) (by rfl) (by rfl) (by rfl) rfl rfl (fun w h=>h) (fun A' c' w h=>h) (fun _ _=>rfl) (by rfl) (fun w h=>Ek.reads h) Tryz.underlying29 (by kernel_rfl) rfl (by decide) (by decide) (rowsOf_one' byteE.one _) (by omega) (fun w hH=>hH.upd.size) rfl (by rw [← rowsOf_append]; try rfl) (fun A13 c13=>?_)|refine callN (f:=49) (ι:=Option Addr×Nat) (fun x=>.v (.slice x.1 4 x.2)) (fun x=>rwO byteE w.heap.size x.1 4 x.2 (fourL p.b) true) (fun w1 hH=>(numR p.b (by omega) w1).mono (by rintro e w' ⟨x,rfl,h1,h2⟩; exact ⟨x,rfl,Ek.base h1 hH.upd.size,h2,Ek.lows h1⟩)) (fun x2=>?_)|refine opapo 0 2 (e:=5) (lo:=w.heap.size) (size:=1) (bytes:=1) (z:=.int .u8 0) (A:=rwO byteE w.heap.size A13 13 c13 (headL p++[p.ki % 256]++fourL p.a) true) (C:=rwO byteE w.heap.size x2.1 4 x2.2 (fourL p.b) true) (vals:=rowsOf byteE.c (headL p++[p.ki % 256]++fourL p.a)) (cells:=rowsOf byteE.c (fourL p.b)) (zs:=rowsOf byteE.c (headL p++[p.ki % 256]++fourL p.a++fourL p.b)) (n2:=17) (fun A' c'=>rwO byteE w.heap.size A' 17 c' (headL p++[p.ki % 256]++fourL p.a++fourL p.b) true) (by rfl) (by rfl) (by rfl) (by rfl) rfl rfl (fun w h=>h) (fun A' c' w h=>h) (fun _ _=>rfl) (by rfl) (fun w h=>Ek.reads h) Tryz.underlying29 (by kernel_rfl) rfl (by decide) (by decide) (rowsOf_one' byteE.one _) (by omega) (fun w hH=>hH.upd.size) rfl (by rw [← rowsOf_append]; try rfl) (fun A17 c17=>?_)|refine callN (f:=49) (ι:=Option Addr×Nat) (fun x=>.v (.slice x.1 4 x.2)) (fun x=>rwO byteE w.heap.size x.1 4 x.2 (fourL p.c) true) (fun w1 hH=>(numR p.c (by omega) w1).mono (by rintro e w' ⟨x,rfl,h1,h2⟩; exact ⟨x,rfl,Ek.base h1 hH.upd.size,h2,Ek.lows h1⟩)) (fun x3=>?_)|refine opapo 0 3 (e:=5) (lo:=w.heap.size) (size:=1) (bytes:=1) (z:=.int .u8 0) (A:=rwO byteE w.heap.size A17 17 c17 (headL p++[p.ki % 256]++fourL p.a++fourL p.b) true) (C:=rwO byteE w.heap.size x3.1 4 x3.2 (fourL p.c) true) (vals:=rowsOf byteE.c (headL p++[p.ki % 256]++fourL p.a++fourL p.b)) (cells:=rowsOf byteE.c (fourL p.c)) (zs:=rowsOf byteE.c (headL p++bodyL p)) (n2:=21) (fun A' c'=>rwO byteE w.heap.size A' 21 c' (headL p++bodyL p) true) (by rfl) (by rfl) (by rfl) (by rfl) rfl rfl (fun w h=>h) (fun A' c' w h=>h) (fun _ _=>rfl) (by rfl) (fun w h=>Ek.reads h) Tryz.underlying29 (by kernel_rfl) rfl (by decide) (by decide) (rowsOf_one' byteE.one _) (by omega) (fun w hH=>hH.upd.size) rfl (by rw [← rowsOf_append]; try rfl) (fun A21 c21=>?_)|refine fin fun w' hH=>⟨(A21,c21),rfl,Hold.ob hH (A:=rwO byteE w.heap.size A21 21 c21 (headL p++bodyL p) true) 0 rfl,hH.upd.since⟩|refine fin_s ?_))
end Mg
namespace Fw
open Go.RowKit
open Cm Byt Mem Cw Fm
def NewB (zs:List Int) (w:World) (e:Ending) (w':World):Prop :=
 ∃ A c,e=.returned (.slice A zs.length c)∧w'.ownsRow w.heap.size 5 1 (.slice A zs.length c) zs.length (cells zs)∧Below w.heap.size w w'
theorem infoB:(Tryz.prog.info? 5).map (fun i=>(i.zero,i.size,i.bytes))=some (some (.int .u8 0),1,1):=by kernel_rfl
theorem own_lit (w:World) (e:TypeId) (zs:List Int) (n:Nat) (h:zs.length=n) (hn:n≤1000):(w.alloc (.cells (cells zs).toArray e)).ownsRow w.heap.size e 1 (.slice (some ⟨w.heap.size,0,none⟩) n n) n (cells zs):=by
 have hc:(cells zs).length=n:=by simp [cells,h]
 refine ⟨by omega,.inr ⟨w.heap.size,n,(cells zs).toArray,rfl,Nat.le_refl _,heap_alloc_new w _,Nat.le_refl _,by unfold maxLen; omega,by simp [hc], ?_⟩⟩
 rw [List.take_of_length_le]
 simp [hc]
theorem BV.lit (w:World) (t:TypeId) (fr:Nat×Nat) (zs:List Int) (n:Nat) (hl:zs.length=n) (hn:n≤1000) (hB:∀ z∈zs,isB z):BV (w.alloc (.cells (cells zs).toArray t fr)) (some ⟨w.heap.size,0,none⟩) n zs:=by
 refine ⟨hl,by omega,hB,.inr ⟨_,0,rfl,by simp,fun j hj=>?_⟩⟩
 have h:=cell_of_row (w.alloc (.cells (cells zs).toArray t fr)) w.heap.size (0+j) _ _ _ (heap_alloc_new w _)
 rw [h,Nat.zero_add]
 simpa using cells_at zs j (by omega)
set_option maxHeartbeats 1000000 in
set_option maxRecDepth 100000 in
theorem frameR (a:Option Addr) (n cap:Nat) (zs:List Int) (w:World) (h:BV w a n zs) (hn:n≤1000) :
  Calls Tryz.prog 19 #[.slice a n cap] w (NewB (frm zs) w):=by
 have HL:=Lib.hid h.1
 go_enter Tryz.func19,Tryz.ntmps19
 go_wp2_with (at_builtin; refine wpList_append_b _ rfl (.tmp 8) (.tmp 9) _ rfl w.heap.size 5 Tryz.underlying29 infoB (.slice (some ⟨w.heap.size,0,none⟩) 2 2) 2 [165,(n:Int) % 256] rfl (own_lit w _ [165,(n:Int) % 256] 2 rfl (by omega)) a n cap zs rfl (h.alloc _) (by omega) (by simp) ?_; intro A1 c1 w1 hown1 hg1 hb1)
 have hB:=h.2.2.1
 have ehd:[165,(n:Int) % 256]++zs=hd zs:=by
  have:=HL.out
  rw [← this]; rfl
 rw [ehd] at hown1
 have q1:BV w1 A1 (2+n) (hd zs):=BV.of_own hown1 (hd_isB hB)
 have HE:=Lib.hid ehd
 clear ehd
 refine (crcR _ _ _ _ _ q1).mono ?_
 rintro e _ ⟨rfl,rfl⟩
 have hlo:=crcN_lo (hd zs)
 have hhi:=crcN_hi (hd zs)
 generalize hN:crcN (hd zs)=N at hlo hhi
 have HN:=Lib.hid hN
 clear hN
 obtain ⟨M,rfl⟩:=Int.eq_ofNat_of_zero_le hlo
 have e1:bits .and .u32 ((M:Int) / 65536) 255=(M:Int) / 65536 % 256:=by
  have h1:=u32_and_nat (M / 65536) 255 (by omega) (by omega)
  have h2:M / 65536 &&& 255=M / 65536 % 256:=Nat.and_two_pow_sub_one_eq_mod (M / 65536) 8
  rw [h2] at h1
  have h3:((M / 65536:Nat):Int)=(M:Int) / 65536:=by omega
  rw [h3] at h1
  rw [show ((255:Nat):Int)=255 from rfl] at h1
  rw [h1]; omega
 have e2:bits .and .u32 ((M:Int) / 256) 255=(M:Int) / 256 % 256:=by
  have h1:=u32_and_nat (M / 256) 255 (by omega) (by omega)
  have h2:M / 256 &&& 255=M / 256 % 256:=Nat.and_two_pow_sub_one_eq_mod (M / 256) 8
  rw [h2] at h1
  have h3:((M / 256:Nat):Int)=(M:Int) / 256:=by omega
  rw [h3] at h1
  rw [show ((255:Nat):Int)=255 from rfl] at h1
  rw [h1]; omega
 have e3:bits .and .u32 (M:Int) 255=(M:Int) % 256:=by
  have h1:=u32_and_nat M 255 (by omega) (by omega)
  have h2:M &&& 255=M % 256:=Nat.and_two_pow_sub_one_eq_mod M 8
  rw [h2] at h1
  rw [show ((255:Nat):Int)=255 from rfl] at h1
  rw [h1]; omega
 have HB1:=Lib.hid hb1
 clear hhi
 go_wp2_with (at_builtin; refine wpList_append_b _ rfl (.tmp 13) (.tmp 28) _ rfl w.heap.size 5 Tryz.underlying29 infoB (.slice A1 (2+n) c1) (2+n) (hd zs) rfl (hown1.alloc _) (some ⟨w1.heap.size,0,none⟩) 4 4 (be4 (M:Int)) rfl (BV.lit w1 5 (0,0) (be4 (M:Int)) 4 rfl (by omega) (be4_isB _)) (by omega) ?bs ?_; (case bs=>have:=hb1.size; simp at this ⊢; omega); intro A2 c2 w2 hown2 hg2 hb2)
 go_ret
 have hlen:(frm zs).length=2+n+4:=by rw [frm_length,HL.out]; omega
 have hfr:hd zs++be4 (M:Int)=frm zs:=by unfold frm; rw [HN.out]
 refine ⟨A2,c2,by rw [hlen]; rfl, ?_, ?_⟩
 ·rw [hlen,← hfr]; exact hown2
 ·exact (((Below.refl _ _).alloc (Nat.le_refl _) _).trans HB1.out).alloc (by have:=HB1.out.size; simp at this; omega) _ |>.trans hb2
end Fw
namespace Gw
open Go.RowKit Ba Mem En Go.Proofs.YtepfmfalebmcnaaGreatDoor.Ty Mg
open Fm (frm)
open Co (Hold.ob)
set_option maxRecDepth 100000
attribute [local irreducible] Go.Calls
def helP (n a:Int):PktV:=⟨n,0,0,0,true,1,a,0,0⟩
theorem bytes_b (p:PktV) (hh:p.has=true):bytesOf p=headL p++bodyL p:=by unfold bytesOf; rw [if_pos hh]
theorem frmE {lo:Nat} (A:Option Addr) (c:Nat) (zs:List Int) (n m:Nat) (w:World) (h:byteE.At lo A n c zs w) (hb:∀ z∈zs,Byt.isB z) (hn:n≤1000) (hl:(frm zs).length=m):Calls Tryz.prog 19 #[.slice A n c] w fun e w'=>∃ x:Option Addr×Nat,e=.returned (.slice x.1 m x.2)∧byteE.At w.heap.size x.1 m x.2 (frm zs) w'∧Since w w' :=
 (Fw.frameR A n c zs w (Byt.BV.of_own (byte_own.1 h) hb) hn).mono (by
  rintro e w' ⟨A',c',rfl,h1,h2⟩
  rw [hl] at h1 ⊢
  exact ⟨(A',c'),rfl,byte_own.2 h1,h2⟩)
end Gw
namespace Gw
open Go.RowKit Ba Mem En Go.Proofs.YtepfmfalebmcnaaGreatDoor.Ty Mg
open Fm (frm frames)
open Byt (BV)
open Co (newK Hold.ob KV)
set_option maxRecDepth 100000
attribute [local irreducible] Go.Calls
theorem outs_one {os:List OutD} {i:Int} {zs:List Int} (h:outsV os=[(i,zs)]):∃ A c,os=[⟨i,A,c,zs⟩]:=by
 cases os with
 | nil=>cases h
 | cons o r =>
  cases r with
  | cons _ _=>simp [outsV] at h
  | nil =>
   obtain ⟨s,A,c,z⟩:=o
   simp only [outsV,List.map_cons,List.map_nil,List.cons.injEq,Prod.mk.injEq,and_true] at h
   obtain ⟨rfl,rfl⟩:=h
   exact ⟨A,c,rfl⟩
section
variable {gq M N:Nat} {c:CfgV} {x:Gp} {ep sa sb:Int} {K:KV} {xs:List Int} {Sk Ss:List Nat} {D:Fam} {w:World} {dA:Option Addr} {dn dc:Nat}
theorem newX (c:CfgV) (w:World):Calls Tryz.prog 21 #[(aCfg c)] w fun e w'=>∃ y:Nat×Gp×List Nat,e=.returned (.pointer (some ⟨y.1,0,none⟩))∧GWt y.1 c y.2.1 0 0 (newK c) 0 [] y.2.2 (fun _=>none) [y.2.1.s] w'∧Since w w'∧∀ g∈gwF y.1 y.2.1 y.2.2 (fun _=>none) [y.2.1.s],w.heap.size≤g :=
 (newG c w).mono (by
  rintro e w' ⟨gq,x,Sk,rfl,h1,h2,h3,h4,h5,h6,h7,h8⟩
  exact ⟨(gq,x,Sk),rfl,⟨h1,h2,h3,h6,h7,h8⟩,h4,h5⟩)
end
end Gw
namespace Gw
open Go.RowKit Ba Mem En Go.Proofs.YtepfmfalebmcnaaGreatDoor.Ty
open Fm (frames)
open Byt (BV isB)
open Co (KV newK Hold.ob)
set_option maxRecDepth 100000
attribute [local irreducible] Go.Calls
theorem hold_tb {a:Option Addr} {len nt:Nat} {ss:Nat→StepD} {w:World} (h:StR a len ss w) (ht:Lib.TabIs Tryz.prog w "internal/strconv.uint64pow10" .u64 Lib.pow10Tab):Hold ⟨Tryz.prog,tab,[],w,nt,[]⟩ [] [stO a len ss,tbO] w :=
 Hold.addObj (hold_st h) tbO ht (by intro k; cases k) (by intro r hr; cases hr) (by intro A hA k; rw [List.mem_singleton] at hA; subst hA; rcases k with k | k <;> cases k)
def gs0 (c:CfgV):Gs:=⟨(newK c,fun _=>none),0,[]⟩
def gm0 (x:Gp) (Sk:List Nat):Gm:=⟨Sk,fun _=>none,[x.s],0,0⟩
theorem newS (c:CfgV) (w:World):Calls Tryz.prog 21 #[(aCfg c)] w fun e w'=>∃ y:Nat×Gp×List Nat,e=.returned (.pointer (some ⟨y.1,0,none⟩))∧(gsO y.1 c y.2.1 0 (gm0 y.2.1 y.2.2) (gs0 c) true).st w'∧Since w w'∧∀ g∈(gsO y.1 c y.2.1 0 (gm0 y.2.1 y.2.2) (gs0 c) true).F,w.heap.size≤g :=
 (newX c w).mono (by
  rintro e w' ⟨y,rfl,h1,h2,h3⟩
  exact ⟨y,rfl,⟨h1,rfl,Nat.le_refl _,Nat.le_refl _⟩,h2,h3⟩)
section
variable {X:Cx} {m:List Row} {ob:List Asr} {w:World}
theorem hz_st (hH:Hold X m ob w) {i j:Nat} {a:Option Addr} {len k gq B:Nat} {ss:Nat→StepD} {c:CfgV} {x:Gp} {mm:Gm} {g:Gs} (hA:ob[i]?=some (stO a len ss)) (hB:ob[j]?=some (gsO gq c x B mm g true)) (hij:i≠j) (hk:k < len):BV w (ss k).A (ss k).n (ss k).d∧∀ y∈rdF (ss k).A (ss k).n,y∉gmF gq x mm :=
 ⟨StR.d (hH.obj _ (List.mem_of_getElem? hA)) k hk,fun y hy=>pair_at (R:=DisR) (fun _ _ h=>h.symm) hH.dis hA hB hij (.inr rfl) y (stF_at hk y hy)⟩
end
theorem n64_of {I:Int} (h:(Lit.int .i64 I).wf=true):n64 I:=by
 have h1:IntKind.i64.min = -9223372036854775808:=by decide
 have h2:IntKind.i64.max=9223372036854775807:=by decide
 simp [Lit.wf] at h
 unfold n64
 omega
theorem sz_at {H:Type} {P:Program} {ts:List TypeId} {ds:List (DataW H)} (h:(DataW.weightsEach P ts ds).all (·≤reachBytes)=true) {j:Nat} {t:TypeId} {d:DataW H} (ht:ts[j]?=some t) (hd:ds[j]?=some d):∀ u∈d.weights P t,u≤reachBytes:=fun u hu=>by
  have:=List.all_eq_true.1 h u (DataW.weights_mem_each ht hd u hu)
  exact of_decide_eq_true this
theorem steps_in {H:Type} {enc:TypeId×Value→H} {x:DataW H×List MemPlace} {a:Option Addr} {len cap:Nat} {w:World} (hx:∃ m,DataW.trod enc Tryz.prog w 0 (fun _=>true) true m 24 (Value.cells (.slice a len cap)).toList=some x) (hU:∀ u∈x.1.weights Tryz.prog 24,u≤reachBytes):∃ ss,StR a len ss w∧(∀ i,i < len→StepW (ss i))∧len≤9223372036854775807:=by
 obtain ⟨m,hm⟩:=hx
 exact steps_open hm (fun u hu=>hU u hu)
section
variable {gq B:Nat} {c:CfgV} {x:Gp} {m:Gm} {g:Gs} {w:World}
end
end Gw
namespace Opn
open Go.RowKit
section
variable {P:Program} {W:World} {base:Nat}
theorem open_agg {t:TypeId} {v:Value} {ts:List TypeId} {fs} (hu:P.underlying t=some (.struct fs)) (hts:P.cellTypes P.depth t=some ts) (hn:P.cellsOf t=ts.length) (h:Value.okWide P W .any base t v) :
  ∃ cs:Array Value,v=.agg cs∧cs.size=ts.length∧∀ (i:Nat) (u:TypeId),ts[i]?=some u→∃ c,cs[i]?=some c∧Cell.okWide P W .any base u c:=by
 unfold Value.okWide at h
 rw [hu] at h
 obtain ⟨cs,rfl,hsz,ts',hts',_,hc⟩:=h
 rw [hts] at hts'
 obtain rfl:ts=ts':=by injection hts'
 refine ⟨cs,rfl,by omega,fun i u hi=>?_⟩
 obtain ⟨hlt,_⟩:=List.getElem?_eq_some_iff.1 hi
 have hcs:cs[i]?=some (cs[i]'(by omega)):=Array.getElem?_eq_getElem (by omega)
 obtain ⟨u',hu',hok⟩:=hc i _ hcs
 rw [Nat.mod_eq_of_lt hlt,hi] at hu'
 obtain rfl:u=u':=by injection hu'
 exact ⟨_,hcs,hok⟩
theorem cell_int {u:TypeId} {k:IntKind} {c:Value} (hu:P.underlying u=some (.int k)) (h:Cell.okWide P W .any base u c):∃ x,c=.int k x∧(Lit.int k x).wf=true:=by
 unfold Cell.okWide at h
 rw [hu] at h
 simp only at h
 unfold Cell.ok at h
 rw [hu] at h
 cases c with
 | int k' x =>
  simp only at h
  obtain ⟨rfl,hx⟩:=h
  exact ⟨x,rfl,by simpa [Lit.wf,IntKind.has] using hx⟩
 | _=>simp at h
theorem cell_bool {u:TypeId} {c:Value} (hu:P.underlying u=some .bool) (h:Cell.okWide P W .any base u c):∃ x,c=.bool x:=by
 unfold Cell.okWide at h
 rw [hu] at h
 simp only at h
 unfold Cell.ok at h
 rw [hu] at h
 cases c with
 | bool x=>exact ⟨x,rfl⟩
 | _=>simp at h
theorem arr_of {cs:Array Value} {l:List Value} (hn:cs.size=l.length) (h:∀ (i:Nat) (c:Value),l[i]?=some c→cs[i]?=some c):cs=l.toArray:=by
 apply Array.ext_getElem?
 intro i
 rcases Nat.lt_or_ge i l.length with hi | hi
 ·have e:=List.getElem?_eq_getElem hi
  rw [h i _ e]
  simp [hi]
 ·rw [Array.getElem?_eq_none (by omega)]
  simp [hi]
def Each (cs:Array Value) (i:Nat) (l:List Value):Prop:=∀ (j:Nat) (c:Value),l[j]?=some c→cs[i+j]?=some c
theorem each_nil {cs:Array Value} {i:Nat}:Each cs i []:=fun _ _ h=>by simp at h
theorem each_cons {cs:Array Value} {i:Nat} {c:Value} {l:List Value} (h:cs[i]?=some c) (k:Each cs (i+1) l):Each cs i (c::l):=by
 intro j d hd
 cases j with
 | zero =>
  have:c=d:=by simpa using hd
  subst this; exact h
 | succ j =>
  have e:i+(j+1)=i+1+j:=by omega
  rw [e]
  exact k j d (by simpa using hd)
theorem arr_each {cs:Array Value} {l:List Value} (hn:cs.size=l.length) (h:Each cs 0 l):cs=l.toArray :=
 arr_of hn fun i c hi=>by have:=h i c hi; rwa [Nat.zero_add] at this
end
end Opn
namespace Opn
open Go
section
variable {P:Program} {W:World} {base:Nat}
theorem cell_slice {u e:TypeId} {c:Value} (hu:P.underlying u=some (.slice e)) (h:Cell.okWide P W .any base u c):∃ a n m,c=.slice a n m:=by
 unfold Cell.okWide at h
 rw [hu] at h
 cases c <;> simp_all [Cell.ok]
end
end Opn
namespace Gw
open Go.RowKit Ba Mem En Go.Proofs.YtepfmfalebmcnaaGreatDoor.Ty Tm
open Ri (MsgV)
open Mg (PktV)
open Fm (frames)
open Ln (LkV winV mx2)
open Co (KV KI KT EvV ansK hearK goneK tickK tickE inC newK setK stepK foldK tkK1 grantK grK)
open Lc (PI CI UQ)
set_option maxRecDepth 100000
def Ses (K:KV) (s:Int):Prop:=(∃ l∈K.L,l.se=s)∨∃ a∈K.Q,a.se=s
theorem grA_mem {K:KV} {a:AskV} (h:Co.grA K=some a):a∈K.Q:=by
 unfold Co.grA at h
 split at h
 ·cases h
 ·split at h
  ·rename_i hf
   split at h
   ·cases h
   ·cases h; exact Co.first_mem hf
  ·cases h
section
variable {K:KV} {s t:Int}
theorem ses_gone (hU:UQ K) (h:Ses (goneK K s) t):Ses K t∧t≠s:=by
 rcases h with ⟨l,hl,rfl⟩ | ⟨a,ha,rfl⟩
 ·have:=Lc.end_ne hU s l hl
  exact ⟨.inl ⟨l,this.1,rfl⟩,this.2⟩
 ·have ha:a∈Qu.dropL K.Q s:=ha
  rw [Lc.drop_filter hU.q] at ha
  have:=List.mem_filter.1 ha
  exact ⟨.inr ⟨a,this.1,rfl⟩,by simpa using this.2⟩
theorem ses_set {l:LeaseV} {o:Bool} (h:Ses (setK K l o) t):Ses K t∨t=l.se:=by
 unfold Co.setK at h
 split at h
 ·rcases h with ⟨y,hy,rfl⟩ | ⟨a,ha,rfl⟩
  ·unfold Co.endK at hy
   split at hy
   ·exact .inl (.inl ⟨y,(Co.end_sub _ _).subset hy,rfl⟩)
   ·exact .inl (.inl ⟨y,hy,rfl⟩)
  ·rw [Co.endK_Q] at ha
   exact .inl (.inr ⟨a,ha,rfl⟩)
 ·rcases h with ⟨y,hy,rfl⟩ | ⟨a,ha,rfl⟩
  ·rcases Co.set_mem hy with hy | rfl
   ·exact .inl (.inl ⟨y,hy,rfl⟩)
   ·exact .inr rfl
  ·exact .inl (.inr ⟨a,ha,rfl⟩)
theorem ses_hear {m:MsgV} (h:Ses (hearK K s m) t):Ses K t:=by
 unfold Co.hearK at h
 split at h
 ·rename_i hh
  rcases ses_set h with h | h
  ·exact h
  ·have h1:=Co.has_mem hh
   have h2:(Co.hearR K (Le.ofL K.L s) m).1.se=(Le.ofL K.L s).se:=(Co.hearV_ca _ _ _ _ _).2
   exact .inl ⟨_,h1.1,by rw [h,h2]⟩
 ·exact h
theorem ses_ans {a:AskV} (h:Ses (ansK K a) t):Ses K t∨t=a.se:=by
 rcases h with h | ⟨b,hb,rfl⟩
 ·exact .inl (.inl h)
 ·have hb:b∈Co.ansQ K a:=hb
  unfold Co.ansQ at hb
  split at hb
  ·split at hb
   ·exact .inl (.inr ⟨b,hb,rfl⟩)
   ·rcases Co.put_mem hb with hb | rfl
    ·exact .inl (.inr ⟨b,hb,rfl⟩)
    ·exact .inr rfl
  ·exact .inl (.inr ⟨b,hb,rfl⟩)
theorem ses_fold:∀ (ls:List LeaseV) (x:KV×List EvV),Ses (ls.foldl stepK x).1 t→Ses x.1 t∨∃ l∈ls,l.se=t
 | [],_,h=>.inl h
 | l::r,x,h=>by
  rw [List.foldl_cons] at h
  rcases ses_fold r _ h with h | ⟨y,hy,e⟩
  ·have h:Ses (setK x.1 (Co.stepR x.1 l).1 (Co.stepR x.1 l).2.2) t:=h
   rcases ses_set h with h | h
   ·exact .inl h
   ·exact .inr ⟨l,List.mem_cons_self ..,by rw [h]; exact (Co.tickV_ca _ _ _ _).2.symm⟩
  ·exact .inr ⟨y,List.mem_cons_of_mem _ hy,e⟩
theorem ses_grant (h:Ses (grantK K) t):Ses K t:=by
 unfold Co.grantK at h
 split at h
 ·exact h
 ·rename_i a ha
  have hm:=grA_mem ha
  rcases h with ⟨y,hy,rfl⟩ | ⟨b,hb,rfl⟩
  ·change y∈Le.putL _ _ _ at hy
   unfold Le.putL at hy
   split at hy
   ·rcases List.mem_append.1 hy with hy | hy
    ·exact .inl ⟨y,hy,rfl⟩
    ·rw [List.mem_singleton] at hy
     subst hy
     exact .inr ⟨a,hm,rfl⟩
   ·exact .inl ⟨y,hy,rfl⟩
  ·have hb:b∈Qu.dropL K.Q a.se:=hb
   exact .inr ⟨b,(Co.drop_sub _ _).subset hb,rfl⟩
theorem ses_tick (h:Ses (tickK K) t):Ses K t:=by
 rcases ses_fold _ (tkK1 K,[]) (ses_grant h) with h | ⟨l,hl,e⟩
 ·exact h
 ·exact .inl ⟨l,List.mem_of_mem_take hl,e⟩
theorem tick_nowK (h:0≤K.G.now∧K.G.now≤1000000):(tickK K).G.now=K.G.now+1:=by
 show (grantK _).G.now=_
 rw [Lc.grant_now,Lc.fold_now,Lc.tk1_now K h]
end
structure SI (c:CfgV) (ep:Int) (x:Kv):Prop where
 u:UQ x.1
 nw:0≤x.1.G.now∧x.1.G.now≤1000000
 ep:∀ i v,x.2 i=some v→1≤v.k.ep∧v.k.ep≤ep
 he:∀ i v,x.2 i=some v→(0≤v.k.he∧v.k.he≤x.1.G.now)∧v.k.c=c
 ls:∀ s,Ses x.1 s→(x.2 s).isSome=true
section
variable {c:CfgV} {ep:Int} {x:Kv}
theorem SI.more {ep':Int} (h:SI c ep x) (he:ep≤ep'):SI c ep' x:=⟨h.u,h.nw,fun i v hv=>⟨(h.ep i v hv).1,Int.le_trans (h.ep i v hv).2 he⟩,h.he,h.ls⟩
theorem SI.gone (h:SI c ep x) (i:Int):SI c ep (endV x i):=by
 have hn:(endV x i).1.G.now=x.1.G.now:=Lc.end_now x.1 i
 refine ⟨h.u.gone i,by rw [hn]; exact h.nw,fun j v hj=>h.ep j v (end_sub hj),fun j v hj=>by rw [hn]; exact h.he j v (end_sub hj),fun s hs=>?_⟩
 obtain ⟨h1,h2⟩:=ses_gone h.u hs
 show (setV x.2 i none s).isSome=true
 unfold setV
 rw [if_neg h2]
 exact h.ls s h1
theorem SI.put (h:SI c ep x) (i:Int) (v:SeV) (h1:1≤v.k.ep∧v.k.ep≤ep) (h2:(0≤v.k.he∧v.k.he≤x.1.G.now)∧v.k.c=c):SI c ep (x.1,setV x.2 i (some v)):=by
 refine ⟨h.u,h.nw,fun j u hj=>?_,fun j u hj=>?_,fun s hs=>?_⟩
 ·by_cases hi:j=i
  ·simp [setV,hi] at hj; subst hj; exact h1
  ·simp [setV,hi] at hj; exact h.ep j u hj
 ·by_cases hi:j=i
  ·simp [setV,hi] at hj; subst hj; exact h2
  ·simp [setV,hi] at hj; exact h.he j u hj
 ·show (setV x.2 i (some v) s).isSome=true
  unfold setV
  split
  ·rfl
  ·exact h.ls s hs
theorem SI.tell1 (h:SI c ep x) (e:EvV):SI c ep (tell1 x e):=by
 unfold Gw.tell1
 cases hv:x.2 e.s with
 | none=>exact h
 | some v =>
  simp only []
  split
  ·exact h.put e.s _ (show 1≤v.k.ep∧v.k.ep≤ep from h.ep _ _ hv) (show (0≤v.k.he∧v.k.he≤x.1.G.now)∧v.k.c=c from h.he _ _ hv)
  ·exact h.gone _
theorem SI.tell:∀ (es:List EvV) {x:Kv},SI c ep x→SI c ep (tellF x es)
 | [],_,h=>h
 | e::r,_,h=>SI.tell r (h.tell1 e)
theorem SI.kset (h:SI c ep x) {K:KV} (hu:UQ K) (hn:K.G.now=x.1.G.now) (hs:∀ s,Ses K s→(x.2 s).isSome=true):SI c ep (K,x.2) :=
 ⟨hu,by show 0≤K.G.now∧_; rw [hn]; exact h.nw,h.ep,fun i v hv=>by show (_∧_≤K.G.now)∧_; rw [hn]; exact h.he i v hv,hs⟩
theorem SI.born (h:SI c ep x) (i:Int) (m:MsgV) {e:Int} (h1:1≤e) (h2:ep≤e):SI c e (bornK c x e i m):=by
 refine SI.tell1 (SI.put (h.more h2) i _ ⟨h1,Int.le_refl _⟩ ⟨⟨cl_lo _, ?_⟩,rfl⟩) _
 show cl x.1.G.now≤x.1.G.now
 rw [cl_id _ h.nw.1 (by have:=h.nw.2; omega)]
 exact Int.le_refl _
theorem SI.wel (h:SI c ep x) (he:0≤ep∧ep < 65535) (i:Int) (m:MsgV):SI c (welK c x ep i m).2 (welK c x ep i m).1:=by
 have e1:=nxE_one he
 unfold welK
 cases x.2 i with
 | none=>exact h.born i m (e:=nxE ep) (by omega) (by omega)
 | some v =>
  simp only []
  split
  ·exact h
  ·exact (h.gone i).born i m (e:=nxE ep) (by omega) (by omega)
theorem recv_k (v:SeV) (p:PktV) (now:Int) (b:Bool) (h:0≤v.k.he∧v.k.he≤now) (hn:0≤now∧now≤1000000):(recvS v p now b).k.ep=v.k.ep∧(recvS v p now b).k.c=v.k.c∧0≤(recvS v p now b).k.he∧(recvS v p now b).k.he≤now:=by
 have hc:cl now=now:=cl_id _ hn.1 (by omega)
 have hx:0≤mx2 v.k.he (cl now)∧mx2 v.k.he (cl now)≤now:=by rw [hc]; unfold Ln.mx2; split <;> omega
 show (Ln.recvK _ _ _ _).ep=_∧(Ln.recvK _ _ _ _).c=_∧0≤(Ln.recvK _ _ _ _).he∧(Ln.recvK _ _ _ _).he≤_
 unfold Ln.recvK Ln.hearK
 (repeat' split) <;> first | exact ⟨rfl,rfl,hx.1,hx.2⟩|exact ⟨rfl,rfl,h.1,h.2⟩
theorem SI.recv (h:SI c ep x) {i:Int} {v:SeV} (hv:x.2 i=some v) (p:PktV) (b:Bool):SI c ep (x.1,setV x.2 i (some (recvS v p x.1.G.now b))):=by
 obtain ⟨a1,a2,a3,a4⟩:=recv_k v p x.1.G.now b (h.he i v hv).1 h.nw
 exact h.put i _ (by rw [a1]; exact h.ep i v hv) ⟨⟨a3,a4⟩,a2.trans (h.he i v hv).2⟩
theorem SI.said (h:SI c ep x) {i:Int} (hi:(x.2 i).isSome=true) (f:Int) (m:MsgV):SI c ep (saidK x.1 i f m,x.2):=by
 unfold saidK
 split
 ·exact h.kset (h.u.ans _) rfl (fun s hs=>by
   rcases ses_ans hs with hs | rfl
   ·exact h.ls s hs
   ·exact hi)
 ·split
  ·exact h.kset (h.u.hear _ _) (Lc.hear_now _ _ _) (fun s hs=>h.ls s (ses_hear hs))
  ·exact h
theorem SI.come (h:SI c ep x) (he:0≤ep∧ep < 65535) (p:PktV):SI c (comeK c x ep p).2 (comeK c x ep p).1:=by
 unfold comeK
 split
 ·exact h.wel he _ _
 ·cases hv:x.2 p.se with
  | none=>exact h
  | some v =>
   simp only []
   split
   ·have h1:=h.recv hv p true
    exact SI.tell _ (h1.said (i:=p.se) (by show (setV _ _ _ _).isSome=true; simp [setV]) v.h.b (msgP p))
   ·exact h.recv hv p v.hd
theorem SI.run:∀ (ps:List (List Int)) {x:Kv×Int},0≤x.2→x.2+ps.length≤65535→SI c x.2 x.1→SI c (runL c x ps).2 (runL c x ps).1
 | [],_,_,_,h=>h
 | p::r,x,h1,h2,h=>by
  show SI c (runL c (if (Mg.getV p).2=0 then comeK c x.1 x.2 (Mg.getV p).1 else x) r).2 (runL c (if (Mg.getV p).2=0 then comeK c x.1 x.2 (Mg.getV p).1 else x) r).1
  simp only [List.length_cons] at h2
  split
  ·have h3:=come_ep c x.1 x.2 (Mg.getV p).1
   have h4:=nxE_one (e:=x.2) (by omega)
   exact SI.run r (by omega) (by omega) (h.come (by omega) _)
  ·exact SI.run r h1 (by omega) h
theorem SI.tickS {x:Ko} (h:SI c ep x.1) (i:Int):SI c ep (tickS x i).1:=by
 unfold Gw.tickS
 cases hv:x.1.2 i with
 | none=>exact h
 | some v =>
  simp only []
  split
  ·exact h.gone i
  ·have e:(pollS v x.1.1.G.now).k.ep=v.k.ep∧(pollS v x.1.1.G.now).k.he=v.k.he∧(pollS v x.1.1.G.now).k.c=v.k.c:=by
    show (Ln.pollK _ _ _).ep=_∧(Ln.pollK _ _ _).he=_∧(Ln.pollK _ _ _).c=_
    unfold Ln.pollK
    (repeat' split) <;> exact ⟨rfl,rfl,rfl⟩
   exact h.put i _ (by rw [e.1]; exact h.ep i v hv) (by rw [e.2.1,e.2.2]; exact h.he i v hv)
theorem SI.tickL:∀ (ks:List Int) {x:Ko},SI c ep x.1→SI c ep (tickL x ks).1
 | [],_,h=>h
 | k::r,_,h=>SI.tickL r (h.tickS k)
theorem SI.tk (h:SI c ep x) (hn:x.1.G.now < 1000000):SI c ep (tickK x.1,x.2):=by
 have e:=tick_nowK h.nw
 have h0:=h.nw
 exact ⟨h.u.tick,by show 0≤(tickK x.1).G.now∧(tickK x.1).G.now≤_; rw [e]; omega,h.ep,fun i v hv=>by
  show (_∧_≤(tickK x.1).G.now)∧_
  rw [e]
  have:=h.he i v hv
  exact ⟨⟨this.1.1,by omega⟩,this.2⟩,fun s hs=>h.ls s (ses_tick hs)⟩
end
structure QI (c:CfgV) (n0:Int) (j:Nat) (x:Kv):Prop where
 now:x.1.G.now=n0+j
 he:∀ i v,x.2 i=some v→(0≤i∧i < 64)∧v.k.he≤n0
 de:1≤j→∀ i v,x.2 i=some v→x.1.G.now < v.k.he+cl c.de
theorem QI.none {c:CfgV} {ep n0:Int} {j:Nat} {x:Kv} (h:QI c n0 j x) (hs:SI c ep x) (hj:(cl c.de:Int) < j):(∀ i,x.2 i=Option.none)∧x.1.L=[]∧x.1.Q=[]:=by
 have hcd:=cl_lo c.de
 have h0:∀ i,x.2 i=Option.none:=fun i=>by
  cases hv:x.2 i with
  | none=>rfl
  | some v =>
   have h1:=h.de (by omega) i v hv
   have h2:=(h.he i v hv).2
   have h3:=h.now
   omega
 refine ⟨h0, ?_, ?_⟩
 ·cases hl:x.1.L with
  | nil=>rfl
  | cons l r =>
   have:=hs.ls l.se (.inl ⟨l,by rw [hl]; exact List.mem_cons_self ..,rfl⟩)
   rw [h0] at this; cases this
 ·cases hl:x.1.Q with
  | nil=>rfl
  | cons a r =>
   have:=hs.ls a.se (.inr ⟨a,by rw [hl]; exact List.mem_cons_self ..,rfl⟩)
   rw [h0] at this; cases this
end Gw
namespace Gw
open Go.RowKit Ba Mem En Go.Proofs.YtepfmfalebmcnaaGreatDoor.Ty
open Fm (frames)
open Byt (BV isB)
open Co (KV newK Hold.ob NrP toNp Nr)
set_option maxRecDepth 100000
theorem set_same {α:Type} {ls:List α} {k:Nat} {x:α} (h:ls[k]?=some x):ls.set k x=ls:=by
 obtain ⟨hk,rfl⟩:=List.getElem?_eq_some_iff.1 h
 exact List.set_getElem_self hk
attribute [local irreducible] Go.Calls doV tickG
end Gw
end Go.Proofs.YtepfmfalebmcnaaGreatDoor
