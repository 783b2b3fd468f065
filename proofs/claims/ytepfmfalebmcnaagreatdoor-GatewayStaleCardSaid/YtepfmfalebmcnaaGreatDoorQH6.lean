/-
  Wanted: part 6.
  No condition.
-/
import Derived.Test.YtepfmfalebmcnaaGreatDoorProg
import Derived.Test.YtepfmfalebmcnaaGreatDoorQH0
import Derived.Test.YtepfmfalebmcnaaGreatDoorQH5
import Derived.Test.YtepfmfalebmcnaaGreatDoorQH1
import Derived.WalkKit
set_option linter.all false
namespace Go.Proofs.YtepfmfalebmcnaaGreatDoor
namespace Gr
open Go.RowKit Ba Mem Go.Proofs.YtepfmfalebmcnaaGreatDoor.Ty Mo Go.Proofs.YtepfmfalebmcnaaGreatDoor.St Sc Pl
open Ct (cfgA carA m1 dwV bdX tkV tkF tkW tkS tickT)
set_option maxRecDepth 100000
attribute [local irreducible] Go.wpList
set_option maxHeartbeats 4000000 in
theorem repeatT (b m:Nat) (x:CarV) (w:World) (hb:Blk w b 124 (carA x)) (hm:(m:Int)=1∨(m:Int)=2∨(m:Int)=3∨(m:Int)=4∨(m:Int)=5∨(m:Int)=6∨(m:Int)=7∨(m:Int)=8):Calls Tryz.prog 89 #[.slice (some ⟨b,0,none⟩) 1 1,.int .i64 (m:Int)] w fun e w'=>∃ g,e=.returned (.slice (some ⟨g,0,none⟩) m m)∧w.heap.size≤g∧CarsAt w.heap.size (some ⟨g,0,none⟩) m m (List.replicate m x) w'∧Since w w':=by
 have HB:=Lib.hid hb
 clear hb
 have HM:=Lib.hid hm
 clear hm
 have HMR:=Lib.hid (show 1≤m∧m≤8 by have:=HM.out; omega)
 go_enter Tryz.func89,Tryz.ntmps89
 go_upto_region 1 with fail
 have HS1:=Lib.hid (Since.refl w)
 refine wp_region_lit ?_
 refine tkL (.int .i64 (m:Int)) (h:=?_)
 try simp only[Act.put,sA,sB,sC]
 refine wpList_q (by rfl) (.bool false) ?he ?_
 case he=>(go_simp; (first | done | rfl | omega))
 try simp only[Act.put,sA,sB,sC]
 refine wpList_nil ?_
 go_upto_region 3 with fail
 refine wp_region_lit ?_
 refine tkL (.slice (some ⟨b,0,none⟩) 1 1) (h:=?_)
 try simp only[Act.put,sA,sB,sC]
 refine tkL (.int .i64 1) (h:=?_)
 try simp only[Act.put,sA,sB,sC]
 refine wpList_q (by rfl) (.int .u64 1) ?he ?_
 case he=>(have q:=HMR.out; go_simp; (first | done | rfl | (simp only [IntKind.wrap,IntKind.bits,IntKind.signed]; simp; omega)))
 try simp only[Act.put,sA,sB,sC]
 refine tkL (.int .i64 (m:Int)) (h:=?_)
 try simp only[Act.put,sA,sB,sC]
 refine wpList_q (by rfl) (.int .u64 (m:Int)) ?he ?_
 case he=>(have q:=HMR.out; go_simp; (first | done | rfl | (simp only [IntKind.wrap,IntKind.bits,IntKind.signed]; simp; omega)))
 try simp only[Act.put,sA,sB,sC]
 refine wpList_wp (by rfl) (fun K hK=>?_)
 (try go_simp)
 refine (mulC (m:Int) HM.out _).mono ?_
 rintro e w' ⟨rfl,rfl⟩
 (try go_wp2_with fail)
 refine hK.out _ _ ?_
 clear hK K
 try simp only[Act.put,sA,sB,sC]
 refine tkL (.tuple #[.int .u64 0,.int .u64 (m:Int)]) (h:=?_)
 try simp only[Act.put,sA,sB,sC]
 refine tkL (.int .u64 0) (h:=?_)
 try simp only[Act.put,sA,sB,sC]
 refine tkL (.int .u64 (m:Int)) (h:=?_)
 try simp only[Act.put,sA,sB,sC]
 refine tkL (.int .u64 0) (h:=?_)
 try simp only[Act.put,sA,sB,sC]
 refine tkL (.int .u64 (m:Int)) (h:=?_)
 try simp only[Act.put,sA,sB,sC]
 refine wpList_nil ?_
 go_upto_region 4 with fail
 refine wp_region_lit ?_
 refine tkL (.int .u64 0) (h:=?_)
 try simp only[Act.put,sA,sB,sC]
 refine tkL (.bool false) (h:=?_)
 try simp only[Act.put,sA,sB,sC]
 refine tkL (.bool false) (h:=?_)
 try simp only[Act.put,sA,sB,sC]
 refine tkL (.int .u64 (m:Int)) (h:=?_)
 try simp only[Act.put,sA,sB,sC]
 refine wpList_q (by rfl) (.bool false) ?he ?_
 case he=>(have q0:=HMR.out; go_simp; (first | done | rfl | omega))
 try simp only[Act.put,sA,sB,sC]
 refine tkL (.bool false) (h:=?_)
 try simp only[Act.put,sA,sB,sC]
 refine wpList_nil ?_
 go_upto_region 6 with fail
 refine wp_region_lit ?_
 refine tkL (.int .u64 (m:Int)) (h:=?_)
 try simp only[Act.put,sA,sB,sC]
 refine wpList_q (by rfl) (.int .i64 (m:Int)) ?he ?_
 case he=>(have q:=HMR.out; go_simp; (first | done | rfl | (simp only [IntKind.wrap,IntKind.bits,IntKind.signed]; simp; omega)))
 try simp only[Act.put,sA,sB,sC]
 refine wpList_wp (by rfl) (fun K hK=>?_)
 refine wp_make 116 124 (.tmp 29) (.tmp 29) rfl (z:=Value.agg #[.int .i64 0,.int .i64 0,.int .i64 0,.int .i64 0,.int .i64 0,.int .i64 0,.int .i64 0,.bool false,.bool false,.int .i64 0,.int .i64 0,.bool false,.int .u64 0,.int .u64 0,.int .u64 0]) (k:=15) (bytes:=112) Tryz.underlying116 (by kernel_rfl) m rfl rfl (by have:=HMR.out; omega) (by decide) rfl ?_
 intro bD cur w2 hge hB hsz hb
 refine hK.out _ _ ?_
 clear hK K
 try simp only[Act.put,sA,sB,sC]
 have HSZ:=Lib.hid hsz; clear hsz
 have HNDX:=Lib.hid (show bD≠b by have:=Blk.lt HB.out; omega)
 have HGD:=Lib.hid (show w.heap.size≤bD by have:=Since.size HS1.out; omega)
 have HS2:=Lib.hid (Since.trans HS1.out hb)
 have HBX2:=Lib.hid (keep_blk hb HB.out)
 clear HS1 HB
 clear hb hge
 have HBD2:=Lib.hid hB
 clear hB
 refine tkL (.slice (some ⟨bD,0,none⟩) m m) (h:=?_)
 try simp only[Act.put,sA,sB,sC]
 refine wpList_nil ?_
 go_upto_region 7 with fail
 refine wp_region_lit ?_
 refine tkL (.slice (some ⟨bD,0,none⟩) m m) (h:=?_)
 try simp only[Act.put,sA,sB,sC]
 refine tkL (.slice (some ⟨b,0,none⟩) 1 1) (h:=?_)
 try simp only[Act.put,sA,sB,sC]
 refine wpList_wp (by rfl) (fun K hK=>?_)
 refine wp_copy_k (.tmp 31) (.tmp 32) 116 116 124 rfl Tryz.underlying116 (k:=15) (by kernel_rfl) (m:=1) (carL x) rfl rfl HBD2.out (by have:=HMR.out; show Nat.min 1 m=1; exact Nat.min_eq_left this.1) rfl (src_blk (l:=carL x) HBX2.out) (by have:=HSZ.out; have:=HMR.out; simp only [carL_len]; omega) (carL_one x) ?_
 intro w3 hw
 refine hK.out _ _ ?_
 clear hK K
 try simp only[Act.put,sA,sB,sC]
 have HS3:=Lib.hid (show Since w w3 by rw [hw]; exact Since.setRow HS2.out HGD.out _)
 have HBX3:=Lib.hid (show Blk w3 b 124 (carA x) by rw [hw]; exact Blk.row_far HBX2.out (Ne.symm HNDX.out) _)
 have HBD3:=Lib.hid (show Blk w3 bD 124 (copyR cur 0 (carL x)) by rw [hw]; exact Blk.row HBD2.out _)
 clear hw HS2 HBX2 HBD2
 refine tkL (.int .i64 ((1:Nat):Int)) (h:=?_)
 try simp only[Act.put,sA,sB,sC]
 refine wpList_nil ?_
 have HSZ1:=Lib.hid (copyR_size (cur:=cur) (o:=0) (cs:=carL x) (by have:=HSZ.out; have:=HMR.out; simp only [carL_len]; omega) HSZ.out)
 have HTK1:=Lib.hid (show (copyR cur 0 (carL x)).toList.take (1*15)=rowsOf carL (List.replicate 1 x) by have q:=copyR_take (cur:=cur) (o:=0) (cs:=carL x) (by have:=HSZ.out; have:=HMR.out; simp only [carL_len]; omega); simpa [carL_len,rowsOf] using q)
 go_wp2_with fail
 refine wp_uloop (ds:=[]) (fun n fr wr=>∃ (n2:Nat) (c2:Array Value),(1≤n2∧n2≤m)∧c2.size=m*15∧c2.toList.take (n2*15)=rowsOf carL (List.replicate n2 x)∧(m - n2)=n∧Fits fr 48 [(0,.slice (some ⟨b,0,none⟩) 1 1),(1,.int .i64 (m:Int)),(4,.slice none 0 0),(5,.int .u64 0),(6,.int .u64 (m:Int)),(7,.slice (some ⟨bD,0,none⟩) m m),(8,.int .i64 (n2:Int))]∧Hid (Since w wr∧Blk wr bD 124 c2)) (m - 1) ?start3 ?round3
 case start3=>exact ⟨1,(copyR cur 0 (carL x)),(by have:=HMR.out; omega),HSZ1.out,HTK1.out,rfl,⟨rfl,rfl,rfl,rfl,rfl,rfl,rfl,rfl,trivial⟩,Lib.hid ⟨HS3.out,HBD3.out⟩⟩
 case round3 =>
  intro n fr wr hR J1 K1 hJ1 hK1
  clear HS3 HBX3 HBD3
  obtain ⟨n2,c2,hn2,hsz2,htk2,hn,hF,HO⟩:=hR
  have HM:=Lib.hid hn; clear hn
  obtain ⟨g0,g1⟩:=HO.out
  clear HO
  have HS53:=Lib.hid g0
  have HBD53:=Lib.hid g1
  clear g0 g1
  obtain ⟨u,hu⟩:=hF.open_
  have hu2:=hu.trans (show _=#[.slice (some ⟨b,0,none⟩) 1 1,.int .i64 (m:Int),u 2,u 3,.slice none 0 0,.int .u64 0,.int .u64 (m:Int),.slice (some ⟨bD,0,none⟩) m m,.int .i64 (n2:Int),u 9,u 10,u 11,u 12,u 13,u 14,u 15,u 16,u 17,u 18,u 19,u 20,u 21,u 22,u 23,u 24,u 25,u 26,u 27,u 28,u 29,u 30,u 31,u 32,u 33,u 34,u 35,u 36,u 37,u 38,u 39,u 40,u 41,u 42,u 43,u 44,u 45,u 46,u 47] by kernel_rfl)
  clear hu hF
  subst hu2
  have HN2:=Lib.hid hn2; have HSZ2:=Lib.hid hsz2; have HTK2:=Lib.hid htk2; clear hn2 hsz2 htk2
  by_cases hcs:n2 < m
  rotate_left
  · have HLT:=Lib.hid hcs; clear hcs
    go_upto_region 8 with fail
    refine wp_region_lit ?_
    refine tkL (.int .i64 (n2:Int)) (h:=?_)
    try simp only[Act.put,sA,sB,sC]
    refine tkL (.slice (some ⟨bD,0,none⟩) m m) (h:=?_)
    try simp only[Act.put,sA,sB,sC]
    refine tkL (.int .i64 (m:Int)) (h:=?_)
    try simp only[Act.put,sA,sB,sC]
    refine wpList_q (by rfl) (.bool false) ?he ?_
    case he=>(have q0:=HLT.out; go_simp; (first | done | rfl | omega))
    try simp only[Act.put,sA,sB,sC]
    refine wpList_nil ?_
    go_upto_region 10 with fail
    refine wp_region_lit ?_
    refine tkL (.slice (some ⟨bD,0,none⟩) m m) (h:=?_)
    try simp only[Act.put,sA,sB,sC]
    refine tkL (.slice (some ⟨bD,0,none⟩) m m) (h:=?_)
    try simp only[Act.put,sA,sB,sC]
    refine wpList_nil ?_
    (try go_wp2_with fail)
    go_ret
    have e:n2=m:=by have:=HLT.out; have:=HN2.out; omega
    subst e
    exact ⟨bD,rfl,HGD.out,⟨by rw [rowsOf_len carL_len,List.length_replicate],.inr ⟨bD,_,_,rfl,HGD.out,HBD53.out,Nat.le_refl _,by have:=HMR.out; unfold maxLen; omega,HSZ2.out,HTK2.out⟩⟩,HS53.out⟩
  · have HLT:=Lib.hid hcs; clear hcs
    go_upto_region 8 with fail
    refine wp_region_lit ?_
    refine tkL (.int .i64 (n2:Int)) (h:=?_)
    try simp only[Act.put,sA,sB,sC]
    refine tkL (.slice (some ⟨bD,0,none⟩) m m) (h:=?_)
    try simp only[Act.put,sA,sB,sC]
    refine tkL (.int .i64 (m:Int)) (h:=?_)
    try simp only[Act.put,sA,sB,sC]
    refine wpList_q (by rfl) (.bool true) ?he ?_
    case he=>(have q0:=HLT.out; go_simp; (first | done | rfl | omega))
    try simp only[Act.put,sA,sB,sC]
    refine wpList_nil ?_
    have HMM:=Lib.hid (show (Nat.min n2 (m - n2))≤n2∧(Nat.min n2 (m - n2))≤m - n2∧1≤(Nat.min n2 (m - n2)) from ⟨Nat.min_le_left _ _,Nat.min_le_right _ _,Nat.le_min.2 ⟨HN2.out.1,by have:=HLT.out; omega⟩⟩)
    have HLC:=Lib.hid (show (rowsOf carL (List.replicate (Nat.min n2 (m - n2)) x)).length=(Nat.min n2 (m - n2))*15 by rw [rowsOf_len carL_len,List.length_replicate])
    have HFT:=Lib.hid (show n2*15+(rowsOf carL (List.replicate (Nat.min n2 (m - n2)) x)).length≤c2.size by rw [HLC.out,HSZ2.out]; have:=HMM.out; have:=HN2.out; omega)
    have HSZ3:=Lib.hid (copyR_size HFT.out HSZ2.out)
    go_upto_region 9 with fail
    have HKS:Hid (KeepS (fun W:World=>Since w W∧HasRow W bD 124 (m*15)) wr):=Lib.hid ⟨fun W W' k ⟨h,h0⟩=>⟨h.trans k,HasRow.keep k h0⟩,⟨HS53.out,HasRow.of HBD53.out HSZ2.out⟩⟩
    have HRK:=Lib.hid HKS.out.1
    have HPD:=Lib.hid (show Blk (World.drew wr) bD 124 c2 from HBD53.out)
    refine wp_held HKS.out (by kernel_rfl) (fun hHeld=>?_)
    refine tkQ 0 (.int .i64 (n2:Int)) hHeld (h:=?_)
    try simp only[Act.put,sA,sB,sC]
    refine tkQ 1 (.slice (some ⟨bD,0,none⟩) m m) hHeld (h:=?_)
    try simp only[Act.put,sA,sB,sC]
    refine tkQ 2 (.int .i64 (n2:Int)) hHeld (h:=?_)
    try simp only[Act.put,sA,sB,sC]
    refine tkQ 3 (.slice (some ⟨bD,n2*15,none⟩) (m - n2) (m - n2)) hHeld (he:=by intro w hSw; exact exec_slice (s:=15) 116 124 _ _ _ _ rfl rfl Tryz.underlying116 (by kernel_rfl) (sb_l _ _ (l:=n2) rfl (by have:=HN2.out; omega)) (by have q:=HLT.out; rw [if_neg (by omega)]; simp only [Option.map_some,Go.WideShapes.add_plain,Nat.zero_add]) rfl rfl) (h:=?_)
    try simp only[Act.put,sA,sB,sC]
    refine tkQ 4 (.slice (some ⟨bD,0,none⟩) m m) hHeld (h:=?_)
    try simp only[Act.put,sA,sB,sC]
    refine tkQ 5 (.int .i64 (n2:Int)) hHeld (h:=?_)
    try simp only[Act.put,sA,sB,sC]
    refine tkQ 6 (.slice (some ⟨bD,0,none⟩) n2 m) hHeld (he:=by intro w hSw; exact exec_slice (s:=15) 116 124 _ _ _ _ rfl rfl Tryz.underlying116 (by kernel_rfl) (sb_h _ _ (h:=n2) rfl (by have:=HN2.out; omega)) (by split <;> simp [Addr.add]) rfl rfl) (h:=?_)
    try simp only[Act.put,sA,sB,sC]
    refine wpAnyH_ready (rs:=[7]) (by kernel_rfl) (by simp) ?_
    refine AllReadyH.cons (o:=?o9__7) ?h9__7 (fun K hK=>?_) AllReadyH.nil
    case h9__7=>(first | (simp only [gA,gB,gC]; done)|(simp only [gA,gB,gC]; exact rfl))
    rw [if_pos (by rfl)]
    refine wp_copy_k (.tmp 41) (.tmp 44) 116 116 124 rfl Tryz.underlying116 (k:=15) (by kernel_rfl) (m:=(Nat.min n2 (m - n2))) (rowsOf carL (List.replicate (Nat.min n2 (m - n2)) x)) rfl rfl HPD.out rfl HLC.out (src_row HPD.out (by have q:=reps carL_len x n2 (Nat.min n2 (m - n2)) HMM.out.1; rw [← HTK2.out,List.take_take,Nat.min_eq_left (Nat.mul_le_mul_right 15 HMM.out.1)] at q; exact q)) HFT.out (cars_one _) ?_
    clear HPD
    intro w54 hw
    have HRD:=Lib.hid (show Blk w54 bD 124 (copyR c2 (n2*15) (rowsOf carL (List.replicate (Nat.min n2 (m - n2)) x))) by obtain ⟨old,Bo,_⟩:=hHeld.2; rw [hw]; exact Blk.row Bo _)
    have hHeld3:=HKS.out.at_ w54 ⟨by rw [hw]; exact Since.setRow hHeld.1 HGD.out _,HasRow.of HRD.out HSZ3.out⟩
    refine hK.out _ _ hHeld3 (fun hHeld2=>?_)
    clear hK K hHeld hHeld3 hw
    have hHeld:=hHeld2
    clear hHeld2
    try simp only[Act.put,sA,sB,sC]
    refine tkQ 8 (.int .i64 ((n2:Int)+((Nat.min n2 (m - n2)):Int))) hHeld (he:=by intro w hSw; (go_simp; (first | done | (refine wrG _ ?_ ?_ <;> (have q0:=HMM.out; have q1:=HN2.out; have q2:=HMR.out; omega))|(have q0:=HMM.out; have q1:=HN2.out; have q2:=HMR.out; omega)|(have q0:=HMM.out; have q1:=HN2.out; have q2:=HMR.out; split <;> omega)|(have q0:=HMM.out; have q1:=HN2.out; have q2:=HMR.out; intro hh; omega)))) (h:=?_)
    try simp only[Act.put,sA,sB,sC]
    refine tkQ 9 (.int .i64 ((n2:Int)+((Nat.min n2 (m - n2)):Int))) hHeld (h:=?_)
    try simp only[Act.put,sA,sB,sC]
    refine wpAnyH_done (by kernel_rfl) ?_ _
    have HSd9:=Lib.hid hHeld.1
    have HBDd9:=Lib.hid HRD.out
    clear HRD
    clear hHeld HRK HKS HS53 HBD53
    go_wp2_with fail
    refine Met.intro ?_
    refine hJ1 _ _ _ ?less54 ⟨(n2+(Nat.min n2 (m - n2))),(copyR c2 (n2*15) (rowsOf carL (List.replicate (Nat.min n2 (m - n2)) x))),(by have:=HMM.out; have:=HN2.out; omega),HSZ3.out,(by have q:=copyR_take HFT.out; rw [HLC.out,← Nat.add_mul,HTK2.out,reps_add] at q; exact q),rfl,⟨rfl,rfl,rfl,rfl,rfl,rfl,rfl,(by show some (Value.int .i64 ((n2:Int)+_))=_; (try push_cast); rfl),trivial⟩,Lib.hid ⟨HSd9.out,HBDd9.out⟩⟩
    case less54=>exact (by have:=HM.out; have:=HMM.out; have:=HLT.out; omega)
end Gr
namespace Gr
open Go.RowKit Ba Mem En Mo Go.Proofs.YtepfmfalebmcnaaGreatDoor.Ty Go.Proofs.YtepfmfalebmcnaaGreatDoor.St
open Ct (cfgA carA)
open Et (carsO)
set_option maxRecDepth 100000
attribute [local irreducible] Go.Calls
theorem carsT (lo q:Nat) (G:GrV) (S:List Nat) (w:World) (hg:GO lo q G S w) (hl:G.cars.length≤1000000):Calls Tryz.prog 59 #[.pointer (some ⟨q,0,none⟩)] w fun e w'=>∃ A' c',e=.returned (.slice A' G.cars.length c')∧CarsAt w.heap.size A' G.cars.length c' G.cars w'∧Since w w':=by
 obtain ⟨h0,A1,c1,A2,c2,rfl,hq,O1,O2⟩:=hg
 refine entH tab_ok (Hold.addObj (hold_q (S:=[]) [.i .i64 G.c.ca,.i .i64 G.c.fl,.i .i64 G.c.ft,.i .i64 G.c.se,.i .i64 G.c.dr,.i .i64 G.c.dw,.i .i64 G.c.ho,.i .i64 G.c.re,.i .i64 G.c.yi,.i .i64 G.c.qu,.i .i64 G.c.qo,.i .i64 G.c.lo,.i .i64 G.c.sl,.i .i64 G.c.rt,.i .i64 G.c.cp,.i .i64 G.c.tr,.i .i64 G.c.de,.i .i64 G.c.wi,.v (.slice A1 G.cars.length c1),.v (.slice A2 G.waits.length c2),.i .i64 G.now] hq) (carsO lo A1 G.cars.length c1 G.cars false) O1 (by intro k; cases k) (by intro r hr _; rw [List.mem_singleton] at hr; subst hr; exact own_ne_ty O1 hq (by decide)) (by intro A hA; cases hA)) [.p 0 0] Tryz.func59 Tryz.ntmps59 rfl rfl ?_
 repeat' (first | refine gs_ ?_|((conv=>whnf); first | intro b | refine callN (f:=84) (ι:={x:Nat×Option Addr×Nat // w.heap.size≤x.1}) (fun x=>.v (.slice x.1.2.1 G.cars.length x.1.2.2)) (fun x=>carsO x.1.1 x.1.2.1 G.cars.length x.1.2.2 G.cars true) (fun w1 hH=>(C1.cloneT lo A1 c1 G.cars w1 (hH.obj (carsO lo A1 G.cars.length c1 G.cars false) (List.mem_singleton.2 rfl)) hl).mono (by rintro e w' ⟨A',c',rfl,hO,hs⟩; exact ⟨⟨(w1.heap.size,A',c'),hH.upd.size⟩,rfl,hO,hs,own_low hO⟩)) (fun x=>?_)|refine fin fun w' hH=>⟨_,_,rfl,own_base (hH.obj (carsO _ _ _ _ _ true) (List.mem_cons_of_mem _ (List.mem_cons_self ..))) x.2,hH.upd.since⟩|refine fin_s ?_))
theorem waitsT (lo q:Nat) (G:GrV) (S:List Nat) (w:World) (hg:GO lo q G S w) (hl:G.waits.length≤1000000):Calls Tryz.prog 229 #[.pointer (some ⟨q,0,none⟩)] w fun e w'=>∃ A' c',e=.returned (.slice A' G.waits.length c')∧WaitsAt w.heap.size A' G.waits.length c' G.waits w'∧Since w w':=by
 obtain ⟨h0,A1,c1,A2,c2,rfl,hq,O1,O2⟩:=hg
 refine entH tab_ok (Hold.addObj (hold_q (S:=[]) [.i .i64 G.c.ca,.i .i64 G.c.fl,.i .i64 G.c.ft,.i .i64 G.c.se,.i .i64 G.c.dr,.i .i64 G.c.dw,.i .i64 G.c.ho,.i .i64 G.c.re,.i .i64 G.c.yi,.i .i64 G.c.qu,.i .i64 G.c.qo,.i .i64 G.c.lo,.i .i64 G.c.sl,.i .i64 G.c.rt,.i .i64 G.c.cp,.i .i64 G.c.tr,.i .i64 G.c.de,.i .i64 G.c.wi,.v (.slice A1 G.cars.length c1),.v (.slice A2 G.waits.length c2),.i .i64 G.now] hq) (waitsO lo A2 G.waits.length c2 G.waits false) O2 (by intro k; cases k) (by intro r hr _; rw [List.mem_singleton] at hr; subst hr; exact own_ne_ty O2 hq (by decide)) (by intro A hA; cases hA)) [.p 0 0] Tryz.func229 Tryz.ntmps229 rfl rfl ?_
 repeat' (first | refine gs_ ?_|((conv=>whnf); first | intro b | refine callN (f:=263) (ι:={x:Nat×Option Addr×Nat // w.heap.size≤x.1}) (fun x=>.v (.slice x.1.2.1 G.waits.length x.1.2.2)) (fun x=>waitsO x.1.1 x.1.2.1 G.waits.length x.1.2.2 G.waits true) (fun w1 hH=>(C2.cloneT lo A2 c2 G.waits w1 (hH.obj (waitsO lo A2 G.waits.length c2 G.waits false) (List.mem_singleton.2 rfl)) hl).mono (by rintro e w' ⟨A',c',rfl,hO,hs⟩; exact ⟨⟨(w1.heap.size,A',c'),hH.upd.size⟩,rfl,hO,hs,own_low hO⟩)) (fun x=>?_)|refine fin fun w' hH=>⟨_,_,rfl,own_base (hH.obj (waitsO _ _ _ _ _ true) (List.mem_cons_of_mem _ (List.mem_cons_self ..))) x.2,hH.upd.since⟩|refine fin_s ?_))
theorem nowT (lo q:Nat) (G:GrV) (S:List Nat) (w:World) (hg:GO lo q G S w):Calls Tryz.prog 40 #[.pointer (some ⟨q,0,none⟩)] w fun e w'=>e=.returned (.int .i64 G.now)∧Since w w':=by
 obtain ⟨h0,A1,c1,A2,c2,rfl,hq,O1,O2⟩:=hg
 refine entH tab_ok (hold_q (S:=[]) [.i .i64 G.c.ca,.i .i64 G.c.fl,.i .i64 G.c.ft,.i .i64 G.c.se,.i .i64 G.c.dr,.i .i64 G.c.dw,.i .i64 G.c.ho,.i .i64 G.c.re,.i .i64 G.c.yi,.i .i64 G.c.qu,.i .i64 G.c.qo,.i .i64 G.c.lo,.i .i64 G.c.sl,.i .i64 G.c.rt,.i .i64 G.c.cp,.i .i64 G.c.tr,.i .i64 G.c.de,.i .i64 G.c.wi,.v (.slice A1 G.cars.length c1),.v (.slice A2 G.waits.length c2),.i .i64 G.now] hq) [.p 0 0] Tryz.func40 Tryz.ntmps40 rfl rfl ?_
 repeat' (first | refine gs_ ?_|((conv=>whnf); first | intro b | refine fin_s ?_))
 all_goals rfl
def ncars (c:CfgV):Nat:=if c.ca < 1 then 1 else if 8 < c.ca then 8 else c.ca.toNat
theorem ncars_bd (c:CfgV):1≤ncars c∧ncars c≤8:=by unfold ncars; (repeat' split) <;> omega
theorem ncE (c:CfgV):(if 8 < (if 1 > c.ca then 1 else c.ca) then 8 else (if 1 > c.ca then 1 else c.ca))=(ncars c:Int):=by
 have h:(ncars c:Int)=if c.ca < 1 then 1 else if 8 < c.ca then 8 else c.ca:=by unfold ncars; by_cases h1:c.ca < 1 <;> by_cases h2:8 < c.ca <;> simp [h1,h2] <;> omega
 rw [h]; repeat' split <;> omega
def zeroX:CarV:=⟨0,0,0,0,0,-1,0,false,false,0,0,false,0,0,0⟩
def newG (c:CfgV):GrV:=⟨c,List.replicate (ncars c) zeroX,[],0⟩
theorem newT (c:CfgV) (w:World):Calls Tryz.prog 68 #[.agg (cfgA c)] w fun e w'=>∃ q S',e=.returned (.pointer (some ⟨q,0,none⟩))∧GO w.heap.size q (newG c) S' w'∧Since w w':=by
 have hm:=ncars_bd c
 refine ent tab_ok [.a (sCfg c)] Tryz.func68 Tryz.ntmps68 rfl rfl ?_
 repeat' (first | refine gs_ ?_|((conv=>whnf); first | intro b | refine callS (f:=90) (.a (sCar zeroX)) (Pl.newT) ?_|refine opb1 (e:=124) ⟨tab_ok⟩ (sCar zeroX) (by rfl) (by rfl) ?_|refine callN (f:=89) (ι:={x:Nat×Nat // w.heap.size≤x.1}) (fun x=>.v (.slice (some ⟨x.1.2,0,none⟩) (ncars c) (ncars c))) (fun x=>carsO x.1.1 (some ⟨x.1.2,0,none⟩) (ncars c) (ncars c) (List.replicate (ncars c) zeroX) true) (fun w1 hH=>by have:=repeatT _ (ncars c) zeroX w1 (hH.row 1 _ rfl rfl) (by omega); rw [← ncE] at this; exact this.mono (by rintro e w' ⟨g,rfl,hg,hO,hs⟩; exact ⟨⟨(w1.heap.size,g),hH.upd.size⟩,rfl,hO,hs,own_low hO⟩)) (fun x=>?_)|refine fin_s ?_))
 all_goals (conv=>whnf)
 have e:(List.replicate (ncars c) zeroX).length=ncars c:=List.length_replicate
 refine fin fun w' hH=>⟨_,_,rfl,⟨?_,some ⟨x.1.2,0,none⟩,ncars c,none,0,rfl, ?_, ?_,World.ownsRow_nil _ _ _ _⟩,hH.upd.since⟩
 ·rcases (hH.wf 2 _ rfl rfl).2.2 rfl with h | h
  ·cases h
  ·exact h
 ·have q:=hH.row 2 _ rfl rfl
  rw [rowA_nil rfl rfl] at q
  have e2:(newG c).cars.length=ncars c:=e
  rw [e2]; exact q
 ·have q:=own_base (hH.obj (carsO x.1.1 (some ⟨x.1.2,0,none⟩) (ncars c) (ncars c) (List.replicate (ncars c) zeroX) true) (List.mem_singleton.2 rfl)) x.2
  unfold CarsAt
  simpa [newG,e] using q
end Gr
namespace Gr
open Go.RowKit Ba Mem En Mo Go.Proofs.YtepfmfalebmcnaaGreatDoor.Ty Go.Proofs.YtepfmfalebmcnaaGreatDoor.St
open Ct (cfgA carA)
open Et (carsO)
set_option maxRecDepth 100000
attribute [local irreducible] Go.Calls
def upto {α:Type} (f:α→α) (ws:List α) (i:Nat):List α:=(ws.take i).map f++ws.drop i
section
variable {α:Type} {f:α→α} {ws:List α} {i:Nat}
theorem upto_len:(upto f ws i).length=ws.length:=by simp [upto]; omega
theorem upto_zero:upto f ws 0=ws:=by simp [upto]
theorem upto_end:upto f ws ws.length=ws.map f:=by simp [upto]
theorem upto_at (hi:i < ws.length) (h2:i < (upto f ws i).length):(upto f ws i)[i]=ws[i]:=by
 have:(upto f ws i)[i]?=some ws[i]:=by
  unfold upto
  rw [List.getElem?_append_right (by simp; omega)]
  simp [Nat.min_eq_left (Nat.le_of_lt hi),hi]
 rw [List.getElem?_eq_getElem h2] at this
 exact Option.some.inj this
theorem upto_set (hi:i < ws.length):(upto f ws i).set i (f ws[i])=upto f ws (i+1):=by
 unfold upto
 rw [List.set_append_right _ _ (by simp; omega)]
 simp only [List.length_map,List.length_take,Nat.min_eq_left (Nat.le_of_lt hi),Nat.sub_self]
 rw [List.drop_eq_getElem_cons hi,List.set_cons_zero,List.take_succ_eq_append_getElem hi,List.map_append,List.append_assoc]
 rfl
end
def disW (car:Int) (a:WaitV):WaitV:=if a.ca=car then { a with ca := -1 } else a
set_option maxHeartbeats 4000000 in
abbrev wPS (lo g n c k:Nat) (ls:List WaitV):={x:List Value×List Value // x.1.length=0+k*4∧∀ y w',Blk w' g 200 (el x.1 (waitA y) x.2)→WaitsAt lo (some ⟨g,0,none⟩) n c (ls.set k y) w'}
theorem wait_open {lo g n c k:Nat} {ls:List WaitV} {w:World} {x:WaitV} (h:WaitsAt lo (some ⟨g,0,none⟩) n c ls w) (hx:ls[k]?=some x):∃ p:wPS lo g n c k ls,g∈blkOf (some ⟨g,0,none⟩)∧p.1.1.length=0+k*4∧Blk w g 200 (el p.1.1 (waitA x) p.1.2):=by
 obtain ⟨hi,rfl⟩:=List.getElem?_eq_some_iff.1 hx
 obtain ⟨P,S,hP,hB,hb⟩:=own_el waitL_len h hi
 exact ⟨⟨(P,S),hP,fun y w' hB'=>hb y w' hB'⟩,by simp [blkOf],hP,hB⟩
theorem disownT (lo q:Nat) (G:GrV) (v1:Value) (A2:Option Addr) (c2:Nat) (car:Int) (w:World) (hq:Blk w q 128 (grpA G v1 (.slice A2 G.waits.length c2))) (ho:WaitsAt lo A2 G.waits.length c2 G.waits w) (hl:G.waits.length≤1000000):Calls Tryz.prog 152 #[.pointer (some ⟨q,0,none⟩),.int .i64 car] w fun e w'=>e=.returned (.tuple #[])∧WaitsAt lo A2 G.waits.length c2 (G.waits.map (disW car)) w'∧Upd (blkOf A2) w w':=by
 obtain ⟨g,hA⟩:∃ g,0 < G.waits.length→A2=some ⟨g,0,none⟩:=by
  rcases own_at ho with ⟨_,h0,_⟩ | ⟨g,_,h1,_⟩
  ·exact ⟨0,fun k=>by omega⟩
  ·exact ⟨g,fun _=>h1⟩
 refine entH tab_ok (Hold.addObj (hold_q (S:=blkOf A2) [.i .i64 G.c.ca,.i .i64 G.c.fl,.i .i64 G.c.ft,.i .i64 G.c.se,.i .i64 G.c.dr,.i .i64 G.c.dw,.i .i64 G.c.ho,.i .i64 G.c.re,.i .i64 G.c.yi,.i .i64 G.c.qu,.i .i64 G.c.qo,.i .i64 G.c.lo,.i .i64 G.c.sl,.i .i64 G.c.rt,.i .i64 G.c.cp,.i .i64 G.c.tr,.i .i64 G.c.de,.i .i64 G.c.wi,.v v1,.v (.slice A2 G.waits.length c2),.i .i64 G.now] hq) (waitsO lo A2 G.waits.length c2 G.waits true) ho (fun _ g hg=>.inl hg) (by intro r hr _; rw [List.mem_singleton] at hr; subst hr; exact own_ne_ty ho hq (by decide)) (by intro A hA; cases hA)) [.p 0 0,.i .i64 car] Tryz.func152 Tryz.ntmps152 rfl rfl ?_
 repeat' (first | refine gs_ ?_|((conv=>whnf); first | intro b | refine b3_ (fun h=>?_) (fun h=>?_)|refine fin_s ?_))
 conv=>whnf
 refine lpS ⟨tab_ok⟩ (ι:={k:Nat // k≤G.waits.length}) (fun x=>match x with | ⟨k,_⟩=>⟨[(0,.p 0 0),(1,.i .i64 car),(9,.i .i64 G.waits.length),(10,.i .i64 (k:Int))],[⟨q,128,true,0,[],[.i .i64 G.c.ca,.i .i64 G.c.fl,.i .i64 G.c.ft,.i .i64 G.c.se,.i .i64 G.c.dr,.i .i64 G.c.dw,.i .i64 G.c.ho,.i .i64 G.c.re,.i .i64 G.c.yi,.i .i64 G.c.qu,.i .i64 G.c.qo,.i .i64 G.c.lo,.i .i64 G.c.sl,.i .i64 G.c.rt,.i .i64 G.c.cp,.i .i64 G.c.tr,.i .i64 G.c.de,.i .i64 G.c.wi,.v v1,.v (.slice A2 G.waits.length c2),.i .i64 G.now],[],false⟩],[waitsO lo A2 G.waits.length c2 (upto (disW car) G.waits k) true]⟩) (fun x=>G.waits.length - x.1) ⟨0,Nat.zero_le _⟩ (wk ?_ (by rfl) (by rfl) (by show [waitsO lo A2 _ c2 (upto (disW car) G.waits 0) true]=[waitsO lo A2 _ c2 G.waits true]; rw [upto_zero])) ?_
 ·repeat' (first | exact trivial | rfl | ((conv=>whnf); refine And.intro ?_ ?_))
 rintro ⟨k,hk⟩
 by_cases hlt:k < G.waits.length
 ·obtain rfl:=hA (by omega)
  have hlen:(upto (disW car) G.waits k).length=G.waits.length:=upto_len
  have hx:(upto (disW car) G.waits k)[k]?=some G.waits[k]:=by rw [List.getElem?_eq_getElem (by omega),upto_at hlt]
  refine sm_open ⟨tab_ok⟩ (π:=wPS lo g G.waits.length c2 k (upto (disW car) G.waits k)) 0 (fun p=>⟨g,200,true,0+k*4,p.1.1,[.i .i64 G.waits[k].fl,.i .i64 G.waits[k].wy,.i .i64 G.waits[k].ca,.i .i64 G.waits[k].si],p.1.2,true⟩) (by rfl) (by rfl) (fun w hw=>wait_open hw hx) (fun p=>rfl) (fun p=>?_)
  repeat' (first | refine gs_ ?_|((conv=>whnf); first | intro b | refine bto ?_|refine bfo ?_|refine wr_i ?_|refine b3_ (fun h=>?_) (fun h=>?_)|refine opir ⟨tab_ok⟩ 1 (by rfl) (by rfl) (by rfl) (by rfl) (by rfl) (by rfl) (by rfl) ⟨⟨by omega,by omega⟩,by show 0+k*4=_; simp⟩ ?_|refine back ⟨k+1,by omega⟩ (wk_close 1 (waitsO lo (some ⟨g,0,none⟩) G.waits.length c2 (upto (disW car) G.waits (k+1)) true) 0 ?_ (fun w' hB=>?_) (by rfl) (by rfl) (by rfl) (by rfl) (by rfl) (by rfl)) ?_|refine fin_s ?_))
  all_goals first | (show G.waits.length - (k+1) < G.waits.length - k; omega)|skip
  all_goals first
   | (show WaitsAt _ _ _ _ _ _; rw [← upto_set hlt]; refine p.2.2 _ _ ?_; unfold disW; first | (rw [if_pos (by assumption)]; exact hB)|(rw [if_neg (by assumption)]; exact hB))
   | (repeat' (first | exact trivial | rfl | ((conv=>whnf); refine And.intro ?_ ?_)))
 ·refine sm_run ⟨tab_ok⟩ ?_
  repeat' (first | refine gs_ ?_|((conv=>whnf); first | intro b | refine bto ?_|refine bfo ?_|refine wr_i ?_|refine b3_ (fun h=>?_) (fun h=>?_)|refine fin fun w' hH=>⟨rfl, ?_,hH.upd⟩|refine fin_s ?_))
  obtain rfl:k=G.waits.length:=by omega
  have:=hH.obj (waitsO lo A2 G.waits.length c2 (upto (disW car) G.waits G.waits.length) true) (List.mem_singleton.2 rfl)
  rw [upto_end] at this
  exact this
end Gr
namespace Gr
open Go.RowKit Ba Mem En Mo Go.Proofs.YtepfmfalebmcnaaGreatDoor.Ty Go.Proofs.YtepfmfalebmcnaaGreatDoor.St
open Ct (cfgA carA)
open Et (carsO)
set_option maxRecDepth 100000
attribute [local irreducible] Go.Calls
def fltY (y:Bool) (x:CarV):CarV:=if y=true then { x with br:=true,sp:=0,su:=0,sd:=0 } else { x with br:=false }
def fltW (y:Bool) (i:Int) (ws:List WaitV):List WaitV:=if y=true then ws.map (disW i) else ws
theorem fltW_len {y:Bool} {i:Int} {ws:List WaitV}:(fltW y i ws).length=ws.length:=by unfold fltW; split <;> simp
theorem fault1T (g off:Nat) (P S:List Value) (x:CarV) (cp cq cr q:Nat) (v:Int) (y:Bool) (lo:Nat) (G:GrV) (v1:Value) (A2:Option Addr) (c2:Nat) (w:World) (hb:Blk w g 124 (el P (carA x) S)) (hp:P.length=off) (hcp:Blk w cp 4 #[.bool y]) (hcq:Blk w cq 75 #[.pointer (some ⟨q,0,none⟩)]) (hcr:Blk w cr 3 #[.int .i64 v]) (hq:Blk w q 128 (grpA G v1 (.slice A2 G.waits.length c2))) (ho:WaitsAt lo A2 G.waits.length c2 G.waits w) (hl:G.waits.length≤1000000) :
  Calls Tryz.prog 151 #[.pointer (some ⟨g,off,none⟩),.pointer (some ⟨cp,0,none⟩),.pointer (some ⟨cq,0,none⟩),.pointer (some ⟨cr,0,none⟩)] w fun e w'=>e=.returned (.int .i64 0)∧Blk w' g 124 (el P (carA (fltY y x)) S)∧WaitsAt lo A2 G.waits.length c2 (fltW y v G.waits) w'∧Upd (g::blkOf A2) w w':=by
 have h0:=fun n:Nat=>Hold.addRow (m:=[]) (Hold.nil Tryz.prog tab (g::blkOf A2) n w) ⟨g,124,true,off,P,(sCar x),S,true⟩ hb (fun _=>.inl (by simp)) (by intro q hq; cases hq) (by intro A hA; cases hA) rfl hp
 have h1:=fun n:Nat=>Hold.addRow (h0 n) ⟨q,128,true,0,[],[.i .i64 G.c.ca,.i .i64 G.c.fl,.i .i64 G.c.ft,.i .i64 G.c.se,.i .i64 G.c.dr,.i .i64 G.c.dw,.i .i64 G.c.ho,.i .i64 G.c.re,.i .i64 G.c.yi,.i .i64 G.c.qu,.i .i64 G.c.qo,.i .i64 G.c.lo,.i .i64 G.c.sl,.i .i64 G.c.rt,.i .i64 G.c.cp,.i .i64 G.c.tr,.i .i64 G.c.de,.i .i64 G.c.wi,.v v1,.v (.slice A2 G.waits.length c2),.i .i64 G.now],[],false⟩ hq (by intro h; cases h) (by intro r hr _; simp only [List.nil_append,List.mem_singleton] at hr; subst hr; exact Blk.ne_ hb hq (by decide)) (by intro A hA; cases hA)
 have h2:=fun n:Nat=>Hold.addRow (h1 n) ⟨cp,4,true,0,[],[.b y],[],false⟩ hcp (by intro h; cases h) (by intro r hr _; simp only [List.nil_append,List.mem_append,List.mem_singleton] at hr; rcases hr with rfl | rfl <;> exact Blk.ne_ (by assumption) hcp (by decide)) (by intro A hA; cases hA)
 have h3:=fun n:Nat=>Hold.addRow (h2 n) ⟨cq,75,true,0,[],[.p 1 0],[],false⟩ hcq (by intro h; cases h) (by intro r hr _; simp only [List.nil_append,List.mem_append,List.mem_singleton] at hr; rcases hr with (rfl | rfl)|rfl <;> exact Blk.ne_ (by assumption) hcq (by decide)) (by intro A hA; cases hA)
 have h4:=fun n:Nat=>Hold.addRow (h3 n) ⟨cr,3,true,0,[],[.i .i64 v],[],false⟩ hcr (by intro h; cases h) (by intro r hr _; simp only [List.nil_append,List.mem_append,List.mem_singleton] at hr; rcases hr with ((rfl | rfl)|rfl)|rfl <;> exact Blk.ne_ (by assumption) hcr (by decide)) (by intro A hA; cases hA)
 have h5:=fun n:Nat=>Hold.addObj (h4 n) (waitsO lo A2 G.waits.length c2 G.waits true) ho (fun _ g hg=>.inl (List.mem_cons_of_mem _ hg)) (by intro r hr _; simp only [List.nil_append,List.mem_append,List.mem_singleton] at hr; rcases hr with (((rfl | rfl)|rfl)|rfl)|rfl <;> exact own_ne_ty ho (by assumption) (by decide)) (by intro A hA; cases hA)
 refine entH tab_ok (h5 _) [.p 0 0,.p 2 0,.p 3 0,.p 4 0] Tryz.func151 Tryz.ntmps151 rfl rfl ?_
 repeat' (first | refine gs_ ?_|((conv=>whnf); first | intro b | refine b3_ (fun h=>?_) (fun h=>?_)|refine callO (f:=152) (A:=waitsO lo A2 G.waits.length c2 G.waits true) 0 (fun _:Unit=>.t []) (fun _=>waitsO lo A2 G.waits.length c2 (G.waits.map (disW v)) true) (fun w hH hA=>(disownT lo q G v1 A2 c2 v w (hH.row 1 _ rfl rfl) hA hl).mono (by rintro e w' ⟨rfl,h1,h2⟩; exact ⟨(),rfl,h1,h2,fun _ h=>.inl h⟩)) (fun _=>?_)|refine fin fun w' hH=>⟨rfl, ?_, ?_,hH.upd⟩|refine fin_s ?_))
 all_goals first
  | (show Blk _ _ _ (el P (carA (fltY y x)) S); subst y; have:=hH.row 0 _ rfl rfl; exact this)
  | (show WaitsAt _ _ _ _ _ _; subst y; have:=hH.obj _ (List.mem_singleton.2 rfl); exact this)
  | trace_state
def pairO (A B:Asr):Asr:=⟨A.F++B.F,A.rw && B.rw,fun w=>A.st w∧B.st w,fun k h hs=>⟨A.up k (fun g hg=>h g (List.mem_append.2 (.inl hg))) hs.1,B.up k (fun g hg=>h g (List.mem_append.2 (.inr hg))) hs.2⟩,fun h g hg=>(List.mem_append.1 hg).elim (A.lt h.1 g) (B.lt h.2 g)⟩
theorem hold_pair {X:Cx} {m:List Row} {A B:Asr} {w:World} (h:Hold X m [A,B] w) (hA:A.rw=true) (hB:B.rw=true):Hold X m [pairO A B] w:=by
 have a1:A∈[A,B]:=List.mem_cons_self ..
 have b1:B∈[A,B]:=List.mem_cons_of_mem _ (List.mem_cons_self ..)
 refine ⟨h.upd,h.row,h.wf,h.ne,fun C hC=>?_,fun C hC j r hj hl hg=>?_,fun C hC _ g hg=>?_,List.pairwise_singleton _ _⟩
 ·rw [List.mem_singleton] at hC; subst hC; exact ⟨h.obj A a1,h.obj B b1⟩
 ·rw [List.mem_singleton] at hC; subst hC
  exact (List.mem_append.1 hg).elim (h.far A a1 j r hj hl) (h.far B b1 j r hj hl)
 ·rw [List.mem_singleton] at hC; subst hC
  exact (List.mem_append.1 hg).elim (h.own A a1 hA g) (h.own B b1 hB g)
def fltX (x:CarV):CarV:={ x with br:=true,sp:=0,su:=0,sd:=0 }
def faultR (G:GrV) (i:Int) (y:Bool):GrV×Int :=
 if y=true then (if 0≤i∧i.toNat < G.cars.length then ({ (one G i (fun x=>(fltX x,0))).1 with waits:=G.waits.map (disW i) },0) else (G,1)) else one G i (fun x=>({ x with br:=false },0))
theorem fault_in {G:GrV} {k:Nat} {y:Bool} (hk:k < G.cars.length):faultR G (k:Int) y=({ G.car k (fltY y G.cars[k]) with waits:=fltW y k G.waits },0):=by
 unfold faultR
 cases y
 ·rw [if_neg (by decide),one_in hk]; rfl
 ·rw [if_pos rfl,if_pos ⟨by omega,by simpa using hk⟩,one_in hk]; rfl
theorem fault_out {G:GrV} {i:Int} {y:Bool} (h:i < 0∨(G.cars.length:Int)≤i):faultR G i y=(G,1):=by
 unfold faultR
 cases y
 ·rw [if_neg (by decide),one_out h]
 ·rw [if_pos rfl,if_neg (by omega)]
theorem faultG {lo q:Nat} {G:GrV} {S:List Nat} {w:World} (hg:GO lo q G S w) (hl:G.waits.length≤1000000) (i:Int) (y:Bool):Calls Tryz.prog 106 #[.pointer (some ⟨q,0,none⟩),.int .i64 i,.bool y] w fun e w'=>e=.returned (.int .i64 (faultR G i y).2)∧∃ S',GO lo q (faultR G i y).1 S' w'∧Upd S w w'∧∀ g∈S',g∈S∨w.heap.size≤g:=by
 obtain ⟨A1,c1,A2,c2,h0,hS,hH⟩:=hold_go (n:=_) hg
 by_cases hi:i < 0∨(G.cars.length:Int)≤i
 ·rw [fault_out hi]
  refine entH tab_ok (hH) [.p 0 0,.i .i64 i,.b y] Tryz.func106 Tryz.ntmps106 rfl rfl ?_
  repeat' (first | refine gs_ ?_|((conv=>whnf); first | intro b | refine b3_ (fun h=>?_) (fun h=>?_)|refine callH (f:=146) (.i .i64 1) (fun w hH=>change0 q G A1 _ c1 _ i _ w (hH.row 0 _ rfl rfl) hi) ?_|refine fin_go (by rfl) (by intro m; rfl) h0 hS (by rfl) (by rfl) (by rfl) (by rfl) (by intro m; rfl)|refine fin_s ?_))
 ·obtain ⟨k,rfl⟩:∃ k:Nat,i=(k:Int):=⟨i.toNat,by omega⟩
  have hk:k < G.cars.length:=by omega
  rw [fault_in hk]
  obtain ⟨g,rfl⟩:=own_addr (hH.obj (carsO lo A1 _ c1 _ true) (List.mem_cons_self ..)) (by omega)
  have hgA:g∉blkOf A2:=by
   intro h
   have d:=(List.pairwise_cons.1 hH.dis).1 (waitsO lo A2 G.waits.length c2 G.waits true) (List.mem_singleton.2 rfl) (.inl rfl) g (by simp [carsO,blkOf])
   exact d h
  refine entH tab_ok (hold_pair hH rfl rfl) [.p 0 0,.i .i64 (k:Int),.b y] Tryz.func106 Tryz.ntmps106 rfl rfl ?_
  repeat' (first | refine gs_ ?_|((conv=>whnf); first | intro b | refine b3_ (fun h=>?_) (fun h=>?_)|refine callO (f:=146) 0 (A:=pairO (carsO lo (some ⟨g,0,none⟩) G.cars.length c1 G.cars true) (waitsO lo A2 G.waits.length c2 G.waits true)) (fun _:Unit=>.i .i64 0) (fun _=>pairO (carsO lo (some ⟨g,0,none⟩) G.cars.length c1 (G.cars.set k (fltY y G.cars[k])) true) (waitsO lo A2 G.waits.length c2 (fltW y k G.waits) true)) (fun w hH hA=>?_) (fun _=>?_)|refine fin_s ?_))
  ·have ob1:pairO (carsO lo (some ⟨g,0,none⟩) G.cars.length c1 G.cars true) (waitsO lo A2 G.waits.length c2 G.waits true)∈[pairO (carsO lo (some ⟨g,0,none⟩) G.cars.length c1 G.cars true) (waitsO lo A2 G.waits.length c2 G.waits true)]:=List.mem_singleton.2 rfl
   refine (change3 q g G _ c1 _ _ k _ _ _ _ 0 (pairO (carsO lo (some ⟨g,0,none⟩) G.cars.length c1 G.cars true) (waitsO lo A2 G.waits.length c2 G.waits true)) (pairO (carsO lo (some ⟨g,0,none⟩) G.cars.length c1 (G.cars.set k (fltY y G.cars[k])) true) (waitsO lo A2 G.waits.length c2 (fltW y k G.waits) true)) w (hH.row 0 _ rfl rfl) hA (hH.far _ ob1 0 _ rfl rfl) rfl hk rfl rfl (entC (by kernel_rfl)) (fun w1 hu hO=>?_)).mono (fun e w' h=>⟨(),h⟩)
   obtain ⟨P,S1,hP,hB,hback⟩:=own_el carL_len hO.1 hk
   refine (fault1T g _ P S1 G.cars[k] _ _ _ q k y lo G _ A2 c2 w1 hB hP (hu.blk (hH.row 3 _ rfl rfl) (hH.far _ ob1 3 _ rfl rfl)) (hu.blk (hH.row 1 _ rfl rfl) (hH.far _ ob1 1 _ rfl rfl)) (hu.blk (hH.row 2 _ rfl rfl) (hH.far _ ob1 2 _ rfl rfl)) (hu.blk (hH.row 0 _ rfl rfl) (hH.far _ ob1 0 _ rfl rfl)) hO.2 hl).mono ?_
   rintro e w' ⟨rfl,h1,h2,h3⟩
   exact ⟨rfl,⟨hback _ w' h1,h2⟩,h3,fun _ h=>.inl h⟩
  ·conv=>whnf
   refine fin fun w' hH=>?_
   have ob:=hH.obj _ (List.mem_singleton.2 rfl)
   have rw0:=hH.row 0 _ rfl rfl
   refine ⟨rfl,S,⟨h0,some ⟨g,0,none⟩,c1,A2,c2,hS, ?_, ?_, ?_⟩,hH.upd,fun _ h=>.inl h⟩
   ·have e1:(G.cars.set k (fltY y G.cars[k])).length=G.cars.length:=List.length_set
    show Blk w' q _ (grpA _ (.slice _ (G.cars.set k (fltY y G.cars[k])).length c1) (.slice A2 (fltW y k G.waits).length c2))
    rw [e1,fltW_len]; exact rw0
   ·have:=ob.1
    simpa [CarsAt,carsO,pairO,GrV.car,List.length_set] using this
   ·have:=ob.2
    show WaitsAt lo A2 (fltW y k G.waits).length c2 (fltW y k G.waits) w'
    rw [fltW_len]; exact this
end Gr
namespace En
open Go.RowKit Ba Mem
open Gr (pairO)
section
variable {X:Cx} {m:List Row} {ob:List Asr} {w w':World} {s:St}
theorem sm_hold {c:Code} {K:Exit→St→Prop} (m':List Row) (ob':List Asr) (hm:m'=s.m) (h:∀ w,Hold X s.m s.ob w→Hold X m' ob' w) (k:Sm X c ⟨s.fr,m',ob'⟩ K):Sm X c s K:=⟨fun a w hR=>by
 subst hm
 exact k.out a w ⟨hR.ds,hR.sz,hR.fr,h w hR.h⟩⟩
theorem Hold.unpair {A B:Asr} {post:List Asr} (h:Hold X m (pairO A B::post) w) (hA:A.rw=true) (hB:B.rw=true) (hd:A.st w→B.st w→∀ g∈A.F,g∉B.F):Hold X m (A::B::post) w:=by
 have ho:=h.obj (pairO A B) (List.mem_cons_self ..)
 have hp:=List.pairwise_cons.1 h.dis
 have hrw:(pairO A B).rw=true:=by show (A.rw && B.rw)=true; rw [hA,hB]; rfl
 have d0:=hd ho.1 ho.2
 refine ⟨h.upd,h.row,h.wf,h.ne,fun C hC=>?_,fun C hC j r hj hl hg=>?_,fun C hC hr g hg=>?_, ?_⟩
 ·rcases List.mem_cons.1 hC with rfl | hC
  ·exact ho.1
  rcases List.mem_cons.1 hC with rfl | hC
  ·exact ho.2
  ·exact h.obj C (List.mem_cons_of_mem _ hC)
 ·rcases List.mem_cons.1 hC with rfl | hC
  ·exact h.far _ (List.mem_cons_self ..) j r hj hl (List.mem_append.2 (.inl hg))
  rcases List.mem_cons.1 hC with rfl | hC
  ·exact h.far _ (List.mem_cons_self ..) j r hj hl (List.mem_append.2 (.inr hg))
  ·exact h.far C (List.mem_cons_of_mem _ hC) j r hj hl hg
 ·rcases List.mem_cons.1 hC with rfl | hC
  ·exact h.own _ (List.mem_cons_self ..) hrw g (List.mem_append.2 (.inl hg))
  rcases List.mem_cons.1 hC with rfl | hC
  ·exact h.own _ (List.mem_cons_self ..) hrw g (List.mem_append.2 (.inr hg))
  ·exact h.own C (List.mem_cons_of_mem _ hC) hr g hg
 ·rw [List.pairwise_cons,List.pairwise_cons]
  refine ⟨fun C hC=>?_,fun C hC=>fun _ g hg=>hp.1 C hC (.inl hrw) g (List.mem_append.2 (.inr hg)),hp.2⟩
  rcases List.mem_cons.1 hC with rfl | hC
  ·exact fun _=>d0
  ·exact fun _ g hg=>hp.1 C hC (.inl hrw) g (List.mem_append.2 (.inl hg))
theorem callON {ι:Type} {f:FuncId} {vs:List SV} {K:SV→St→Prop} (i:Nat) {A:Asr} (v:ι→SV) (B C:ι→Asr)
  (hc:∀ w,Hold X s.m s.ob w→A.st w→Calls X.P f (denL s.m vs).toArray w fun e w'=>∃ x,e=.returned (den s.m (v x))∧(B x).st w'∧(C x).st w'∧Upd A.F w w'∧(∀ g∈(B x).F,g∈A.F∨w.heap.size≤g)∧∀ g∈(C x).F,w.heap.size≤g∧g∉(B x).F)
  (h:∀ x,setO i (B x) s.ob fun ob=>appO ob (C x) fun ob=>K (v x) ⟨s.fr,s.m,ob⟩) (hA:s.ob[i]?=some A:=by rfl) (hrw:A.rw=true:=by rfl)
  (he:entChk X.P f=true:=by kernel_rfl) (hv:∀ x,okV s.m.length (v x)=true:=by intro x; rfl):CallVC X f vs s K:=by
 refine ⟨entC he,fun w hH=>(hc w hH (hH.obj A (List.mem_of_getElem? hA))).mono ?_⟩
 rintro e w' ⟨x,rfl,h1,h2,h3,h4,h5⟩
 refine ⟨v x,s.m,s.ob.set i (B x)++[C x],rfl,hv x,Ext.refl _, ?_,appO_of (setO_of (h x))⟩
 refine Hold.addObj (hH.obj_set hA hrw h1 h3 h4) (C x) h2 (fun _ g hg=>.inr (Nat.le_trans hH.upd.size (h5 g hg).1)) (fun r hr hl hg=>?_) (fun D hD _ g hg hgC=>?_)
 ·obtain ⟨j,hj⟩:=List.mem_iff_getElem?.1 hr
  have:=(hH.row j r hj hl).lt; have:=(h5 _ hg).1; omega
 ·rcases mem_set_or hD with rfl | ⟨j,hne,hD⟩
  ·exact (h5 g hgC).2 hg
  ·have:=D.lt (hH.obj D (List.mem_of_getElem? hD)) g hg; have:=(h5 g hgC).1; omega
theorem opao (i k:Nat) {A E:Asr} {o:Oper} {K:St→Prop} {xs ys:Operand} {t e:TypeId} {lo size n c0 m c n2 bytes:Nat} {A0 A1:Option Addr} {z:Value} {vals cells zs:List Value} (B:Option Addr→Nat→Asr)
  (ho:o.op=.call { callee:=.builtin .append,args:=#[xs,ys],argTypes:=#[t,t] }) (hxs:evO xs s.fr=some (.v (.slice A0 n c0))) (hys:evO ys s.fr=some (.v (.slice A1 m c)))
  (hA:s.ob[i]?=some A) (hE:s.ob[k]?=some E) (hrw:A.rw=true) (hF:A.F=blkOf A0) (hst:∀ w,A.st w→w.ownsRow lo e size (.slice A0 n c0) n vals) (hB:∀ A' c' w,w.ownsRow lo e size (.slice A' n2 c') n2 zs→(B A' c').st w) (hBF:∀ A' c',(B A' c').F=blkOf A')
  (hr:∀ w,E.st w→Reads w w.heap.size size A1 m cells)
  (ht:X.P.underlying t=some (.slice e)) (hinf:(X.P.info? e).map (fun i=>(i.zero,i.size,i.bytes))=some (some z,size,bytes)) (hzs:z.cells.size=size) (hsz:0 < size) (hby:bytes≤1000) (h1:∀ u∈cells,u.oneCell'=true)
  (hnm:n+m≤1000000) (hbase:∀ w,Hold X s.m s.ob w→lo≤w.heap.size) (hn2:n+m=n2) (hzs2:vals++cells=zs)
  (h:∀ A' c',setO i (B A' c') s.ob fun ob=>put X.n o.dst (.v (.slice A' n2 c')) ⟨s.fr,s.m,ob⟩ K):OpVC X o s K:=⟨fun a w Q hR=>by
 refine wp_append_row xs ys t ho lo e z size bytes ht hinf hzs hsz hby A0 n c0 vals (by rw [(evO_of hR.fr hxs).2]; rfl) (hst w (hR.h.obj A (List.mem_of_getElem? hA))) _ A1 m c cells (by rw [(evO_of hR.fr hys).2]; rfl) (hr w (hR.h.obj E (List.mem_of_getElem? hE))) h1 hnm (hbase w hR.h) n2 zs hn2 hzs2 ?_
 intro A' c' w' hown hupd hfar
 have hH:=hR.h.obj_set hA hrw (hB A' c' w' hown) (by rw [hF]; exact hupd) (by rw [hF,hBF]; exact hfar)
 obtain ⟨s',r1,r2,r3,r4⟩:=put_of (a:=a) (s:=⟨s.fr,s.m,s.ob.set i (B A' c')⟩) (v:=.v (.slice A' n2 c')) hR.ds hR.sz hR.fr hH rfl (setO_of (h A' c'))
 exact ⟨s',r1,by rw [r2]; exact Ext.refl _,r4⟩⟩
theorem opxc {o:Oper} {K:St→Prop} {t:TypeId} {x:Operand} {g off:Nat} {ad:Addr} (v:SV) (hr:∀ w,Hold X s.m s.ob w→w.rangeAt g off [den s.m v]) (hX:X.Ok) (ho:o.op=.load t x) (hx:evO x s.fr=some (.v (.pointer (some ad)))) (had:ad=⟨g,off,none⟩) (h:put X.n o.dst v s K)
  (hn:(match tyO t X.tab with | some y=>!y.row | none=>false)=true:=by rfl) (hv:okV s.m.length v=true:=by rfl):OpVC X o s K:=by
 subst had
 refine opq v (fun a w hf hH=>?_) h hv
 cases hy:tyO t X.tab with
 | none=>simp [hy] at hn
 | some y =>
  simp only [hy,Bool.not_eq_true'] at hn
  obtain ⟨d,i,T⟩:=(hX.tab _ _ hy).out
  have he:=(evO_of hf hx).2
  have hc:w.cell? ⟨g,off,none⟩=some (den s.m v):=hr w hH 0 _ rfl
  have hrow:=T.row
  rw [hn] at hrow
  have hagg:(isAgg t).run X.P w=.ok false w:=by
   unfold isAgg
   rw [Sem.run_bind,run_underlying T.un w]
   cases d <;> simp_all [TypeDesc.isRow]
  unfold execOp
  simp only [ho,he,den,Instr.loadAt,Instr.sureAddr,Sem.run_bind,Sem.run_pure,Result.andThen_ok]
  simp [loadVar,Sem.run_bind,hagg,hc]
end
structure Ek (α:Type) where
 t:TypeId
 k:Nat
 c:α→List Value
 len:∀ a,(c a).length=k
 one:∀ a,∀ u∈c a,u.oneCell'=true
def Ek.At {α:Type} (E:Ek α) (lo:Nat) (A:Option Addr) (n c:Nat) (ls:List α) (w:World):Prop:=w.ownsRow lo E.t E.k (.slice A n c) n (rowsOf E.c ls)
def rwO {α:Type} (E:Ek α) (lo:Nat) (A:Option Addr) (n c:Nat) (ls:List α) (rw:Bool):Asr:=⟨blkOf A,rw,E.At lo A n c ls,fun k h hs=>k.own hs h,fun h=>own_lt h⟩
section
variable {α:Type} {E:Ek α} {lo g n c k:Nat} {A:Option Addr} {ls:List α} {w:World} {x:α}
theorem Ek.addr (h:E.At lo A n c ls w):∃ g,0 < n→A=some ⟨g,0,none⟩:=by
 rcases own_at h with ⟨_,h0,_⟩ | ⟨g,_,h1,_⟩
 ·exact ⟨0,fun k=>by omega⟩
 ·exact ⟨g,fun _=>h1⟩
theorem Ek.rng (h:E.At lo (some ⟨g,0,none⟩) n c ls w) (hx:ls[k]?=some x):w.rangeAt g (0+k*E.k) (E.c x):=by
 obtain ⟨hi,rfl⟩:=List.getElem?_eq_some_iff.1 hx
 obtain ⟨P,S,hP,hB,_⟩:=own_el E.len h hi
 have:=el_part (P:=P) (S:=S) (cs:=(E.c ls[k]).toArray) (j:=0) (n:=E.k) (l:=E.c ls[k]) hP (by show List.take E.k (E.c ls[k])=_; rw [List.take_of_length_le (by rw [E.len]; exact Nat.le_refl _)]) (by simp [E.len])
 exact range_of hB this (E.len _)
theorem Ek.nil (E:Ek α) (lo:Nat) (w:World):E.At lo none 0 0 [] w:=World.ownsRow_nil _ _ _ _
theorem Ek.lows (h:E.At lo A n c ls w):∀ g∈blkOf A,lo≤g:=own_low h
theorem Ek.base {lo':Nat} (h:E.At lo A n c ls w) (hb:lo'≤lo):E.At lo' A n c ls w:=own_base h hb
theorem Ek.reads (h:E.At lo A n c ls w):Reads w w.heap.size E.k A n (rowsOf E.c ls):=own_reads h
end
theorem opst {α:Type} {s:St} {X:Cx} (hX:X.Ok) (i kk:Nat) (E:Ek α) (v:α) (vs:List SV) {lo g n c:Nat} {ls:List α} {o:Oper} {K:St→Prop} {ty:TypeId} {x y:Operand} {ad:Addr} (ho:o.op=.store ty x y) (hx:evO x s.fr=some (.v (.pointer (some ad)))) (had:ad=⟨g,kk*E.k,none⟩) (hy:evO y s.fr=some (.a vs)) (hvs:denL s.m vs=E.c v) (hA:s.ob[i]?=some (rwO E lo (some ⟨g,0,none⟩) n c ls true)) (hi:kk < ls.length)
  (hk0:0 < E.k) (hn:(match tyO ty X.tab with | some z=>Nat.beq z.size E.k | none=>false)=true) (h:setO i (rwO E lo (some ⟨g,0,none⟩) n c (ls.set kk v) true) s.ob fun ob=>put X.n o.dst (.v undef) ⟨s.fr,s.m,ob⟩ K):OpVC X o s K:=⟨fun a w Q hR=>by
 subst had
 cases hz:tyO ty X.tab with
 | none=>simp [hz] at hn
 | some z =>
  simp only [hz] at hn
  obtain ⟨d,inf,T⟩:=(hX.tab _ _ hz).out
  have hst:=hR.h.obj _ (List.mem_of_getElem? hA)
  refine wp_set_row ty x y ho E.len hk0 E.one (show w.ownsRow lo E.t E.k (.slice (some ⟨g,0,none⟩) n c) n (rowsOf E.c ls) from hst) hi v (by rw [(evO_of hR.fr hx).2]; rfl) (by rw [(evO_of hR.fr hy).2]; simp only [den,hvs]) (by rw [T.inf]; simp [T.size,Nat.eq_of_beq_eq_true hn]) (fun w' hown hu=>?_)
  have hH:=hR.h.obj_set (B:=rwO E lo (some ⟨g,0,none⟩) n c (ls.set kk v) true) hA rfl hown (by simpa [rwO,blkOf] using hu) (fun g hg=>.inl hg)
  obtain ⟨s',r1,r2,r3,r4⟩:=put_of (a:=a) (s:=⟨s.fr,s.m,s.ob.set i (rwO E lo (some ⟨g,0,none⟩) n c (ls.set kk v) true)⟩) (v:=.v undef) hR.ds hR.sz hR.fr hH rfl (setO_of h)
  exact ⟨s',r1,by rw [r2]; exact Ext.refl _,r4⟩⟩
end En
namespace En
open Go.RowKit Ba Mem
section
variable {X:Cx} {m:List Row} {ob:List Asr} {w w':World} {s:St}
theorem callRO {ι:Type} {f:FuncId} {vs:List SV} {K:SV→St→Prop} (j i:Nat) {r:Row} {A:Asr} (v:ι→SV) (cs:ι→List SV) (B:ι→Asr)
  (hc:∀ w,Hold X s.m s.ob w→Blk w r.g r.t (denL s.m r.cs).toArray→A.st w→r.g∉A.F→Calls X.P f (denL s.m vs).toArray w fun e w'=>∃ x,e=.returned (den s.m (v x))∧Blk w' r.g r.t (denL s.m (cs x)).toArray∧(B x).st w'∧Upd (r.g::A.F) w w'∧∀ g∈(B x).F,g∈A.F∨w.heap.size≤g)
  (h:∀ x,setR j (fun r K=>K ⟨r.g,r.t,r.live,r.off,r.pre,cs x,r.suf,r.rw⟩) s.m fun m=>setO i (B x) s.ob fun ob=>K (v x) ⟨s.fr,m,ob⟩)
  (hr:s.m[j]?=some r:=by rfl) (hl:(r.live && r.rw && r.pre.isEmpty && r.suf.isEmpty)=true:=by rfl) (hA:s.ob[i]?=some A:=by rfl) (hrw:A.rw=true:=by rfl)
  (he:entChk X.P f=true:=by kernel_rfl) (hv:∀ x,(okV s.m.length (v x) && okL s.m.length (cs x))=true:=by intro x; rfl):CallVC X f vs s K:=by
 simp only [Bool.and_eq_true,List.isEmpty_iff] at hl
 obtain ⟨⟨⟨h1,hrw1⟩,h2⟩,h3⟩:=hl
 have hmem:=List.mem_of_getElem? hA
 refine ⟨entC he,fun w hH=>(hc w hH (by have:=hH.row j r hr h1; rwa [rowA_nil h2 h3] at this) (hH.obj A hmem) (hH.far A hmem j r hr h1)).mono ?_⟩
 rintro e w' ⟨x,rfl,hb,hB,hu,hF⟩
 have hvx:=hv x
 simp only [Bool.and_eq_true] at hvx
 obtain ⟨r',hr',hx⟩:=setR_of (h x)
 rw [hr] at hr'; cases hr'
 have hE:=Ext.set hr (cs x)
 obtain ⟨w1,w2,w3⟩:=hH.wf j r hr h1
 have hrA:=hH.far A hmem j r hr h1
 have hdis:∀ (k:Nat) (C:Asr),s.ob[k]?=some C→k≠i→∀ g∈C.F,g∉A.F:=fun k C hC hne=>pair_at (R:=DisR) (fun _ _ h=>h.symm) hH.dis hC hA hne (.inr hrw)
 have hBr:r.g∉(B x).F:=fun hg=>by
  rcases hF _ hg with h | h
  ·exact hrA h
  ·have:=(hH.row j r hr h1).lt; omega
 refine ⟨v x,_,_,by rw [den_ext hE _ hvx.1],by rw [List.length_set]; exact hvx.1,hE, ?_,setO_of hx⟩
 refine ⟨hH.upd.comp hu (fun g hg=>?_),fun k q hk hq=>?_,fun k q hk hq=>?_,fun a b q q' ha hb' hq hq' hne=>?_,fun C hC=>?_,fun C hC k q hk hq=>?_,fun C hC hr' g hg=>?_,pair_of fun a b C D hne hC hD=>?_⟩
 ·rcases List.mem_cons.1 hg with rfl | hg
  ·exact w3 hrw1
  ·exact hH.own A hmem hrw g hg
 ·rcases getElem?_set_or hk with ⟨rfl,rfl⟩ | ⟨hne,hk⟩
  ·rw [rowA_ext hE hvx.2,rowA_nil (r:=⟨r.g,r.t,r.live,r.off,r.pre,cs x,r.suf,r.rw⟩) h2 h3]; exact hb
  ·rw [rowA_ext hE (hH.wf k q hk hq).1]
   refine hu.blk (hH.row k q hk hq) (fun hm=>?_)
   rcases List.mem_cons.1 hm with hm | hm
   ·exact hH.ne k j q r hk hr hq h1 (Ne.symm hne) hm
   ·exact hH.far A hmem k q hk hq hm
 ·rw [List.length_set]
  rcases getElem?_set_or hk with ⟨rfl,rfl⟩ | ⟨hne,hk⟩
  ·exact ⟨hvx.2,w2,w3⟩
  ·exact hH.wf k q hk hq
 ·rcases getElem?_set_or ha with ⟨rfl,rfl⟩ | ⟨hn1,ha⟩ <;> rcases getElem?_set_or hb' with ⟨rfl,rfl⟩ | ⟨hn2,hb'⟩
  ·exact absurd rfl hne
  ·exact hH.ne j b r q' hr hb' h1 hq' hne
  ·exact hH.ne a j q r ha hr hq h1 hne
  ·exact hH.ne a b q q' ha hb' hq hq' hne
 ·rcases mem_set_or hC with rfl | ⟨k,hne,hC⟩
  ·exact hB
  ·refine C.up hu (fun g hg hgT=>?_) (hH.obj C (List.mem_of_getElem? hC))
   rcases List.mem_cons.1 hgT with rfl | hgT
   ·exact hH.far C (List.mem_of_getElem? hC) j r hr h1 hg
   ·exact hdis k C hC hne g hg hgT
 ·have key:∀ (k:Nat) (q:Row),s.m[k]?=some q→q.live=true→q.g∉C.F:=fun k q hk hq=>by
   rcases mem_set_or hC with rfl | ⟨k',hne,hC⟩
   ·intro hg
    rcases hF _ hg with h | h
    ·exact hH.far A hmem k q hk hq h
    ·have:=(hH.row k q hk hq).lt; omega
   ·exact hH.far C (List.mem_of_getElem? hC) k q hk hq
  rcases getElem?_set_or hk with ⟨rfl,rfl⟩ | ⟨hne,hk⟩
  ·exact key j r hr h1
  ·exact key k q hk hq
 ·rcases mem_set_or hC with rfl | ⟨k,hne,hC⟩
  ·rcases hF _ hg with h | h
   ·exact hH.own A hmem hrw g h
   ·exact .inr (Nat.le_trans hH.upd.size h)
  ·exact hH.own C (List.mem_of_getElem? hC) hr' g hg
 ·have far:∀ (k:Nat) (C:Asr),s.ob[k]?=some C→k≠i→∀ g∈C.F,g∉(B x).F:=fun k C hC hne g hg hgB=>by
   rcases hF g hgB with h | h
   ·exact hdis k C hC hne g hg h
   ·have:=C.lt (hH.obj C (List.mem_of_getElem? hC)) g hg; omega
  rcases getElem?_set_or hC with ⟨rfl,rfl⟩ | ⟨n1,hC2⟩ <;> rcases getElem?_set_or hD with ⟨rfl,rfl⟩ | ⟨n2,hD2⟩
  ·exact absurd rfl hne
  ·exact fun _ g hg hgD=>far b D hD2 (Ne.symm n2) g hgD hg
  ·exact fun _=>far a C hC2 (Ne.symm n1)
  ·exact pair_at (R:=DisR) (fun _ _ h=>h.symm) hH.dis hC2 hD2 hne
end
end En
namespace Qu
open Go.RowKit Ba Mem Go.Proofs.YtepfmfalebmcnaaGreatDoor.Ty
def btw (n lo hi:Int):Int:=if n < lo then lo else if hi < n then hi else n
def askC (a:AskV):List Value:=[.int .i64 a.se,.int .i64 a.fl,.int .i64 a.fm,.int .i64 a.to,.int .i64 a.ma]
theorem askC_len (a:AskV):(askC a).length=5:=rfl
theorem askC_one (a:AskV):∀ u∈askC a,u.oneCell'=true:=by
 intro u hu
 simp only [askC,List.mem_cons,List.not_mem_nil,or_false] at hu
 rcases hu with rfl | rfl | rfl | rfl | rfl <;> rfl
theorem asks_one (ls:List AskV):∀ u∈rowsOf askC ls,u.oneCell'=true:=rowsOf_one' askC_one ls
def QO (lo q:Nat) (room:Int) (ls:List AskV) (S:List Nat) (w:World):Prop :=
 lo≤q∧∃ A c,S=q::blkOf A∧Blk w q 142 #[.int .i64 room,.slice A ls.length c]∧w.ownsRow lo 69 5 (.slice A ls.length c) ls.length (rowsOf askC ls)
section
variable {w w':World} {lo q b:Nat} {room:Int} {ls:List AskV} {S T:List Nat}
theorem QO.upd (k:Upd T w w') (h:QO lo q room ls S w) (hT:∀ g∈S,g∉T):QO lo q room ls S w':=by
 obtain ⟨h0,A,c,rfl,B,O⟩:=h
 exact ⟨h0,A,c,rfl,k.blk B (hT _ (by simp)),k.own O (fun g hg=>hT g (by simp [hg]))⟩
theorem QO.low (h:QO lo q room ls S w):∀ g∈S,lo≤g:=by
 obtain ⟨h0,A,c,rfl,B,O⟩:=h
 intro g hg
 rcases List.mem_cons.1 hg with rfl | hg
 ·exact h0
 ·exact own_low O g hg
theorem QO.lt (h:QO lo q room ls S w):∀ g∈S,g < w.heap.size:=by
 obtain ⟨h0,A,c,rfl,B,O⟩:=h
 intro g hg
 rcases List.mem_cons.1 hg with rfl | hg
 ·exact B.lt
 ·exact own_lt O g hg
theorem QO.far (h:QO lo q room ls S w) (hb:w.heap.size≤b):b∉S:=fun hm=>by have:=h.lt b hm; omega
end
def isS (s:Int) (a:AskV):Bool:=a.se == s
def atS (ls:List AskV) (s:Int):Option Nat:=ls.findIdx? (isS s)
theorem atS_some {ls:List AskV} {s:Int} {k:Nat} (h:atS ls s=some k):k < ls.length∧(∀ hk:k < ls.length,(ls[k]).se=s)∧∀ j,j < k→∀ hj:j < ls.length,(ls[j]).se≠s:=by
 obtain ⟨hk,h1,h2⟩:=List.findIdx?_eq_some_iff_getElem.1 h
 refine ⟨hk,fun _=>by simpa [isS] using h1,fun j hj _=>?_⟩
 have:=h2 j hj
 simpa [isS] using this
def putE (room:Int) (ls:List AskV) (a:AskV):Int:=if (atS ls a.se).isSome then 7 else if room≤(ls.length:Int) then 5 else 0
def putL (room:Int) (ls:List AskV) (a:AskV):List AskV:=if putE room ls a=0 then ls++[a] else ls
def dropL (ls:List AskV) (s:Int):List AskV:=match atS ls s with | some k=>ls.eraseIdx k | none=>ls
end Qu
namespace Qu
open Go.RowKit Ba Mem Go.Proofs.YtepfmfalebmcnaaGreatDoor.Ty
section
variable {w w':World} {a:Option Addr} {n:Nat} {zs:List Int}
end
def atI (zs:List Int) (v:Int):Option Nat:=zs.findIdx? (fun z=>z == v)
def okF (zs:List Int) (a:AskV):Bool:=!(atI zs a.fl).isSome
def atF (ls:List AskV) (zs:List Int):Option Nat:=ls.findIdx? (okF zs)
theorem atF_some {ls:List AskV} {zs:List Int} {k:Nat} (h:atF ls zs=some k):k < ls.length∧(∀ hk:k < ls.length,(atI zs (ls[k]).fl).isSome=false)∧∀ j,j < k→∀ hj:j < ls.length,(atI zs (ls[j]).fl).isSome=true:=by
 obtain ⟨hk,h1,h2⟩:=List.findIdx?_eq_some_iff_getElem.1 h
 refine ⟨hk,fun _=>by simpa [okF] using h1,fun j hj _=>?_⟩
 have:=h2 j hj
 unfold okF at this
 revert this
 cases (atI zs (ls[j]).fl).isSome <;> simp
end Qu
namespace Qu
open Go.RowKit Ba Mem Go.Proofs.YtepfmfalebmcnaaGreatDoor.Ty
set_option maxRecDepth 100000
attribute [local irreducible] Go.wpList
def leaC (a:LeaseV):List Value:=[.int .i64 a.se,.int .i64 a.fl,.int .i64 a.fm,.int .i64 a.to,.int .i64 a.ma,.int .i64 a.ca,.int .i64 a.ph,.int .i64 a.un,.int .i64 a.re,.int .i64 a.gr]
theorem leaC_len (a:LeaseV):(leaC a).length=10:=rfl
theorem leaC_one (a:LeaseV):∀ u∈leaC a,u.oneCell'=true:=by
 intro u hu
 simp only [leaC,List.mem_cons,List.not_mem_nil,or_false] at hu
 rcases hu with rfl | rfl | rfl | rfl | rfl | rfl | rfl | rfl | rfl | rfl <;> rfl
theorem leas_one (ls:List LeaseV):∀ u∈rowsOf leaC ls,u.oneCell'=true:=rowsOf_one' leaC_one ls
namespace CA
set_option maxHeartbeats 4000000 in
theorem deleteT (lo g m c i:Nat) (ls:List AskV) (w:World) (hO:w.ownsRow lo 69 5 (.slice (some ⟨g,0,none⟩) (m+1) c) (m+1) (rowsOf askC ls)) (hl:ls.length=m+1) (hi:i≤m) (hc:m+1≤c) (hm:m+1≤1000000):Calls Tryz.prog 238 #[.slice (some ⟨g,0,none⟩) (m+1) c,.int .i64 (i:Int),.int .i64 ((i:Int)+1)] w fun e w'=>e=.returned (.slice (some ⟨g,0,none⟩) m c)∧w'.ownsRow lo 69 5 (.slice (some ⟨g,0,none⟩) m c) m (rowsOf askC (ls.eraseIdx i))∧Upd [g] w w':=by
 have HOW:=Lib.hid hO
 clear hO
 have HL:=Lib.hid hl
 clear hl
 have HI:=Lib.hid hi
 clear hi
 have HC:=Lib.hid hc
 clear hc
 have HM:=Lib.hid hm
 clear hm
 go_enter Tryz.func238,Tryz.ntmps238
 go_upto_region 1 with fail
 have HS1:=Lib.hid (Upd.refl [g] w)
 refine wp_region_lit ?_
 refine tkL (.slice (some ⟨g,0,none⟩) (m+1) c) (h:=?_)
 try simp only[Act.put,sA,sB,sC]
 refine tkL (.int .i64 (i:Int)) (h:=?_)
 try simp only[Act.put,sA,sB,sC]
 refine tkL (.int .i64 ((i:Int)+1)) (h:=?_)
 try simp only[Act.put,sA,sB,sC]
 refine tkL (.slice (some ⟨g,0,none⟩) (m+1) c) (h:=?_)
 try simp only[Act.put,sA,sB,sC]
 refine tkL (.int .i64 ((m+1:Nat):Int)) (h:=?_)
 try simp only[Act.put,sA,sB,sC]
 refine wpList_q (by rfl) (.slice (cutA (m+1) i (some ⟨g,0,none⟩:Option Addr) 5) (i+1 - i) (m+1 - i)) ?he ?_
 case he=>exact exec_slice (s:=5) 51 69 _ _ _ _ rfl rfl Tryz.underlying51 (by kernel_rfl) (sb_lhm _ _ _ _ (l:=i) (h:=i+1) (m:=m+1) rfl (by push_cast; rfl) rfl (by omega) (by have q0:=HI.out; omega) HC.out) (by rfl) rfl rfl
 try simp only[Act.put,sA,sB,sC]
 refine wpList_nil ?_
 go_upto_region 2 with fail
 refine wp_region_lit ?_
 refine tkL (.int .i64 (i:Int)) (h:=?_)
 try simp only[Act.put,sA,sB,sC]
 refine tkL (.int .i64 ((i:Int)+1)) (h:=?_)
 try simp only[Act.put,sA,sB,sC]
 refine wpList_q (by rfl) (.bool false) ?he ?_
 case he=>(go_simp; (first | done | rfl | omega))
 try simp only[Act.put,sA,sB,sC]
 refine wpList_nil ?_
 go_upto_region 4 with fail
 refine wp_region_lit ?_
 refine tkL (.slice (some ⟨g,0,none⟩) (m+1) c) (h:=?_)
 try simp only[Act.put,sA,sB,sC]
 refine tkL (.int .i64 ((m+1:Nat):Int)) (h:=?_)
 try simp only[Act.put,sA,sB,sC]
 refine tkL (.int .i64 ((m+1:Nat):Int)) (h:=?_)
 try simp only[Act.put,sA,sB,sC]
 refine wpList_nil ?_
 go_upto_region 5 with fail
 have HKS:Hid (KeepS (fun W:World=>Upd [g] w W) w):=Lib.hid ⟨fun W W' k h=>h.trans k,HS1.out⟩
 have HRK:=Lib.hid HKS.out.1
 have HEr:=Lib.hid (show ((World.drew w)).ownsRow lo 69 5 (.slice (some ⟨g,0,none⟩) (m+1) c) (m+1) (rowsOf askC ls) from HOW.out)
 clear HOW
 refine wp_held HKS.out (by kernel_rfl) (fun hHeld=>?_)
 refine tkQ 0 (.slice (some ⟨g,0,none⟩) (m+1) c) hHeld (h:=?_)
 try simp only[Act.put,sA,sB,sC]
 refine tkQ 1 (.int .i64 (i:Int)) hHeld (h:=?_)
 try simp only[Act.put,sA,sB,sC]
 refine tkQ 2 (.slice (some ⟨g,0,none⟩) i c) hHeld (he:=by intro w hSw; exact exec_slice (s:=5) 51 69 _ _ _ _ rfl rfl Tryz.underlying51 (by kernel_rfl) (sb_h _ _ (h:=i) rfl (by have q0:=HI.out; have q1:=HC.out; omega)) (by split <;> simp [Addr.add]) rfl rfl) (h:=?_)
 try simp only[Act.put,sA,sB,sC]
 refine tkQ 3 (.slice (some ⟨g,0,none⟩) (m+1) c) hHeld (h:=?_)
 try simp only[Act.put,sA,sB,sC]
 refine tkQ 4 (.int .i64 ((i:Int)+1)) hHeld (h:=?_)
 try simp only[Act.put,sA,sB,sC]
 refine tkQ 5 (.slice (cutA c (i+1) (some ⟨g,0,none⟩:Option Addr) 5) (m+1 - (i+1)) (c - (i+1))) hHeld (he:=by intro w hSw; exact exec_slice (s:=5) 51 69 _ _ _ _ rfl rfl Tryz.underlying51 (by kernel_rfl) (sb_l _ _ (l:=i+1) (by push_cast; rfl) (by have q0:=HI.out; omega)) (by rfl) rfl rfl) (h:=?_)
 try simp only[Act.put,sA,sB,sC]
 refine wpAnyH_ready (rs:=[6]) (by kernel_rfl) (by simp) ?_
 refine AllReadyH.cons (o:=?o5__6) ?h5__6 (fun K hK=>?_) AllReadyH.nil
 case h5__6=>(first | (simp only [gA,gB,gC]; done)|(simp only [gA,gB,gC]; exact rfl))
 rw [if_pos (by rfl)]
 refine wp_append_room (.tmp 22) (.tmp 25) 51 rfl lo 69 5 Tryz.underlying51 (by kernel_rfl) g i c ((rowsOf askC ls).take (i*5)) rfl (own_prefix HEr.out (by have q0:=HI.out; omega)) _ (cutA c (i+1) (some ⟨g,0,none⟩:Option Addr) 5) (m+1 - (i+1)) (c - (i+1)) ((rowsOf askC ls).drop ((i+1)*5)) rfl (reads_cut (own_reads HEr.out) (by have q0:=HI.out; omega) HC.out) (fun u hu=>asks_one ls u (List.mem_of_mem_drop hu)) (by have q0:=HI.out; have q1:=HC.out; omega) m (rowsOf askC (ls.eraseIdx i)) (by have q0:=HI.out; omega) (erase_rows askC_len (by have q0:=HI.out; have q2:=HL.out; omega)) ?_
 intro w2 hown hupd
 skip
 have hHeld3:=HKS.out.at_ w2 (Upd.comp hHeld hupd (fun _ h=>.inl h))
 have HOW_w2:=Lib.hid hown
 refine hK.out _ _ hHeld3 (fun hHeld2=>?_)
 clear hK K hHeld hHeld3 hupd hown  HEr 
 have hHeld:=hHeld2
 clear hHeld2
 try simp only[Act.put,sA,sB,sC]
 refine tkQ 7 (.slice (some ⟨g,0,none⟩) m c) hHeld (h:=?_)
 try simp only[Act.put,sA,sB,sC]
 refine wpAnyH_done (by kernel_rfl) ?_ _
 have HSd5:=Lib.hid hHeld
 clear hHeld HRK HKS HS1 
 have HFrd5:=Lib.hid HOW_w2.out
 clear HOW_w2
 go_upto_region 6 with fail
 refine wp_region_lit ?_
 refine tkL (.slice (some ⟨g,0,none⟩) m c) (h:=?_)
 try simp only[Act.put,sA,sB,sC]
 refine tkL (.slice (some ⟨g,0,none⟩) m c) (h:=?_)
 try simp only[Act.put,sA,sB,sC]
 refine tkL (.int .i64 (m:Int)) (h:=?_)
 try simp only[Act.put,sA,sB,sC]
 refine tkL (.int .i64 ((m+1:Nat):Int)) (h:=?_)
 try simp only[Act.put,sA,sB,sC]
 refine wpList_q (by rfl) (.slice (some ⟨g,m*5,none⟩) 1 (c - m)) ?he ?_
 case he=>exact exec_slice (s:=5) 51 69 _ _ _ _ rfl rfl Tryz.underlying51 (by kernel_rfl) (sb_lh _ _ _ (l:=m) (h:=m+1) rfl rfl (by omega) HC.out) (by have q1:=HC.out; rw [if_neg (by omega)]; simp [Go.WideShapes.add_plain]) (by omega) rfl
 try simp only[Act.put,sA,sB,sC]
 refine wpList_wp (by rfl) (fun K hK=>?_)
 refine wp_clear_behind _ 51 rfl lo 69 (Value.agg #[.int .i64 0,.int .i64 0,.int .i64 0,.int .i64 0,.int .i64 0]) 5 40 Tryz.underlying51 (by kernel_rfl) rfl (by intro u hu; simp [Value.cells] at hu; (try rcases hu with rfl | rfl | rfl | rfl) <;> rfl) g m c _ HFrd5.out 1 (c - m) (by decide) HC.out rfl ?_
 intro w3 hown hupd
 refine hK.out _ _ ?_
 clear hK K
 try simp only[Act.put,sA,sB,sC]
 have HSz:=Lib.hid (Upd.comp HSd5.out hupd (fun _ h=>.inl h))
 have HOWz:=Lib.hid hown
 clear hown hupd HSd5 HFrd5
 refine wpList_nil ?_
 go_upto_region 7 with fail
 refine wp_region_lit ?_
 refine tkL (.slice (some ⟨g,0,none⟩) m c) (h:=?_)
 try simp only[Act.put,sA,sB,sC]
 refine tkL (.slice (some ⟨g,0,none⟩) m c) (h:=?_)
 try simp only[Act.put,sA,sB,sC]
 refine wpList_nil ?_
 (try go_wp2_with fail)
 go_ret
 exact ⟨rfl,HOWz.out,HSz.out⟩
end CA
namespace CL
set_option maxHeartbeats 4000000 in
theorem cloneNil (w:World):Calls Tryz.prog 79 #[.slice none 0 0] w fun e w'=>e=.returned (.slice none 0 0)∧Since w w':=by
 go_enter Tryz.func79,Tryz.ntmps79
 go_upto_region 1 with fail
 have HS1:=Lib.hid (Since.refl w)
 refine wp_region_lit ?_
 refine tkL (.slice none 0 0) (h:=?_)
 try simp only[Act.put,sA,sB,sC]
 refine tkL (.bool true) (h:=?_)
 try simp only[Act.put,sA,sB,sC]
 refine wpList_nil ?_
 go_upto_region 2 with fail
 refine wp_region_lit ?_
 refine tkL (.slice none 0 0) (h:=?_)
 try simp only[Act.put,sA,sB,sC]
 refine wpList_nil ?_
 (try go_wp2_with fail)
 go_ret
 exact ⟨rfl,HS1.out⟩
set_option maxHeartbeats 4000000 in
theorem cloneSome (ad:Addr) (n c:Nat) (ls:List LeaseV) (w:World) (hR:Reads w w.heap.size 10 (some ad) n (rowsOf leaC ls)) (hN:n≤1000000):Calls Tryz.prog 79 #[.slice (some ad) n c] w fun e w'=>∃ A' c',e=.returned (.slice A' n c')∧w'.ownsRow w.heap.size 71 10 (.slice A' n c') n (rowsOf leaC ls)∧Since w w':=by
 have HR:=Lib.hid hR
 clear hR
 have HN:=Lib.hid hN
 clear hN
 go_enter Tryz.func79,Tryz.ntmps79
 go_upto_region 1 with fail
 have HS1:=Lib.hid (Since.refl w)
 refine wp_region_lit ?_
 refine tkL (.slice (some ad) n c) (h:=?_)
 try simp only[Act.put,sA,sB,sC]
 refine tkL (.bool false) (h:=?_)
 try simp only[Act.put,sA,sB,sC]
 refine wpList_nil ?_
 go_upto_region 3 with fail
 refine wp_region_lit ?_
 refine wpList_wp (by rfl) (fun K hK=>?_)
 refine wp_new (fun b=>.slice (some ⟨b,0,none⟩) 0 0) 71 #[] (by rintro b rfl; first | rfl | kernel_rfl) ?_
 intro bn5 w2 hge hB hb
 refine hK.out _ _ ?_
 clear hK K
 try simp only[Act.put,sA,sB,sC]
 have HGn5:=Lib.hid (show w.heap.size≤bn5 by have:=Since.size HS1.out; omega)
 have HS2:=Lib.hid (Since.trans HS1.out hb)
 clear HS1 
 clear hb hge
 have HBn52:=Lib.hid hB
 clear hB
 refine tkL (.slice (some ad) n c) (h:=?_)
 try simp only[Act.put,sA,sB,sC]
 refine wpList_wp (by rfl) (fun K hK=>?_)
 have HOE:=Lib.hid (own_empty (e:=71) (size:=10) HBn52.out HGn5.out)
 clear HBn52
 refine wp_append_row (.tmp 5) (.tmp 6) 46 rfl w.heap.size 71 (Value.agg #[.int .i64 0,.int .i64 0,.int .i64 0,.int .i64 0,.int .i64 0,.int .i64 0,.int .i64 0,.int .i64 0,.int .i64 0,.int .i64 0]) 10 80 Tryz.underlying46 (by kernel_rfl) rfl (by decide) (by decide) (some ⟨bn5,0,none⟩) 0 0 ([]) rfl HOE.out _ (some ad) n c (rowsOf leaC ls) rfl (own_reads_since HS2.out (Nat.le_refl _) HR.out) (leas_one ls) (by have:=HN.out; omega) HS2.out.size n (rowsOf leaC ls) (Nat.zero_add _) rfl ?_
 intro A_1 c_1 w3 hown hupd hfar
 refine hK.out _ _ ?_
 clear hK K
 try simp only[Act.put,sA,sB,sC]
 have HS3:=Lib.hid (Since.upd HS2.out hupd (own_low HOE.out))
 have HFr3:=Lib.hid hown
 clear hupd hown hfar HS2 HOE
 refine tkL (.slice A_1 n c_1) (h:=?_)
 try simp only[Act.put,sA,sB,sC]
 refine wpList_nil ?_
 (try go_wp2_with fail)
 go_ret
 exact ⟨A_1,c_1,rfl,HFr3.out,HS3.out⟩
theorem cloneT (lo:Nat) (A:Option Addr) (c:Nat) (ls:List LeaseV) (w:World) (hO:w.ownsRow lo 71 10 (.slice A ls.length c) ls.length (rowsOf leaC ls)) (hl:ls.length≤1000000):Calls Tryz.prog 79 #[.slice A ls.length c] w fun e w'=>∃ A' c',e=.returned (.slice A' ls.length c')∧w'.ownsRow w.heap.size 71 10 (.slice A' ls.length c') ls.length (rowsOf leaC ls)∧Since w w':=by
 rcases own_at hO with ⟨rfl,h0,hx⟩ | ⟨g,cur,rfl,_⟩
 ·have hc:c=0:=by
   rcases hO.2 with ⟨hv,_⟩ | ⟨_,_,_,hv,_⟩
   ·simp at hv; exact hv.2
   ·simp at hv
  subst hc
  rw [hx,h0]
  refine (cloneNil w).mono ?_
  rintro e w1 ⟨rfl,hb⟩
  exact ⟨none,0,rfl,World.ownsRow_nil _ _ _ _,hb⟩
 ·exact cloneSome _ _ c ls w (own_reads hO) hl
set_option maxHeartbeats 4000000 in
theorem deleteT (lo g m c i:Nat) (ls:List LeaseV) (w:World) (hO:w.ownsRow lo 71 10 (.slice (some ⟨g,0,none⟩) (m+1) c) (m+1) (rowsOf leaC ls)) (hl:ls.length=m+1) (hi:i≤m) (hc:m+1≤c) (hm:m+1≤1000000):Calls Tryz.prog 261 #[.slice (some ⟨g,0,none⟩) (m+1) c,.int .i64 (i:Int),.int .i64 ((i:Int)+1)] w fun e w'=>e=.returned (.slice (some ⟨g,0,none⟩) m c)∧w'.ownsRow lo 71 10 (.slice (some ⟨g,0,none⟩) m c) m (rowsOf leaC (ls.eraseIdx i))∧Upd [g] w w':=by
 have HOW:=Lib.hid hO
 clear hO
 have HL:=Lib.hid hl
 clear hl
 have HI:=Lib.hid hi
 clear hi
 have HC:=Lib.hid hc
 clear hc
 have HM:=Lib.hid hm
 clear hm
 go_enter Tryz.func261,Tryz.ntmps261
 go_upto_region 1 with fail
 have HS1:=Lib.hid (Upd.refl [g] w)
 refine wp_region_lit ?_
 refine tkL (.slice (some ⟨g,0,none⟩) (m+1) c) (h:=?_)
 try simp only[Act.put,sA,sB,sC]
 refine tkL (.int .i64 (i:Int)) (h:=?_)
 try simp only[Act.put,sA,sB,sC]
 refine tkL (.int .i64 ((i:Int)+1)) (h:=?_)
 try simp only[Act.put,sA,sB,sC]
 refine tkL (.slice (some ⟨g,0,none⟩) (m+1) c) (h:=?_)
 try simp only[Act.put,sA,sB,sC]
 refine tkL (.int .i64 ((m+1:Nat):Int)) (h:=?_)
 try simp only[Act.put,sA,sB,sC]
 refine wpList_q (by rfl) (.slice (cutA (m+1) i (some ⟨g,0,none⟩:Option Addr) 10) (i+1 - i) (m+1 - i)) ?he ?_
 case he=>exact exec_slice (s:=10) 46 71 _ _ _ _ rfl rfl Tryz.underlying46 (by kernel_rfl) (sb_lhm _ _ _ _ (l:=i) (h:=i+1) (m:=m+1) rfl (by push_cast; rfl) rfl (by omega) (by have q0:=HI.out; omega) HC.out) (by rfl) rfl rfl
 try simp only[Act.put,sA,sB,sC]
 refine wpList_nil ?_
 go_upto_region 2 with fail
 refine wp_region_lit ?_
 refine tkL (.int .i64 (i:Int)) (h:=?_)
 try simp only[Act.put,sA,sB,sC]
 refine tkL (.int .i64 ((i:Int)+1)) (h:=?_)
 try simp only[Act.put,sA,sB,sC]
 refine wpList_q (by rfl) (.bool false) ?he ?_
 case he=>(go_simp; (first | done | rfl | omega))
 try simp only[Act.put,sA,sB,sC]
 refine wpList_nil ?_
 go_upto_region 4 with fail
 refine wp_region_lit ?_
 refine tkL (.slice (some ⟨g,0,none⟩) (m+1) c) (h:=?_)
 try simp only[Act.put,sA,sB,sC]
 refine tkL (.int .i64 ((m+1:Nat):Int)) (h:=?_)
 try simp only[Act.put,sA,sB,sC]
 refine tkL (.int .i64 ((m+1:Nat):Int)) (h:=?_)
 try simp only[Act.put,sA,sB,sC]
 refine wpList_nil ?_
 go_upto_region 5 with fail
 have HKS:Hid (KeepS (fun W:World=>Upd [g] w W) w):=Lib.hid ⟨fun W W' k h=>h.trans k,HS1.out⟩
 have HRK:=Lib.hid HKS.out.1
 have HEr:=Lib.hid (show ((World.drew w)).ownsRow lo 71 10 (.slice (some ⟨g,0,none⟩) (m+1) c) (m+1) (rowsOf leaC ls) from HOW.out)
 clear HOW
 refine wp_held HKS.out (by kernel_rfl) (fun hHeld=>?_)
 refine tkQ 0 (.slice (some ⟨g,0,none⟩) (m+1) c) hHeld (h:=?_)
 try simp only[Act.put,sA,sB,sC]
 refine tkQ 1 (.int .i64 (i:Int)) hHeld (h:=?_)
 try simp only[Act.put,sA,sB,sC]
 refine tkQ 2 (.slice (some ⟨g,0,none⟩) i c) hHeld (he:=by intro w hSw; exact exec_slice (s:=10) 46 71 _ _ _ _ rfl rfl Tryz.underlying46 (by kernel_rfl) (sb_h _ _ (h:=i) rfl (by have q0:=HI.out; have q1:=HC.out; omega)) (by split <;> simp [Addr.add]) rfl rfl) (h:=?_)
 try simp only[Act.put,sA,sB,sC]
 refine tkQ 3 (.slice (some ⟨g,0,none⟩) (m+1) c) hHeld (h:=?_)
 try simp only[Act.put,sA,sB,sC]
 refine tkQ 4 (.int .i64 ((i:Int)+1)) hHeld (h:=?_)
 try simp only[Act.put,sA,sB,sC]
 refine tkQ 5 (.slice (cutA c (i+1) (some ⟨g,0,none⟩:Option Addr) 10) (m+1 - (i+1)) (c - (i+1))) hHeld (he:=by intro w hSw; exact exec_slice (s:=10) 46 71 _ _ _ _ rfl rfl Tryz.underlying46 (by kernel_rfl) (sb_l _ _ (l:=i+1) (by push_cast; rfl) (by have q0:=HI.out; omega)) (by rfl) rfl rfl) (h:=?_)
 try simp only[Act.put,sA,sB,sC]
 refine wpAnyH_ready (rs:=[6]) (by kernel_rfl) (by simp) ?_
 refine AllReadyH.cons (o:=?o5__6) ?h5__6 (fun K hK=>?_) AllReadyH.nil
 case h5__6=>(first | (simp only [gA,gB,gC]; done)|(simp only [gA,gB,gC]; exact rfl))
 rw [if_pos (by rfl)]
 refine wp_append_room (.tmp 22) (.tmp 25) 46 rfl lo 71 10 Tryz.underlying46 (by kernel_rfl) g i c ((rowsOf leaC ls).take (i*10)) rfl (own_prefix HEr.out (by have q0:=HI.out; omega)) _ (cutA c (i+1) (some ⟨g,0,none⟩:Option Addr) 10) (m+1 - (i+1)) (c - (i+1)) ((rowsOf leaC ls).drop ((i+1)*10)) rfl (reads_cut (own_reads HEr.out) (by have q0:=HI.out; omega) HC.out) (fun u hu=>leas_one ls u (List.mem_of_mem_drop hu)) (by have q0:=HI.out; have q1:=HC.out; omega) m (rowsOf leaC (ls.eraseIdx i)) (by have q0:=HI.out; omega) (erase_rows leaC_len (by have q0:=HI.out; have q2:=HL.out; omega)) ?_
 intro w2 hown hupd
 skip
 have hHeld3:=HKS.out.at_ w2 (Upd.comp hHeld hupd (fun _ h=>.inl h))
 have HOW_w2:=Lib.hid hown
 refine hK.out _ _ hHeld3 (fun hHeld2=>?_)
 clear hK K hHeld hHeld3 hupd hown  HEr 
 have hHeld:=hHeld2
 clear hHeld2
 try simp only[Act.put,sA,sB,sC]
 refine tkQ 7 (.slice (some ⟨g,0,none⟩) m c) hHeld (h:=?_)
 try simp only[Act.put,sA,sB,sC]
 refine wpAnyH_done (by kernel_rfl) ?_ _
 have HSd5:=Lib.hid hHeld
 clear hHeld HRK HKS HS1 
 have HFrd5:=Lib.hid HOW_w2.out
 clear HOW_w2
 go_upto_region 6 with fail
 refine wp_region_lit ?_
 refine tkL (.slice (some ⟨g,0,none⟩) m c) (h:=?_)
 try simp only[Act.put,sA,sB,sC]
 refine tkL (.slice (some ⟨g,0,none⟩) m c) (h:=?_)
 try simp only[Act.put,sA,sB,sC]
 refine tkL (.int .i64 (m:Int)) (h:=?_)
 try simp only[Act.put,sA,sB,sC]
 refine tkL (.int .i64 ((m+1:Nat):Int)) (h:=?_)
 try simp only[Act.put,sA,sB,sC]
 refine wpList_q (by rfl) (.slice (some ⟨g,m*10,none⟩) 1 (c - m)) ?he ?_
 case he=>exact exec_slice (s:=10) 46 71 _ _ _ _ rfl rfl Tryz.underlying46 (by kernel_rfl) (sb_lh _ _ _ (l:=m) (h:=m+1) rfl rfl (by omega) HC.out) (by have q1:=HC.out; rw [if_neg (by omega)]; simp [Go.WideShapes.add_plain]) (by omega) rfl
 try simp only[Act.put,sA,sB,sC]
 refine wpList_wp (by rfl) (fun K hK=>?_)
 refine wp_clear_behind _ 46 rfl lo 71 (Value.agg #[.int .i64 0,.int .i64 0,.int .i64 0,.int .i64 0,.int .i64 0,.int .i64 0,.int .i64 0,.int .i64 0,.int .i64 0,.int .i64 0]) 10 80 Tryz.underlying46 (by kernel_rfl) rfl (by intro u hu; simp [Value.cells] at hu; (try rcases hu with rfl | rfl | rfl | rfl) <;> rfl) g m c _ HFrd5.out 1 (c - m) (by decide) HC.out rfl ?_
 intro w3 hown hupd
 refine hK.out _ _ ?_
 clear hK K
 try simp only[Act.put,sA,sB,sC]
 have HSz:=Lib.hid (Upd.comp HSd5.out hupd (fun _ h=>.inl h))
 have HOWz:=Lib.hid hown
 clear hown hupd HSd5 HFrd5
 refine wpList_nil ?_
 go_upto_region 7 with fail
 refine wp_region_lit ?_
 refine tkL (.slice (some ⟨g,0,none⟩) m c) (h:=?_)
 try simp only[Act.put,sA,sB,sC]
 refine tkL (.slice (some ⟨g,0,none⟩) m c) (h:=?_)
 try simp only[Act.put,sA,sB,sC]
 refine wpList_nil ?_
 (try go_wp2_with fail)
 go_ret
 exact ⟨rfl,HOWz.out,HSz.out⟩
end CL
end Qu
namespace Qu
open Go.RowKit Ba Mem En Go.Proofs.YtepfmfalebmcnaaGreatDoor.Ty
set_option maxRecDepth 100000
attribute [local irreducible] Go.Calls
def askE:Ek AskV:=⟨69,5,askC,askC_len,askC_one⟩
def intE:Ek Int:=⟨3,1,fun z=>[.int .i64 z],fun _=>rfl,fun a u hu=>by rw [List.mem_singleton] at hu; subst hu; rfl⟩
def qO (lo q:Nat) (room:Int) (ls:List AskV) (S:List Nat) (rw:Bool):Asr:=⟨S,rw,QO lo q room ls S,fun k h hs=>hs.upd k h,fun h=>h.lt⟩
def oM (y:Option Nat):Int:=match y with | some k=>(k:Int)|none=>0
def oQ (y:Option Nat):Int:=match y with | some k=>(k:Int)|none => -1
theorem QO.base {lo lo' q:Nat} {room:Int} {ls:List AskV} {S:List Nat} {w:World} (h:QO lo q room ls S w) (hb:lo'≤lo):QO lo' q room ls S w:=by
 obtain ⟨h0,A,c,rfl,B,O⟩:=h
 exact ⟨by omega,A,c,rfl,B,own_base O hb⟩
theorem hold_qu {lo q n:Nat} {room:Int} {ls:List AskV} {S:List Nat} {w:World} (hg:QO lo q room ls S w):∃ A c,lo≤q∧S=q::blkOf A∧Hold ⟨Tryz.prog,tab,S,w,n,[]⟩ [⟨q,142,true,0,[],[.i .i64 room,.v (.slice A ls.length c)],[],true⟩] [rwO askE lo A ls.length c ls true] w:=by
 obtain ⟨h0,A,c,rfl,B,O⟩:=hg
 have hq:q∉blkOf A:=own_ne_ty O B (by decide)
 exact ⟨A,c,h0,rfl,Hold.addObj (Hold.addRow (m:=[]) (Hold.nil _ tab _ n w) ⟨q,142,true,0,[],[.i .i64 room,.v (.slice A ls.length c)],[],true⟩ B (fun _=>.inl (by simp)) (by intro q hq; cases hq) (by intro A hA; cases hA)) (rwO askE lo A ls.length c ls true) O (fun _ g hg=>.inl (List.mem_cons_of_mem _ hg)) (by intro r hr _; simp only [List.nil_append,List.mem_singleton] at hr; subst hr; exact hq) (by intro A hA; cases hA)⟩
theorem hold_qr {q lo c n:Nat} {room:Int} {ls:List AskV} {A:Option Addr} {w:World} (hq:Blk w q 142 #[.int .i64 room,.slice A ls.length c]) (ho:askE.At lo A ls.length c ls w):Hold ⟨Tryz.prog,tab,[],w,n,[]⟩ [⟨q,142,true,0,[],[.i .i64 room,.v (.slice A ls.length c)],[],false⟩] [rwO askE lo A ls.length c ls false] w :=
 Hold.addObj (hold_q (S:=[]) [.i .i64 room,.v (.slice A ls.length c)] hq) (rwO askE lo A ls.length c ls false) ho (by intro k; cases k) (by intro r hr _; rw [List.mem_singleton] at hr; subst hr; exact own_ne_ty ho hq (by decide)) (by intro A hA; cases hA)
theorem fin_qu {lo q n n1 c1:Nat} {room:Int} {A1:Option Addr} {S:List Nat} {w:World} {V:Value} {v:SV} {fr:List (Nat×SV)} {ls:List AskV} {rest:List Row} {obr:List Asr} {st:St}
  (hst:st=⟨fr,⟨q,142,true,0,[],[.i .i64 room,.v (.slice A1 n1 c1)],[],true⟩::rest,rwO askE lo A1 n1 c1 ls true::obr⟩) (hv:∀ m,den m v=V) (h0:lo≤q) (h1:n1=ls.length) :
  Fin ⟨Tryz.prog,tab,S,w,n,[]⟩ (fun e w'=>e=.returned V∧∃ S',QO lo q room ls S' w'∧Upd S w w'∧∀ g∈S',g∈S∨w.heap.size≤g) v st:=by
 subst hst h1
 refine fin fun w' hH=>?_
 have oc:rwO askE lo A1 ls.length c1 ls true∈rwO askE lo A1 ls.length c1 ls true::obr:=List.mem_cons_self ..
 refine ⟨by rw [hv],_,⟨h0,A1,c1,rfl, ?_,hH.obj _ oc⟩,hH.upd,fun g hg=>?_⟩
 ·have:=hH.row 0 _ rfl rfl
  rw [rowA_nil rfl rfl] at this
  exact this
 ·rcases List.mem_cons.1 hg with rfl | hg
  ·exact (hH.wf 0 _ rfl rfl).2.2 rfl
  ·exact hH.own _ oc rfl g hg
theorem newT (room:Int) (w:World):Calls Tryz.prog 69 #[.int .i64 room] w fun e w'=>∃ q,e=.returned (.pointer (some ⟨q,0,none⟩))∧QO w.heap.size q (btw room 0 64) [] [q] w'∧Since w w':=by
 refine ent tab_ok [.i .i64 room] Tryz.func69 Tryz.ntmps69 rfl rfl ?_
 repeat' (first | refine gs_ ?_|((conv=>whnf); first | intro b | refine b3_ (fun h=>?_) (fun h=>?_)|refine fin_s ?_))
 all_goals (conv=>whnf)
 refine fin fun w' hH=>⟨_,rfl,⟨?_,none,0,rfl, ?_,World.ownsRow_nil _ _ _ _⟩,hH.upd.since⟩
 ·rcases (hH.wf 0 _ rfl rfl).2.2 rfl with h | h
  ·cases h
  ·exact h
 ·have q:=hH.row 0 _ rfl rfl
  rw [rowA_nil rfl rfl] at q
  rw [show btw room 0 64=(if 64 < (if room < 0 then 0 else room) then 64 else (if room < 0 then 0 else room)) by unfold btw; repeat' split <;> omega]
  exact q
theorem aheadT {q lo c:Nat} {room:Int} {ls:List AskV} {A:Option Addr} (s:Int) (w:World) (hq:Blk w q 142 #[.int .i64 room,.slice A ls.length c]) (ho:askE.At lo A ls.length c ls w) (hl:ls.length≤1000000) :
  Calls Tryz.prog 88 #[.pointer (some ⟨q,0,none⟩),.int .i64 s] w fun e w'=>e=.returned (.tuple #[.int .i64 (oM (atS ls s)),.bool (atS ls s).isSome])∧Since w w':=by
 obtain ⟨g,hA⟩:=Ek.addr ho
 refine entH tab_ok (hold_qr hq ho) [.p 0 0,.i .i64 s] Tryz.func88 Tryz.ntmps88 rfl rfl ?_
 repeat' (first | refine gs_ ?_|((conv=>whnf); first | intro b | refine b3_ (fun h=>?_) (fun h=>?_)|refine fin_s ?_))
 conv=>whnf
 refine lp ⟨tab_ok⟩ (ι:={k:Nat // k≤ls.length∧∀ j,j < k→∀ hj:j < ls.length,isS s ls[j]=false}) (fun x=>match x with | ⟨k,_⟩=>⟨[(0,.p 0 0),(1,.i .i64 s),(13,.v (.slice A ls.length c)),(14,.i .i64 ls.length),(15,.i .i64 (k:Int))],[⟨q,142,true,0,[],[.i .i64 room,.v (.slice A ls.length c)],[],false⟩],[rwO askE lo A ls.length c ls false]⟩) (fun x=>ls.length - x.1) ⟨0,Nat.zero_le _,fun j hj=>by omega⟩ (wk ?_) ?_
 ·repeat' (first | exact trivial | rfl | ((conv=>whnf); refine And.intro ?_ ?_))
 rintro ⟨k,hk,hno⟩
 by_cases hlt:k < ls.length
 ·obtain ⟨x,hx⟩:∃ x,ls[k]?=some x:=⟨_,List.getElem?_eq_getElem (by omega)⟩
  obtain ⟨hkl,hxe⟩:=List.getElem?_eq_some_iff.1 hx
  obtain rfl:=hA (by omega)
  by_cases hpx:x.se=s
  ·repeat' (first | refine gs_ ?_|((conv=>whnf); first | intro b2 | refine bto ?_|refine bfo ?_|refine wr_i ?_|refine br_t (beq_iff_eq.2 hpx) ?_|refine iv_ ?_|refine opix (g:=g) (off:=0+k*5) [.i .i64 x.se,.i .i64 x.fl,.i .i64 x.fm,.i .i64 x.to,.i .i64 x.ma] (fun w hH=>Ek.rng (hH.obj (rwO askE lo (some ⟨g,0,none⟩) ls.length c ls false) (List.mem_singleton.2 rfl)) hx) ⟨tab_ok⟩ (by rfl) (by rfl) (by show Addr.add ⟨g,0,none⟩ (k*5)=_; rw [Go.WideShapes.add_plain]) ?_|refine fin_s ?_))
   have e:atS ls s=some k:=List.findIdx?_eq_some_iff_getElem.2 ⟨hkl,by rw [hxe]; simp [isS,hpx],fun j hj=>by simpa using hno j hj (by omega)⟩
   rw [e]; rfl
  ·have hpf:isS s x=false:=by simp [isS,hpx]
   repeat' (first | refine gs_ ?_|((conv=>whnf); first | intro b2 | refine bto ?_|refine bfo ?_|refine wr_i ?_|refine br_f (beq_eq_false_iff_ne.2 hpx) ?_|refine iv_ ?_|refine opix (g:=g) (off:=0+k*5) [.i .i64 x.se,.i .i64 x.fl,.i .i64 x.fm,.i .i64 x.to,.i .i64 x.ma] (fun w hH=>Ek.rng (hH.obj (rwO askE lo (some ⟨g,0,none⟩) ls.length c ls false) (List.mem_singleton.2 rfl)) hx) ⟨tab_ok⟩ (by rfl) (by rfl) (by show Addr.add ⟨g,0,none⟩ (k*5)=_; rw [Go.WideShapes.add_plain]) ?_|refine back ⟨k+1,by omega,fun j hj hjl=>(Nat.lt_succ_iff_lt_or_eq.1 hj).elim (fun h=>hno j h hjl) (fun h=>by subst h; rw [hxe]; exact hpf)⟩ (wk ?_) ?_|refine fin_s ?_))
   all_goals first | (show ls.length - (k+1) < ls.length - k; omega)|skip
   all_goals (repeat' (first | exact trivial | rfl | ((conv=>whnf); refine And.intro ?_ ?_)))
 ·repeat' (first | refine gs_ ?_|((conv=>whnf); first | intro b2 | refine bto ?_|refine bfo ?_|refine wr_i ?_|refine fin_s ?_))
  obtain rfl:k=ls.length:=by omega
  have e:atS ls s=none:=List.findIdx?_eq_none_iff.2 fun x hx=>by
   obtain ⟨j,hj,rfl⟩:=List.mem_iff_getElem.1 hx
   exact hno j (by omega) hj
  rw [e]; rfl
attribute [local irreducible] atS oM
theorem putQ {lo q:Nat} {room:Int} {ls:List AskV} {S:List Nat} {w:World} (hg:QO lo q room ls S w) (hl:ls.length≤10000) (a:AskV) :
  Calls Tryz.prog 87 #[.pointer (some ⟨q,0,none⟩),.agg #[.int .i64 a.se,.int .i64 a.fl,.int .i64 a.fm,.int .i64 a.to,.int .i64 a.ma]] w fun e w'=>e=.returned (.int .i64 (putE room ls a))∧∃ S',QO lo q room (putL room ls a) S' w'∧Upd S w w'∧∀ g∈S',g∈S∨w.heap.size≤g:=by
 obtain ⟨A,c,h0,hS,hH⟩:=hold_qu (n:=_) hg
 unfold putL putE
 cases hf:(atS ls a.se).isSome with
 | true =>
  refine entH tab_ok (hH) [.p 0 0,.a [.i .i64 a.se,.i .i64 a.fl,.i .i64 a.fm,.i .i64 a.to,.i .i64 a.ma]] Tryz.func87 Tryz.ntmps87 rfl rfl ?_
  repeat' (first | refine gs_ ?_|((conv=>whnf); first | intro b | refine callH (f:=88) (.t [.i .i64 (oM (atS ls a.se)),.b true]) (fun w hH=>by have:=aheadT a.se w (hH.row 0 _ rfl rfl) (hH.obj (rwO askE lo A _ c ls true) (List.mem_cons_self ..)) (by omega); rw [hf] at this; exact this) ?_|refine fin_qu (by rfl) (by intro m; rfl) h0 (by rfl)|refine fin_s ?_))
 | false =>
  by_cases hr:room≤(ls.length:Int)
  ·simp only [Bool.false_eq_true,if_false,hr,if_true]
   refine entH tab_ok (hH) [.p 0 0,.a [.i .i64 a.se,.i .i64 a.fl,.i .i64 a.fm,.i .i64 a.to,.i .i64 a.ma]] Tryz.func87 Tryz.ntmps87 rfl rfl ?_
   repeat' (first | refine gs_ ?_|((conv=>whnf); first | intro b | refine bto ?_|refine bfo ?_|refine callH (f:=88) (.t [.i .i64 (oM (atS ls a.se)),.b false]) (fun w hH=>by have:=aheadT a.se w (hH.row 0 _ rfl rfl) (hH.obj (rwO askE lo A _ c ls true) (List.mem_cons_self ..)) (by omega); rw [hf] at this; exact this) ?_|refine fin_qu (by rfl) (by intro m; rfl) h0 (by rfl)|refine fin_s ?_))
  ·simp only [Bool.false_eq_true,if_false,hr,if_true]
   refine entH tab_ok (hH) [.p 0 0,.a [.i .i64 a.se,.i .i64 a.fl,.i .i64 a.fm,.i .i64 a.to,.i .i64 a.ma]] Tryz.func87 Tryz.ntmps87 rfl rfl ?_
   repeat' (first | refine gs_ ?_|((conv=>whnf); first | intro b | refine bto ?_|refine bfo ?_|refine callH (f:=88) (.t [.i .i64 (oM (atS ls a.se)),.b false]) (fun w hH=>by have:=aheadT a.se w (hH.row 0 _ rfl rfl) (hH.obj (rwO askE lo A _ c ls true) (List.mem_cons_self ..)) (by omega); rw [hf] at this; exact this) ?_|refine opb1 (e:=69) ⟨tab_ok⟩ [.i .i64 a.se,.i .i64 a.fl,.i .i64 a.fm,.i .i64 a.to,.i .i64 a.ma] (by rfl) (by rfl) ?_|refine opap 0 2 (e:=69) (lo:=lo) (size:=5) (bytes:=40) (z:=.agg #[.int .i64 0,.int .i64 0,.int .i64 0,.int .i64 0,.int .i64 0]) (A:=rwO askE lo A ls.length c ls true) (vals:=rowsOf askC ls) (cells:=askC a) (zs:=rowsOf askC (ls++[a])) (n2:=ls.length+1) (fun A' c'=>rwO askE lo A' (ls.length+1) c' (ls++[a]) true) (by rfl) (by rfl) (by rfl) (by rfl) rfl rfl (fun w h=>h) (fun A' c' w h=>h) (fun _ _=>rfl) (by rfl) (by rfl) (by rfl) (by rfl) Tryz.underlying51 (by kernel_rfl) rfl (by decide) (by decide) (askC_one _) (by omega) (fun w hH=>by have h:q < w.heap.size:=(hH.row 0 _ rfl rfl).lt; omega) rfl (by rw [rowsOf_append,rowsOf_one]) (fun A' c'=>?_)|refine fin_qu (by rfl) (by intro m; rfl) h0 (by simp)|refine fin_s ?_))
theorem dropQ {lo q:Nat} {room:Int} {ls:List AskV} {S:List Nat} {w:World} (hg:QO lo q room ls S w) (hl:ls.length≤10000) (s:Int) :
  Calls Tryz.prog 185 #[.pointer (some ⟨q,0,none⟩),.int .i64 s] w fun e w'=>e=.returned (.bool (atS ls s).isSome)∧∃ S',QO lo q room (dropL ls s) S' w'∧Upd S w w'∧∀ g∈S',g∈S∨w.heap.size≤g:=by
 obtain ⟨A,c,h0,hS,hH⟩:=hold_qu (n:=_) hg
 unfold dropL
 cases hf:atS ls s with
 | none =>
  refine entH tab_ok (hH) [.p 0 0,.i .i64 s] Tryz.func185 Tryz.ntmps185 rfl rfl ?_
  repeat' (first | refine gs_ ?_|((conv=>whnf); first | intro b | refine callH (f:=88) (.t [.i .i64 (oM none),.b false]) (fun w hH=>by have:=aheadT s w (hH.row 0 _ rfl rfl) (hH.obj (rwO askE lo A _ c ls true) (List.mem_cons_self ..)) (by omega); rw [hf] at this; exact this) ?_|refine fin_qu (by rfl) (by intro m; rfl) h0 (by rfl)|refine fin_s ?_))
 | some k =>
  obtain ⟨hk,_,_⟩:=atS_some hf
  obtain ⟨m,hm⟩:∃ m,ls.length=m+1:=⟨ls.length - 1,by omega⟩
  have hO:=hH.obj (rwO askE lo A ls.length c ls true) (List.mem_cons_self ..)
  obtain ⟨g,rfl⟩:=own_addr hO (by omega)
  have hc:ls.length≤c:=by
   rcases hO.2 with ⟨hv,_⟩ | ⟨_,_,_,hv,_,_,hc,_⟩
   ·simp at hv
   ·simp at hv; omega
  have hle:(ls.eraseIdx k).length=m:=by rw [List.length_eraseIdx_of_lt hk]; omega
  rw [hm] at hH hc
  have hki:oM (some k)=(k:Int):=by unfold oM; rfl
  refine entH tab_ok (hH) [.p 0 0,.i .i64 s] Tryz.func185 Tryz.ntmps185 rfl rfl ?_
  repeat' (first | refine gs_ ?_|((conv=>whnf); first | intro b | refine wr_i ?_|refine callH (f:=88) (.t [.i .i64 (k:Int),.b true]) (fun w hH=>by have:=aheadT (A:=some ⟨g,0,none⟩) (ls:=ls) s w (by rw [hm]; exact hH.row 0 _ rfl rfl) (by rw [hm]; exact hH.obj (rwO askE lo (some ⟨g,0,none⟩) (m+1) c ls true) (List.mem_cons_self ..)) (by omega); rw [hf,hki] at this; exact this) ?_|refine callO (f:=238) (A:=rwO askE lo (some ⟨g,0,none⟩) (m+1) c ls true) 0 (fun _:Unit=>.v (.slice (some ⟨g,0,none⟩) m c)) (fun _=>rwO askE lo (some ⟨g,0,none⟩) m c (ls.eraseIdx k) true) (fun w hH hA=>(CA.deleteT lo g m c k ls w hA hm (by omega) hc (by omega)).mono (by rintro e w' ⟨rfl,h1,h2⟩; exact ⟨(),rfl,h1,h2,fun _ h=>.inl h⟩)) (fun _=>?_)|refine fin_qu (ls:=ls.eraseIdx k) (by rfl) (by intro m; rfl) h0 (by omega)|refine fin_s ?_))
theorem indexI {lo n c:Nat} {A:Option Addr} {zs:List Int} (v:Int) (w:World) (ho:intE.At lo A n c zs w) (hn:zs.length=n) (hl:n≤1000000) :
  Calls Tryz.prog 264 #[.slice A n c,.int .i64 v] w fun e w'=>e=.returned (.int .i64 (oQ (atI zs v)))∧Since w w':=by
 obtain ⟨g,hA⟩:=Ek.addr ho
 refine entH tab_ok (Hold.addObj (Hold.nil _ tab [] _ w) (rwO intE lo A n c zs false) ho (by intro k; cases k) (by intro r hr; cases hr) (by intro A hA; cases hA)) [.v (.slice A n c),.i .i64 v] Tryz.func264 Tryz.ntmps264 rfl rfl ?_
 repeat' (first | refine gs_ ?_|((conv=>whnf); first | intro b | refine b3_ (fun h=>?_) (fun h=>?_)|refine fin_s ?_))
 conv=>whnf
 refine lp ⟨tab_ok⟩ (ι:={k:Nat // k≤n∧∀ j,j < k→∀ hj:j < zs.length,zs[j]≠v}) (fun x=>match x with | ⟨k,_⟩=>⟨[(0,.v (.slice A n c)),(1,.i .i64 v),(7,.i .i64 n),(8,.i .i64 (k:Int))],[],[rwO intE lo A n c zs false]⟩) (fun x=>n - x.1) ⟨0,Nat.zero_le _,fun j hj=>by omega⟩ (wk ?_) ?_
 ·repeat' (first | exact trivial | rfl | ((conv=>whnf); refine And.intro ?_ ?_))
 rintro ⟨k,hk,hno⟩
 by_cases hlt:k < n
 ·obtain ⟨x,hx⟩:∃ x,zs[k]?=some x:=⟨_,List.getElem?_eq_getElem (by omega)⟩
  obtain ⟨hkl,hxe⟩:=List.getElem?_eq_some_iff.1 hx
  obtain rfl:=hA (by omega)
  by_cases hpx:x=v
  ·repeat' (first | refine gs_ ?_|((conv=>whnf); first | intro b2 | refine bto ?_|refine bfo ?_|refine wr_i ?_|refine br_t (beq_iff_eq.2 hpx.symm) ?_|refine iv_ ?_|refine opxc (g:=g) (off:=0+k*1) (.i .i64 x) (fun w hH=>Ek.rng (hH.obj (rwO intE lo (some ⟨g,0,none⟩) n c zs false) (List.mem_singleton.2 rfl)) hx) ⟨tab_ok⟩ (by rfl) (by rfl) (by show Addr.add ⟨g,0,none⟩ (k*1)=_; rw [Go.WideShapes.add_plain]) ?_|refine fin_s ?_))
   have e:atI zs v=some k:=List.findIdx?_eq_some_iff_getElem.2 ⟨hkl,by rw [hxe]; simp [hpx],fun j hj=>by simpa using hno j hj (by omega)⟩
   rw [e]; rfl
  ·repeat' (first | refine gs_ ?_|((conv=>whnf); first | intro b2 | refine bto ?_|refine bfo ?_|refine wr_i ?_|refine br_f (beq_eq_false_iff_ne.2 (Ne.symm hpx)) ?_|refine iv_ ?_|refine opxc (g:=g) (off:=0+k*1) (.i .i64 x) (fun w hH=>Ek.rng (hH.obj (rwO intE lo (some ⟨g,0,none⟩) n c zs false) (List.mem_singleton.2 rfl)) hx) ⟨tab_ok⟩ (by rfl) (by rfl) (by show Addr.add ⟨g,0,none⟩ (k*1)=_; rw [Go.WideShapes.add_plain]) ?_|refine back ⟨k+1,by omega,fun j hj hjl=>(Nat.lt_succ_iff_lt_or_eq.1 hj).elim (fun h=>hno j h hjl) (fun h=>by subst h; rw [hxe]; exact hpx)⟩ (wk ?_) ?_|refine fin_s ?_))
   all_goals first | (show n - (k+1) < n - k; omega)|skip
   all_goals (repeat' (first | exact trivial | rfl | ((conv=>whnf); refine And.intro ?_ ?_)))
 ·repeat' (first | refine gs_ ?_|((conv=>whnf); first | intro b2 | refine bto ?_|refine bfo ?_|refine wr_i ?_|refine fin_s ?_))
  obtain rfl:k=n:=by omega
  have e:atI zs v=none:=List.findIdx?_eq_none_iff.2 fun x hx=>by
   obtain ⟨j,hj,rfl⟩:=List.mem_iff_getElem.1 hx
   simpa using hno j (by omega) hj
  rw [e]; rfl
theorem oQ_ge (y:Option Nat):decide (oQ y ≥ 0)=y.isSome:=by
 cases y with
 | none=>rfl
 | some k=>simp [oQ]
attribute [local irreducible] oQ atI
theorem containsI {lo n c:Nat} {A:Option Addr} {zs:List Int} (v:Int) (w:World) (ho:intE.At lo A n c zs w) (hn:zs.length=n) (hl:n≤1000000) :
  Calls Tryz.prog 233 #[.slice A n c,.int .i64 v] w fun e w'=>e=.returned (.bool (atI zs v).isSome)∧Since w w':=by
 refine entH tab_ok (Hold.addObj (Hold.nil _ tab [] _ w) (rwO intE lo A n c zs false) ho (by intro k; cases k) (by intro r hr; cases hr) (by intro A hA; cases hA)) [.v (.slice A n c),.i .i64 v] Tryz.func233 Tryz.ntmps233 rfl rfl ?_
 repeat' (first | refine gs_ ?_|((conv=>whnf); first | intro b | refine b3_ (fun h=>?_) (fun h=>?_)|refine callH (f:=264) (.i .i64 (oQ (atI zs v))) (fun w hH=>indexI v w (hH.obj (rwO intE lo A n c zs false) (List.mem_singleton.2 rfl)) hn hl) ?_|refine fin_s ?_))
 all_goals (simp only [den]; rw [oQ_ge])
def zA:AskV:=⟨0,0,0,0,0⟩
def firstA (ls:List AskV) (zs:List Int):AskV:=match atF ls zs with | some k=>ls.getD k zA | none=>zA
theorem firstT {q lo c lo2 n2 c2:Nat} {room:Int} {ls:List AskV} {A A2:Option Addr} {zs:List Int} (w:World) (hq:Blk w q 142 #[.int .i64 room,.slice A ls.length c]) (ho:askE.At lo A ls.length c ls w) (hl:ls.length≤1000000) (hz:intE.At lo2 A2 n2 c2 zs w) (hn:zs.length=n2) (hl2:n2≤1000000) :
  Calls Tryz.prog 181 #[.pointer (some ⟨q,0,none⟩),.slice A2 n2 c2] w fun e w'=>e=.returned (.tuple #[.agg #[.int .i64 (firstA ls zs).se,.int .i64 (firstA ls zs).fl,.int .i64 (firstA ls zs).fm,.int .i64 (firstA ls zs).to,.int .i64 (firstA ls zs).ma],.bool (atF ls zs).isSome])∧Since w w':=by
 obtain ⟨g,hA⟩:=Ek.addr ho
 refine entH tab_ok (Hold.addObj (hold_qr hq ho) (rwO intE lo2 A2 n2 c2 zs false) hz (by intro k; cases k) (by intro r hr _; rw [List.mem_singleton] at hr; subst hr; exact own_ne_ty hz hq (by decide)) (by intro A hA k; simp only [List.mem_singleton] at hA; subst hA; rcases k with k | k <;> cases k)) [.p 0 0,.v (.slice A2 n2 c2)] Tryz.func181 Tryz.ntmps181 rfl rfl ?_
 repeat' (first | refine gs_ ?_|((conv=>whnf); first | intro b | refine b3_ (fun h=>?_) (fun h=>?_)|refine fin_s ?_))
 conv=>whnf
 refine lp ⟨tab_ok⟩ (ι:={k:Nat // k≤ls.length∧∀ j,j < k→∀ hj:j < ls.length,okF zs ls[j]=false}) (fun x=>match x with | ⟨k,_⟩=>⟨[(0,.p 0 0),(1,.v (.slice A2 n2 c2)),(4,.p 1 0),(14,.v (.slice A ls.length c)),(15,.i .i64 ls.length),(16,.i .i64 (k:Int))],[⟨q,142,true,0,[],[.i .i64 room,.v (.slice A ls.length c)],[],false⟩,⟨b,69,true,0,[],[.i .i64 0,.i .i64 0,.i .i64 0,.i .i64 0,.i .i64 0],[],true⟩],[rwO askE lo A ls.length c ls false,rwO intE lo2 A2 n2 c2 zs false]⟩) (fun x=>ls.length - x.1) ⟨0,Nat.zero_le _,fun j hj=>by omega⟩ (wk ?_) ?_
 ·repeat' (first | exact trivial | rfl | ((conv=>whnf); refine And.intro ?_ ?_))
 rintro ⟨k,hk,hno⟩
 by_cases hlt:k < ls.length
 ·obtain ⟨x,hx⟩:∃ x,ls[k]?=some x:=⟨_,List.getElem?_eq_getElem (by omega)⟩
  obtain ⟨hkl,hxe⟩:=List.getElem?_eq_some_iff.1 hx
  obtain rfl:=hA (by omega)
  cases hpx:(atI zs x.fl).isSome with
  | false =>
   repeat' (first | refine gs_ ?_|((conv=>whnf); first | intro b2 | refine bto ?_|refine bfo ?_|refine wr_i ?_|refine iv_ ?_|refine opix (g:=g) (off:=0+k*5) [.i .i64 x.se,.i .i64 x.fl,.i .i64 x.fm,.i .i64 x.to,.i .i64 x.ma] (fun w hH=>Ek.rng (hH.obj (rwO askE lo (some ⟨g,0,none⟩) ls.length c ls false) (List.mem_cons_self ..)) hx) ⟨tab_ok⟩ (by rfl) (by rfl) (by show Addr.add ⟨g,0,none⟩ (k*5)=_; rw [Go.WideShapes.add_plain]) ?_|refine callH (f:=233) (.b false) (fun w hH=>by have:=containsI x.fl w (hH.obj (rwO intE lo2 A2 n2 c2 zs false) (List.mem_cons_of_mem _ (List.mem_cons_self ..))) hn hl2; rw [hpx] at this; exact this) ?_|refine fin_s ?_))
   have e:atF ls zs=some k:=List.findIdx?_eq_some_iff_getElem.2 ⟨hkl,by rw [hxe]; simp [okF,hpx],fun j hj=>by simpa using hno j hj (by omega)⟩
   have e2:firstA ls zs=x:=by unfold firstA; rw [e]; simp [List.getD,hx]
   rw [e,e2]; rfl
  | true =>
   repeat' (first | refine gs_ ?_|((conv=>whnf); first | intro b2 | refine bto ?_|refine bfo ?_|refine wr_i ?_|refine iv_ ?_|refine opix (g:=g) (off:=0+k*5) [.i .i64 x.se,.i .i64 x.fl,.i .i64 x.fm,.i .i64 x.to,.i .i64 x.ma] (fun w hH=>Ek.rng (hH.obj (rwO askE lo (some ⟨g,0,none⟩) ls.length c ls false) (List.mem_cons_self ..)) hx) ⟨tab_ok⟩ (by rfl) (by rfl) (by show Addr.add ⟨g,0,none⟩ (k*5)=_; rw [Go.WideShapes.add_plain]) ?_|refine callH (f:=233) (.b true) (fun w hH=>by have:=containsI x.fl w (hH.obj (rwO intE lo2 A2 n2 c2 zs false) (List.mem_cons_of_mem _ (List.mem_cons_self ..))) hn hl2; rw [hpx] at this; exact this) ?_|refine back ⟨k+1,by omega,fun j hj hjl=>(Nat.lt_succ_iff_lt_or_eq.1 hj).elim (fun h=>hno j h hjl) (fun h=>by subst h; rw [hxe]; simp [okF,hpx])⟩ (wk ?_) ?_|refine fin_s ?_))
   all_goals first | (show ls.length - (k+1) < ls.length - k; omega)|skip
   all_goals (repeat' (first | exact trivial | rfl | ((conv=>whnf); refine And.intro ?_ ?_)))
 ·repeat' (first | refine gs_ ?_|((conv=>whnf); first | intro b2 | refine bto ?_|refine bfo ?_|refine wr_i ?_|refine fin_s ?_))
  obtain rfl:k=ls.length:=by omega
  have e:atF ls zs=none:=List.findIdx?_eq_none_iff.2 fun x hx=>by
   obtain ⟨j,hj,rfl⟩:=List.mem_iff_getElem.1 hx
   exact hno j (by omega) hj
  have e2:firstA ls zs=zA:=by unfold firstA; rw [e]
  rw [e,e2]; rfl
end Qu
namespace Tm
def cl (n:Int):Int:=if n < 0 then 0 else if 1099511627776 < n then 1099511627776 else n
theorem cl_lo (n:Int):0≤cl n:=by unfold cl; repeat' split <;> omega
theorem cl_hi (n:Int):cl n≤1099511627776:=by unfold cl; repeat' split <;> omega
theorem cl_id (n:Int) (h0:0≤n) (h1:n≤1099511627776):cl n=n:=by unfold cl; repeat' split <;> omega
theorem cl_up (n:Int) (h1:1099511627776≤n):cl n=1099511627776:=by unfold cl; repeat' split <;> omega
theorem cl_cl (n:Int):cl (cl n)=cl n:=cl_id _ (cl_lo n) (cl_hi n)
def mu (a b:Int):Int:=cl (cl a*cl b)
theorem prod_lo (a b:Int):0≤cl a*cl b:=Int.mul_nonneg (cl_lo a) (cl_lo b)
theorem div_test (a b:Int) (ha:0 < a):1099511627776 / a < b↔1099511627776 < b*a:=by
 exact Int.ediv_lt_iff_lt_mul ha
def dbl (b:Int):Nat→Int
 | 0=>cl b
 | n+1=>cl (dbl b n+dbl b n)
theorem dbl_pow (b:Int) (n:Nat):dbl b n=cl (cl b*2 ^ n):=by
 induction n with
 | zero=>simp [dbl,cl_cl]
 | succ n ih =>
  rw [dbl,ih]
  have hp:(0:Int)≤2 ^ n:=Int.pow_nonneg (by omega)
  have h0:0≤cl b*2 ^ n:=Int.mul_nonneg (cl_lo b) hp
  have e:cl b*2 ^ (n+1)=cl b*2 ^ n+cl b*2 ^ n:=by
   rw [Int.pow_succ,← Int.mul_assoc,Int.mul_comm _ 2,Int.two_mul]
  rw [e]
  unfold cl at *
  repeat' split <;> omega
theorem pow40 (k:Nat) (h:40≤k):(1099511627776:Int)≤2 ^ k:=by
 obtain ⟨j,rfl⟩:=Nat.exists_eq_add_of_le h
 rw [Int.pow_add]
 have h1:(0:Int) < 2 ^ j:=Int.pow_pos (by omega)
 have h2:(2:Int) ^ 40=1099511627776:=by decide
 rw [h2]; omega
theorem dbl_far (b:Int) (m n:Nat) (hm:40≤m) (hn:40≤n):dbl b m=dbl b n:=by
 rw [dbl_pow,dbl_pow]
 have h0:=cl_lo b
 by_cases h:cl b=0
 ·rw [h]; simp
 ·have far:∀ k:Nat,40≤k→cl (cl b*2 ^ k)=1099511627776:=by
   intro k hk
   have:=pow40 k hk
   have h5:1*(2:Int) ^ k≤cl b*2 ^ k:=Int.mul_le_mul_of_nonneg_right (by omega) (by omega)
   exact cl_up _ (by omega)
  rw [far m hm,far n hn]
theorem mu_pow (b:Int) (n:Nat):mu b (2 ^ n)=dbl b n:=by
 rw [dbl_pow]; unfold mu
 have hp:(0:Int)≤2 ^ n:=Int.pow_nonneg (by omega)
 by_cases h:(2:Int) ^ n≤1099511627776
 ·rw [cl_id (2 ^ n) hp h]
 ·rw [cl_up (2 ^ n) (by omega)]
  have h0:=cl_lo b
  by_cases hb:cl b=0
  ·rw [hb]; simp
  ·have h5:1*(2:Int) ^ n≤cl b*2 ^ n:=Int.mul_le_mul_of_nonneg_right (by omega) (by omega)
   have h6:1*(1099511627776:Int)≤cl b*1099511627776:=Int.mul_le_mul_of_nonneg_right (by omega) (by omega)
   rw [cl_up _ (by omega),cl_up _ (by omega)]
def tr (t:Int) (m:Nat):Nat:=min t.toNat m
theorem dbl_tr (b t:Int):dbl b (tr t 41)=dbl b (tr t 100):=by
 unfold tr
 by_cases h:t.toNat≤41
 ·rw [Nat.min_eq_left h,Nat.min_eq_left (by omega)]
 ·exact dbl_far _ _ _ (by omega) (by omega)
def pa (b m t:Int):Int:=min (dbl b (tr t 100)) (cl m)
end Tm
end Go.Proofs.YtepfmfalebmcnaaGreatDoor
