/-
  What is wanted by the last of these texts, part 15.
  No condition.
-/
import Derived.Test.YtpacieocmogjeaaProg
import Derived.Test.YtpacieocmogjeaaKGv0
import Derived.Test.YtpacieocmogjeaaKGv12
import Derived.Test.YtpacieocmogjeaaKGv5
import Derived.Test.YtpacieocmogjeaaKGv1
namespace Go.Proofs.Ytpacieocmogjeaa.Gr
set_option linter.unusedVariables false
set_option linter.unusedSimpArgs false
open Go.RowKit Go.Proofs.Ytpacieocmogjeaa.Ba Go.Proofs.Ytpacieocmogjeaa.Mem Go.Proofs.Ytpacieocmogjeaa.Ty Go.Proofs.Ytpacieocmogjeaa.Mo Go.Proofs.Ytpacieocmogjeaa.St Go.Proofs.Ytpacieocmogjeaa.Sc Go.Proofs.Ytpacieocmogjeaa.Pl
open Go.Proofs.Ytpacieocmogjeaa.Ct (cfgA carA m1 dwV bdX tkV tkF tkW tkS tickT)
set_option maxRecDepth 100000
attribute [local irreducible] Go.wpList
theorem levV (u : Int) (b : Bool) (h : lvB u = b) (w : World) : Calls Try.prog 68 #[.int .i64 u] w fun e w' => e = .returned (.tuple #[.int .i64 (lvN u), .bool b]) ∧ w = w' := by subst h; exact levelT u w
set_option maxHeartbeats 4000000 in
theorem load1T (g off : Nat) (P S : List Value) (x : CarV) (cp : Nat) (v : Int) (w : World) (hb : Blk w g 30 (el P (carA x) S)) (hp : P.length = off) (hcp : Blk w cp 3 #[.int .i64 v]) : Calls Try.prog 60 #[.pointer (some ⟨g, off, none⟩), .pointer (some ⟨cp, 0, none⟩)] w fun e w' => e = .returned (.int .i64 0) ∧ Blk w' g 30 (el P (carA { x with lo := v }) S) ∧ Upd [g] w w' := by
 have HB := Lib.hid hb
 clear hb
 have HP := Lib.hid hp
 clear hp
 have HCP := Lib.hid hcp
 clear hcp
 have HNcp := Lib.hid (Blk.ne_ HCP.out HB.out (by decide))
 go_enter Try.func60, Try.ntmps60
 go_upto_region 1 with fail
 have HSU := Lib.hid (Upd.refl [g] w)
 refine wp_region_lit ?_
 refine tkL (.pointer (some ⟨g, off, none⟩)) (h := ?_)
 (try simp only [Act.put, sA, sB, sC])
 refine wpList_q (by rfl) (.int .i64 v) ?he ?_
 case he => exact exec_cell 3 _ _ HCP.out rfl rfl rfl Try.underlying3 rfl
 (try simp only [Act.put, sA, sB, sC])
 refine tkL (.pointer (some ⟨g, off, none⟩)) (h := ?_)
 (try simp only [Act.put, sA, sB, sC])
 refine tkL (.pointer (some ⟨g, off + 6, none⟩)) (h := ?_)
 (try simp only [Act.put, sA, sB, sC])
 refine wpList_wp (by rfl) (fun K hK => ?_)
 refine wp_st_cell 3 _ _ rfl (el P #[.int .i64 x.ds, .int .i64 x.da, .int .i64 x.un, .int .i64 x.wy, .int .i64 x.ti, .int .i64 x.ju, .int .i64 v, .bool x.bl, .bool x.br, .int .i64 x.mo, .int .i64 x.ta, .bool x.ho, .int .u64 x.sp, .int .u64 x.su, .int .u64 x.sd] S) (.int .i64 v) rfl rfl HB.out (el_lt (j := 6) HP.out (by show 6 < 15; decide)) (el_set (j := 6) HP.out (by show 6 < 15; decide) rfl) (by first | rfl | simp [Value.oneCell']) (by kernel_rfl) ?_
 intro w2 hw
 refine hK.out _ _ ?_
 clear hK K
 (try simp only [Act.put, sA, sB, sC])
 have HS2 := Lib.hid (show Upd [g] w w2 by rw [hw]; exact Upd.setRow HSU.out (.inl (by simp)) _)
 have HBE2 := Lib.hid (show Blk w2 g 30 (el P #[.int .i64 x.ds, .int .i64 x.da, .int .i64 x.un, .int .i64 x.wy, .int .i64 x.ti, .int .i64 x.ju, .int .i64 v, .bool x.bl, .bool x.br, .int .i64 x.mo, .int .i64 x.ta, .bool x.ho, .int .u64 x.sp, .int .u64 x.su, .int .u64 x.sd] S) by rw [hw]; exact Blk.row HB.out _)
 have HBcp2 := Lib.hid (show Blk w2 cp 3 #[.int .i64 v] by rw [hw]; exact Blk.row_far HCP.out HNcp.out _)
 clear hw HSU HB HCP
 refine wpList_nil ?_
 go_upto_region 2 with fail
 refine wp_region_lit ?_
 refine tkL (.int .i64 0) (h := ?_)
 (try simp only [Act.put, sA, sB, sC])
 refine wpList_nil ?_
 (try go_wp2_with fail)
 go_ret
 exact ⟨rfl, HBE2.out, HS2.out⟩
set_option maxHeartbeats 4000000 in
theorem curt1T (g off : Nat) (P S : List Value) (x : CarV) (cp : Nat) (v : Bool) (w : World) (hb : Blk w g 30 (el P (carA x) S)) (hp : P.length = off) (hcp : Blk w cp 4 #[.bool v]) : Calls Try.prog 61 #[.pointer (some ⟨g, off, none⟩), .pointer (some ⟨cp, 0, none⟩)] w fun e w' => e = .returned (.int .i64 0) ∧ Blk w' g 30 (el P (carA { x with bl := v }) S) ∧ Upd [g] w w' := by
 have HB := Lib.hid hb
 clear hb
 have HP := Lib.hid hp
 clear hp
 have HCP := Lib.hid hcp
 clear hcp
 have HNcp := Lib.hid (Blk.ne_ HCP.out HB.out (by decide))
 go_enter Try.func61, Try.ntmps61
 go_upto_region 1 with fail
 have HSU := Lib.hid (Upd.refl [g] w)
 refine wp_region_lit ?_
 refine tkL (.pointer (some ⟨g, off, none⟩)) (h := ?_)
 (try simp only [Act.put, sA, sB, sC])
 refine wpList_q (by rfl) (.bool v) ?he ?_
 case he => exact exec_cell 4 _ _ HCP.out rfl rfl rfl Try.underlying4 rfl
 (try simp only [Act.put, sA, sB, sC])
 refine tkL (.pointer (some ⟨g, off, none⟩)) (h := ?_)
 (try simp only [Act.put, sA, sB, sC])
 refine tkL (.pointer (some ⟨g, off + 7, none⟩)) (h := ?_)
 (try simp only [Act.put, sA, sB, sC])
 refine wpList_wp (by rfl) (fun K hK => ?_)
 refine wp_st_cell 4 _ _ rfl (el P #[.int .i64 x.ds, .int .i64 x.da, .int .i64 x.un, .int .i64 x.wy, .int .i64 x.ti, .int .i64 x.ju, .int .i64 x.lo, .bool v, .bool x.br, .int .i64 x.mo, .int .i64 x.ta, .bool x.ho, .int .u64 x.sp, .int .u64 x.su, .int .u64 x.sd] S) (.bool v) rfl rfl HB.out (el_lt (j := 7) HP.out (by show 7 < 15; decide)) (el_set (j := 7) HP.out (by show 7 < 15; decide) rfl) (by first | rfl | simp [Value.oneCell']) (by kernel_rfl) ?_
 intro w2 hw
 refine hK.out _ _ ?_
 clear hK K
 (try simp only [Act.put, sA, sB, sC])
 have HS2 := Lib.hid (show Upd [g] w w2 by rw [hw]; exact Upd.setRow HSU.out (.inl (by simp)) _)
 have HBE2 := Lib.hid (show Blk w2 g 30 (el P #[.int .i64 x.ds, .int .i64 x.da, .int .i64 x.un, .int .i64 x.wy, .int .i64 x.ti, .int .i64 x.ju, .int .i64 x.lo, .bool v, .bool x.br, .int .i64 x.mo, .int .i64 x.ta, .bool x.ho, .int .u64 x.sp, .int .u64 x.su, .int .u64 x.sd] S) by rw [hw]; exact Blk.row HB.out _)
 have HBcp2 := Lib.hid (show Blk w2 cp 4 #[.bool v] by rw [hw]; exact Blk.row_far HCP.out HNcp.out _)
 clear hw HSU HB HCP
 refine wpList_nil ?_
 go_upto_region 2 with fail
 refine wp_region_lit ?_
 refine tkL (.int .i64 0) (h := ?_)
 (try simp only [Act.put, sA, sB, sC])
 refine wpList_nil ?_
 (try go_wp2_with fail)
 go_ret
 exact ⟨rfl, HBE2.out, HS2.out⟩
set_option maxHeartbeats 4000000 in
theorem press1A (g off : Nat) (P S : List Value) (x : CarV) (cp : Nat) (v : Int) (w : World) (hb : Blk w g 30 (el P (carA x) S)) (hp : P.length = off) (hcp : Blk w cp 3 #[.int .i64 v]) (hbr : x.br = true) : Calls Try.prog 58 #[.pointer (some ⟨g, off, none⟩), .pointer (some ⟨cp, 0, none⟩)] w fun e w' => e = .returned (.int .i64 7) ∧ Blk w' g 30 (el P (carA x) S) ∧ Upd [g] w w' := by
 have HB := Lib.hid hb
 clear hb
 have HP := Lib.hid hp
 clear hp
 have HCP := Lib.hid hcp
 clear hcp
 have HBR := Lib.hid hbr
 clear hbr
 have HNcp := Lib.hid (Blk.ne_ HCP.out HB.out (by decide))
 go_enter Try.func58, Try.ntmps58
 go_upto_region 1 with fail
 have HSU := Lib.hid (Upd.refl [g] w)
 have HB0 := Lib.hid (show Blk w g 30 (el P #[.int .i64 x.ds, .int .i64 x.da, .int .i64 x.un, .int .i64 x.wy, .int .i64 x.ti, .int .i64 x.ju, .int .i64 x.lo, .bool x.bl, .bool true, .int .i64 x.mo, .int .i64 x.ta, .bool x.ho, .int .u64 x.sp, .int .u64 x.su, .int .u64 x.sd] S) by have q := HB.out; unfold carA at q; rw [HBR.out] at q; exact q)
 clear HB
 refine wp_region_lit ?_
 refine tkL (.pointer (some ⟨g, off, none⟩)) (h := ?_)
 (try simp only [Act.put, sA, sB, sC])
 refine tkL (.pointer (some ⟨g, off, none⟩)) (h := ?_)
 (try simp only [Act.put, sA, sB, sC])
 refine tkL (.pointer (some ⟨g, off + 8, none⟩)) (h := ?_)
 (try simp only [Act.put, sA, sB, sC])
 refine wpList_q (by rfl) (.bool true) ?he ?_
 case he => exact exec_cell 4 _ _ HB0.out (el_at (j := 8) HP.out rfl) rfl rfl Try.underlying4 rfl
 (try simp only [Act.put, sA, sB, sC])
 refine tkL (.bool true) (h := ?_)
 (try simp only [Act.put, sA, sB, sC])
 refine wpList_no (by rfl) ?_
 (try simp only [Act.put, sA, sB, sC])
 refine wpList_no (by rfl) ?_
 (try simp only [Act.put, sA, sB, sC])
 refine wpList_no (by rfl) ?_
 (try simp only [Act.put, sA, sB, sC])
 refine wpList_no (by rfl) ?_
 (try simp only [Act.put, sA, sB, sC])
 refine wpList_no (by rfl) ?_
 (try simp only [Act.put, sA, sB, sC])
 refine tkL (.bool true) (h := ?_)
 (try simp only [Act.put, sA, sB, sC])
 refine wpList_nil ?_
 go_upto_region 2 with fail
 refine wp_region_lit ?_
 refine tkL (.int .i64 7) (h := ?_)
 (try simp only [Act.put, sA, sB, sC])
 refine wpList_nil ?_
 (try go_wp2_with fail)
 go_ret
 exact ⟨rfl, by have q := HB0.out; unfold carA; rw [HBR.out]; exact q, HSU.out⟩
set_option maxHeartbeats 4000000 in
theorem press1B (g off : Nat) (P S : List Value) (x : CarV) (cp : Nat) (v : Int) (w : World) (hb : Blk w g 30 (el P (carA x) S)) (hp : P.length = off) (hcp : Blk w cp 3 #[.int .i64 v]) (hbr : x.br = false) (hmo : x.mo = 1) : Calls Try.prog 58 #[.pointer (some ⟨g, off, none⟩), .pointer (some ⟨cp, 0, none⟩)] w fun e w' => e = .returned (.int .i64 7) ∧ Blk w' g 30 (el P (carA x) S) ∧ Upd [g] w w' := by
 have HB := Lib.hid hb
 clear hb
 have HP := Lib.hid hp
 clear hp
 have HCP := Lib.hid hcp
 clear hcp
 have HBR := Lib.hid hbr
 clear hbr
 have HMO := Lib.hid hmo
 clear hmo
 have HNcp := Lib.hid (Blk.ne_ HCP.out HB.out (by decide))
 go_enter Try.func58, Try.ntmps58
 go_upto_region 1 with fail
 have HSU := Lib.hid (Upd.refl [g] w)
 have HB0 := Lib.hid (show Blk w g 30 (el P #[.int .i64 x.ds, .int .i64 x.da, .int .i64 x.un, .int .i64 x.wy, .int .i64 x.ti, .int .i64 x.ju, .int .i64 x.lo, .bool x.bl, .bool false, .int .i64 x.mo, .int .i64 x.ta, .bool x.ho, .int .u64 x.sp, .int .u64 x.su, .int .u64 x.sd] S) by have q := HB.out; unfold carA at q; rw [HBR.out] at q; exact q)
 clear HB
 have HB1 := Lib.hid (show Blk w g 30 (el P #[.int .i64 x.ds, .int .i64 x.da, .int .i64 x.un, .int .i64 x.wy, .int .i64 x.ti, .int .i64 x.ju, .int .i64 x.lo, .bool x.bl, .bool false, .int .i64 1, .int .i64 x.ta, .bool x.ho, .int .u64 x.sp, .int .u64 x.su, .int .u64 x.sd] S) by have q := HB0.out; (try unfold carA at q); rw [HMO.out] at q; exact q)
 clear HB0
 refine wp_region_lit ?_
 refine tkL (.pointer (some ⟨g, off, none⟩)) (h := ?_)
 (try simp only [Act.put, sA, sB, sC])
 refine tkL (.pointer (some ⟨g, off, none⟩)) (h := ?_)
 (try simp only [Act.put, sA, sB, sC])
 refine tkL (.pointer (some ⟨g, off + 8, none⟩)) (h := ?_)
 (try simp only [Act.put, sA, sB, sC])
 refine wpList_q (by rfl) (.bool false) ?he ?_
 case he => exact exec_cell 4 _ _ HB1.out (el_at (j := 8) HP.out rfl) rfl rfl Try.underlying4 rfl
 (try simp only [Act.put, sA, sB, sC])
 refine tkL (.bool false) (h := ?_)
 (try simp only [Act.put, sA, sB, sC])
 refine tkL (.pointer (some ⟨g, off, none⟩)) (h := ?_)
 (try simp only [Act.put, sA, sB, sC])
 refine tkL (.pointer (some ⟨g, off, none⟩)) (h := ?_)
 (try simp only [Act.put, sA, sB, sC])
 refine tkL (.pointer (some ⟨g, off + 9, none⟩)) (h := ?_)
 (try simp only [Act.put, sA, sB, sC])
 refine wpList_q (by rfl) (.int .i64 1) ?he ?_
 case he => exact exec_cell 3 _ _ HB1.out (el_at (j := 9) HP.out rfl) rfl rfl Try.underlying3 rfl
 (try simp only [Act.put, sA, sB, sC])
 refine wpList_q (by rfl) (.bool true) ?he ?_
 case he => (go_simp; (try with_reducible rfl))
 (try simp only [Act.put, sA, sB, sC])
 refine tkL (.bool true) (h := ?_)
 (try simp only [Act.put, sA, sB, sC])
 refine wpList_nil ?_
 go_upto_region 2 with fail
 refine wp_region_lit ?_
 refine tkL (.int .i64 7) (h := ?_)
 (try simp only [Act.put, sA, sB, sC])
 refine wpList_nil ?_
 (try go_wp2_with fail)
 go_ret
 exact ⟨rfl, by have q := HB1.out; unfold carA; rw [HBR.out, HMO.out]; exact q, HSU.out⟩
set_option maxHeartbeats 4000000 in
theorem press1C (g off : Nat) (P S : List Value) (x : CarV) (cp : Nat) (v : Int) (w : World) (hb : Blk w g 30 (el P (carA x) S)) (hp : P.length = off) (hcp : Blk w cp 3 #[.int .i64 v]) (hbr : x.br = false) (hmo : ¬ x.mo = 1) : Calls Try.prog 58 #[.pointer (some ⟨g, off, none⟩), .pointer (some ⟨cp, 0, none⟩)] w fun e w' => e = .returned (.int .i64 0) ∧ Blk w' g 30 (el P (carA { x with sp := bits .or .u64 x.sp (bit v) }) S) ∧ Upd [g] w w' := by
 have HB := Lib.hid hb
 clear hb
 have HP := Lib.hid hp
 clear hp
 have HCP := Lib.hid hcp
 clear hcp
 have HBR := Lib.hid hbr
 clear hbr
 have HMO := Lib.hid hmo
 clear hmo
 have HNcp := Lib.hid (Blk.ne_ HCP.out HB.out (by decide))
 go_enter Try.func58, Try.ntmps58
 go_upto_region 1 with fail
 have HSU := Lib.hid (Upd.refl [g] w)
 have HB0 := Lib.hid (show Blk w g 30 (el P #[.int .i64 x.ds, .int .i64 x.da, .int .i64 x.un, .int .i64 x.wy, .int .i64 x.ti, .int .i64 x.ju, .int .i64 x.lo, .bool x.bl, .bool false, .int .i64 x.mo, .int .i64 x.ta, .bool x.ho, .int .u64 x.sp, .int .u64 x.su, .int .u64 x.sd] S) by have q := HB.out; unfold carA at q; rw [HBR.out] at q; exact q)
 clear HB
 refine wp_region_lit ?_
 refine tkL (.pointer (some ⟨g, off, none⟩)) (h := ?_)
 (try simp only [Act.put, sA, sB, sC])
 refine tkL (.pointer (some ⟨g, off, none⟩)) (h := ?_)
 (try simp only [Act.put, sA, sB, sC])
 refine tkL (.pointer (some ⟨g, off + 8, none⟩)) (h := ?_)
 (try simp only [Act.put, sA, sB, sC])
 refine wpList_q (by rfl) (.bool false) ?he ?_
 case he => exact exec_cell 4 _ _ HB0.out (el_at (j := 8) HP.out rfl) rfl rfl Try.underlying4 rfl
 (try simp only [Act.put, sA, sB, sC])
 refine tkL (.bool false) (h := ?_)
 (try simp only [Act.put, sA, sB, sC])
 refine tkL (.pointer (some ⟨g, off, none⟩)) (h := ?_)
 (try simp only [Act.put, sA, sB, sC])
 refine tkL (.pointer (some ⟨g, off, none⟩)) (h := ?_)
 (try simp only [Act.put, sA, sB, sC])
 refine tkL (.pointer (some ⟨g, off + 9, none⟩)) (h := ?_)
 (try simp only [Act.put, sA, sB, sC])
 refine wpList_q (by rfl) (.int .i64 x.mo) ?he ?_
 case he => exact exec_cell 3 _ _ HB0.out (el_at (j := 9) HP.out rfl) rfl rfl Try.underlying3 rfl
 (try simp only [Act.put, sA, sB, sC])
 refine wpList_q (by rfl) (.bool false) ?he ?_
 case he => (have q0 := HMO.out; go_simp; (first | done | rfl | omega))
 (try simp only [Act.put, sA, sB, sC])
 refine tkL (.bool false) (h := ?_)
 (try simp only [Act.put, sA, sB, sC])
 refine wpList_nil ?_
 go_upto_region 3 with fail
 have HKS : Hid (KeepS (fun W : World => Upd [g] w W ∧ HasRow W g 30 (P.length + 15 + S.length) ∧ Blk W cp 3 #[.int .i64 v]) w) := Lib.hid ⟨fun W W' k ⟨h, h0, h1⟩ => ⟨h.trans k, HasRow.keep k h0, keep_blk k h1⟩, ⟨HSU.out, HasRow.of HB0.out el_size, HCP.out⟩⟩
 have HRK := Lib.hid HKS.out.1
 have HPE := Lib.hid (show Blk (World.drew w) g 30 (el P #[.int .i64 x.ds, .int .i64 x.da, .int .i64 x.un, .int .i64 x.wy, .int .i64 x.ti, .int .i64 x.ju, .int .i64 x.lo, .bool x.bl, .bool false, .int .i64 x.mo, .int .i64 x.ta, .bool x.ho, .int .u64 x.sp, .int .u64 x.su, .int .u64 x.sd] S) from HB0.out)
 refine wp_held HKS.out (by kernel_rfl) (fun hHeld => ?_)
 refine tkQ 0 (.pointer (some ⟨g, off, none⟩)) hHeld (h := ?_)
 (try simp only [Act.put, sA, sB, sC])
 refine tkQ 1 (.pointer (some ⟨g, off, none⟩)) hHeld (h := ?_)
 (try simp only [Act.put, sA, sB, sC])
 refine tkQ 2 (.pointer (some ⟨g, off, none⟩)) hHeld (h := ?_)
 (try simp only [Act.put, sA, sB, sC])
 refine tkQ 3 (.pointer (some ⟨g, off + 12, none⟩)) hHeld (h := ?_)
 (try simp only [Act.put, sA, sB, sC])
 refine tkQ 5 (.int .i64 v) hHeld (he := by intro w hSw; exact exec_cell 3 _ _ hSw.2.2 rfl rfl rfl Try.underlying3 rfl) (h := ?_)
 (try simp only [Act.put, sA, sB, sC])
 refine wpAnyH_ready (rs := [4]) (by kernel_rfl) (by simp) ?_
 refine AllReadyH.cons (o := ?o3__4) ?h3__4 (fun K hK => ?_) AllReadyH.nil
 case h3__4 => (first | (simp only [gA, gB, gC]; done) | (simp only [gA, gB, gC]; exact rfl))
 rw [if_pos (by rfl)]
 refine wp_q (.agg #[.int .u64 x.sp, .int .u64 x.su, .int .u64 x.sd]) ?e3__4 ?_
 case e3__4 => exact exec_part (n := 3) 28 _ _ HPE.out (el_part (j := 12) HP.out rfl (by show 12 + 3 ≤ 15; decide)) rfl rfl rfl Try.underlying28 rfl (by kernel_rfl)
 refine hK.out _ _ hHeld (fun hHeld2 => ?_)
 clear hK K hHeld2
 (try simp only [Act.put, sA, sB, sC])
 refine wpAnyH_ready (rs := [6]) (by kernel_rfl) (by simp) ?_
 refine AllReadyH.cons (o := ?o3__6) ?h3__6 (fun K hK => ?_) AllReadyH.nil
 case h3__6 => (first | (simp only [gA, gB, gC]; done) | (simp only [gA, gB, gC]; exact rfl))
 (try go_simp)
 refine (pressT x.sp x.su x.sd v _).mono ?_
 rintro e w2 ⟨rfl, hb⟩
 (try go_wp2_with fail)
 refine hK.out _ _ (by (apply HRK.out; exact hb; exact hHeld)) (fun hHeld2 => ?_)
 have HPEk := Lib.hid (keep_blk hb HPE.out)
 clear HPE
 clear hK K hHeld hb
 have hHeld := hHeld2
 clear hHeld2
 (try simp only [Act.put, sA, sB, sC])
 refine tkQ 7 (.pointer (some ⟨g, off, none⟩)) hHeld (h := ?_)
 (try simp only [Act.put, sA, sB, sC])
 refine tkQ 8 (.pointer (some ⟨g, off + 12, none⟩)) hHeld (h := ?_)
 (try simp only [Act.put, sA, sB, sC])
 refine wpAnyH_ready (rs := [9]) (by kernel_rfl) (by simp) ?_
 refine AllReadyH.cons (o := ?o3__9) ?h3__9 (fun K hK => ?_) AllReadyH.nil
 case h3__9 => (first | (simp only [gA, gB, gC]; done) | (simp only [gA, gB, gC]; exact rfl))
 rw [if_pos (by rfl)]
 refine wp_st_part 28 _ _ rfl (el P #[.int .i64 x.ds, .int .i64 x.da, .int .i64 x.un, .int .i64 x.wy, .int .i64 x.ti, .int .i64 x.ju, .int .i64 x.lo, .bool x.bl, .bool false, .int .i64 x.mo, .int .i64 x.ta, .bool x.ho, .int .u64 (bits .or .u64 x.sp (bit v)), .int .u64 x.su, .int .u64 x.sd] S) (#[.int .u64 (bits .or .u64 x.sp (bit v)), .int .u64 x.su, .int .u64 x.sd]) rfl rfl HPEk.out (el_le (j := 12) HP.out (by show 12 + 3 ≤ 15; decide)) (el_put (j := 12) HP.out (by show 12 + 3 ≤ 15; decide) rfl) (by simp [cfgA, carA, waitA, grpA, Value.oneCell']) (by kernel_rfl) ?_
 clear HPEk
 intro w3 hw
 have HRE := Lib.hid (show Blk w3 g 30 (el P #[.int .i64 x.ds, .int .i64 x.da, .int .i64 x.un, .int .i64 x.wy, .int .i64 x.ti, .int .i64 x.ju, .int .i64 x.lo, .bool x.bl, .bool false, .int .i64 x.mo, .int .i64 x.ta, .bool x.ho, .int .u64 (bits .or .u64 x.sp (bit v)), .int .u64 x.su, .int .u64 x.sd] S) by obtain ⟨old, Bo, _⟩ := hHeld.2.1; rw [hw]; exact Blk.row Bo _)
 have hHeld3 := HKS.out.at_ w3 ⟨by rw [hw]; exact Upd.setRow hHeld.1 (.inl (by simp)) _, HasRow.of HRE.out el_size, by rw [hw]; exact Blk.row_far (hHeld.2.2) HNcp.out _⟩
 refine hK.out _ _ hHeld3 (fun hHeld2 => ?_)
 clear hK K hHeld hHeld3 hw
 have hHeld := hHeld2
 clear hHeld2
 (try simp only [Act.put, sA, sB, sC])
 refine wpAnyH_done (by kernel_rfl) ?_ _
 have HSd3 := Lib.hid hHeld.1
 have HBEd3 := Lib.hid HRE.out
 clear HRE
 have HBcpd3 := Lib.hid (hHeld.2.2)
 clear hHeld HRK HKS HSU HB0 HCP
 go_upto_region 4 with fail
 refine wp_region_lit ?_
 refine tkL (.int .i64 0) (h := ?_)
 (try simp only [Act.put, sA, sB, sC])
 refine wpList_nil ?_
 (try go_wp2_with fail)
 go_ret
 exact ⟨rfl, by have q := HBEd3.out; unfold carA; rw [show ({ x with sp := bits .or .u64 x.sp (bit v) } : CarV).br = false from HBR.out]; exact q, HSd3.out⟩
def pressX (v : Int) (x : CarV) : CarV := if x.br = true ∨ x.mo = 1 then x else { x with sp := bits .or .u64 x.sp (bit v) }
def pressE (x : CarV) : Int := if x.br = true ∨ x.mo = 1 then 7 else 0
theorem press1T (g off : Nat) (P S : List Value) (x : CarV) (cp : Nat) (v : Int) (w : World) (hb : Blk w g 30 (el P (carA x) S)) (hp : P.length = off) (hcp : Blk w cp 3 #[.int .i64 v]) : Calls Try.prog 58 #[.pointer (some ⟨g, off, none⟩), .pointer (some ⟨cp, 0, none⟩)] w fun e w' => e = .returned (.int .i64 (pressE x)) ∧ Blk w' g 30 (el P (carA (pressX v x)) S) ∧ Upd [g] w w' := by
  unfold pressE pressX
  by_cases hbr : x.br = true
  · rw [if_pos (.inl hbr), if_pos (.inl hbr)]; exact press1A g off P S x cp v w hb hp hcp hbr
  · by_cases hmo : x.mo = 1
    · rw [if_pos (.inr hmo), if_pos (.inr hmo)]; exact press1B g off P S x cp v w hb hp hcp (by simpa using hbr) hmo
    · rw [if_neg (by simp [hmo, hbr]), if_neg (by simp [hmo, hbr])]
      exact press1C g off P S x cp v w hb hp hcp (by simpa using hbr) hmo
set_option maxHeartbeats 4000000 in
theorem take1A (g off : Nat) (P S : List Value) (x : CarV) (cp : Nat) (v : Int) (w : World) (hb : Blk w g 30 (el P (carA x) S)) (hp : P.length = off) (hcp : Blk w cp 3 #[.int .i64 v]) (hi : Calls Try.prog 65 #[.agg (carA x)] w fun e w' => e = .returned (.bool true) ∧ Since w w') : Calls Try.prog 64 #[.pointer (some ⟨g, off, none⟩), .pointer (some ⟨cp, 0, none⟩)] w fun e w' => e = .returned (.int .i64 0) ∧ Blk w' g 30 (el P (carA { x with mo := 1, ta := v, ho := true }) S) ∧ Upd [g] w w' := by
 have HB := Lib.hid hb
 clear hb
 have HP := Lib.hid hp
 clear hp
 have HCP := Lib.hid hcp
 clear hcp
 have HI := Lib.hid hi
 clear hi
 have HNcp := Lib.hid (Blk.ne_ HCP.out HB.out (by decide))
 go_enter Try.func64, Try.ntmps64
 go_upto_region 1 with fail
 have HSU := Lib.hid (Upd.refl [g] w)
 refine wp_region_lit ?_
 refine tkL (.pointer (some ⟨g, off, none⟩)) (h := ?_)
 (try simp only [Act.put, sA, sB, sC])
 refine tkL (.pointer (some ⟨g, off, none⟩)) (h := ?_)
 (try simp only [Act.put, sA, sB, sC])
 refine wpList_q (by rfl) (.agg (carA x)) ?he ?_
 case he => exact exec_part (n := 15) 30 _ _ HB.out (el_part (j := 0) HP.out rfl (by show 0 + 15 ≤ 15; decide)) rfl rfl rfl Try.underlying30 rfl (by kernel_rfl)
 (try simp only [Act.put, sA, sB, sC])
 refine wpList_wp (by rfl) (fun K hK => ?_)
 (try go_simp)
 refine (HI.out).mono ?_
 rintro e w2 ⟨rfl, hb⟩
 (try go_wp2_with fail)
 refine hK.out _ _ ?_
 clear hK K
 (try simp only [Act.put, sA, sB, sC])
 have HS2 := Lib.hid (Upd.trans HSU.out hb)
 have HBE2 := Lib.hid (keep_blk hb HB.out)
 have HBcp2 := Lib.hid (keep_blk hb HCP.out)
 clear HSU HB HCP
 clear hb
 refine wpList_q (by rfl) (.bool false) ?he ?_
 case he => (go_simp; (try with_reducible rfl))
 (try simp only [Act.put, sA, sB, sC])
 refine wpList_nil ?_
 go_upto_region 3 with fail
 have HKS : Hid (KeepS (fun W : World => Upd [g] w W ∧ HasRow W g 30 (P.length + 15 + S.length) ∧ Blk W cp 3 #[.int .i64 v]) w2) := Lib.hid ⟨fun W W' k ⟨h, h0, h1⟩ => ⟨h.trans k, HasRow.keep k h0, keep_blk k h1⟩, ⟨HS2.out, HasRow.of HBE2.out el_size, HBcp2.out⟩⟩
 have HRK := Lib.hid HKS.out.1
 have HPE := Lib.hid (show Blk (World.drew w2) g 30 (el P (carA x) S) from HBE2.out)
 refine wp_held HKS.out (by kernel_rfl) (fun hHeld => ?_)
 refine tkQ 0 (.pointer (some ⟨g, off, none⟩)) hHeld (h := ?_)
 (try simp only [Act.put, sA, sB, sC])
 refine tkQ 1 (.pointer (some ⟨g, off, none⟩)) hHeld (h := ?_)
 (try simp only [Act.put, sA, sB, sC])
 refine tkQ 2 (.pointer (some ⟨g, off, none⟩)) hHeld (h := ?_)
 (try simp only [Act.put, sA, sB, sC])
 refine tkQ 3 (.int .i64 v) hHeld (he := by intro w hSw; exact exec_cell 3 _ _ hSw.2.2 rfl rfl rfl Try.underlying3 rfl) (h := ?_)
 (try simp only [Act.put, sA, sB, sC])
 refine tkQ 4 (.pointer (some ⟨g, off, none⟩)) hHeld (h := ?_)
 (try simp only [Act.put, sA, sB, sC])
 refine tkQ 5 (.pointer (some ⟨g, off + 9, none⟩)) hHeld (h := ?_)
 (try simp only [Act.put, sA, sB, sC])
 refine wpAnyH_ready (rs := [6]) (by kernel_rfl) (by simp) ?_
 refine AllReadyH.cons (o := ?o3__6) ?h3__6 (fun K hK => ?_) AllReadyH.nil
 case h3__6 => (first | (simp only [gA, gB, gC]; done) | (simp only [gA, gB, gC]; exact rfl))
 rw [if_pos (by rfl)]
 refine wp_st_cell 3 _ _ rfl (el P #[.int .i64 x.ds, .int .i64 x.da, .int .i64 x.un, .int .i64 x.wy, .int .i64 x.ti, .int .i64 x.ju, .int .i64 x.lo, .bool x.bl, .bool x.br, .int .i64 1, .int .i64 x.ta, .bool x.ho, .int .u64 x.sp, .int .u64 x.su, .int .u64 x.sd] S) (.int .i64 1) rfl rfl HPE.out (el_lt (j := 9) HP.out (by show 9 < 15; decide)) (el_set (j := 9) HP.out (by show 9 < 15; decide) rfl) (by first | rfl | simp [Value.oneCell']) (by kernel_rfl) ?_
 clear HPE
 intro w3 hw
 have HRE := Lib.hid (show Blk w3 g 30 (el P #[.int .i64 x.ds, .int .i64 x.da, .int .i64 x.un, .int .i64 x.wy, .int .i64 x.ti, .int .i64 x.ju, .int .i64 x.lo, .bool x.bl, .bool x.br, .int .i64 1, .int .i64 x.ta, .bool x.ho, .int .u64 x.sp, .int .u64 x.su, .int .u64 x.sd] S) by obtain ⟨old, Bo, _⟩ := hHeld.2.1; rw [hw]; exact Blk.row Bo _)
 have hHeld3 := HKS.out.at_ w3 ⟨by rw [hw]; exact Upd.setRow hHeld.1 (.inl (by simp)) _, HasRow.of HRE.out el_size, by rw [hw]; exact Blk.row_far (hHeld.2.2) HNcp.out _⟩
 refine hK.out _ _ hHeld3 (fun hHeld2 => ?_)
 clear hK K hHeld hHeld3 hw
 have hHeld := hHeld2
 clear hHeld2
 (try simp only [Act.put, sA, sB, sC])
 refine tkQ 7 (.pointer (some ⟨g, off, none⟩)) hHeld (h := ?_)
 (try simp only [Act.put, sA, sB, sC])
 refine tkQ 8 (.pointer (some ⟨g, off + 10, none⟩)) hHeld (h := ?_)
 (try simp only [Act.put, sA, sB, sC])
 refine wpAnyH_ready (rs := [9]) (by kernel_rfl) (by simp) ?_
 refine AllReadyH.cons (o := ?o3__9) ?h3__9 (fun K hK => ?_) AllReadyH.nil
 case h3__9 => (first | (simp only [gA, gB, gC]; done) | (simp only [gA, gB, gC]; exact rfl))
 rw [if_pos (by rfl)]
 refine wp_st_cell 3 _ _ rfl (el P #[.int .i64 x.ds, .int .i64 x.da, .int .i64 x.un, .int .i64 x.wy, .int .i64 x.ti, .int .i64 x.ju, .int .i64 x.lo, .bool x.bl, .bool x.br, .int .i64 1, .int .i64 v, .bool x.ho, .int .u64 x.sp, .int .u64 x.su, .int .u64 x.sd] S) (.int .i64 v) rfl rfl HRE.out (el_lt (j := 10) HP.out (by show 10 < 15; decide)) (el_set (j := 10) HP.out (by show 10 < 15; decide) rfl) (by first | rfl | simp [Value.oneCell']) (by kernel_rfl) ?_
 clear HRE
 intro w4 hw
 have HRE := Lib.hid (show Blk w4 g 30 (el P #[.int .i64 x.ds, .int .i64 x.da, .int .i64 x.un, .int .i64 x.wy, .int .i64 x.ti, .int .i64 x.ju, .int .i64 x.lo, .bool x.bl, .bool x.br, .int .i64 1, .int .i64 v, .bool x.ho, .int .u64 x.sp, .int .u64 x.su, .int .u64 x.sd] S) by obtain ⟨old, Bo, _⟩ := hHeld.2.1; rw [hw]; exact Blk.row Bo _)
 have hHeld3 := HKS.out.at_ w4 ⟨by rw [hw]; exact Upd.setRow hHeld.1 (.inl (by simp)) _, HasRow.of HRE.out el_size, by rw [hw]; exact Blk.row_far (hHeld.2.2) HNcp.out _⟩
 refine hK.out _ _ hHeld3 (fun hHeld2 => ?_)
 clear hK K hHeld hHeld3 hw
 have hHeld := hHeld2
 clear hHeld2
 (try simp only [Act.put, sA, sB, sC])
 refine tkQ 10 (.pointer (some ⟨g, off, none⟩)) hHeld (h := ?_)
 (try simp only [Act.put, sA, sB, sC])
 refine tkQ 11 (.pointer (some ⟨g, off + 11, none⟩)) hHeld (h := ?_)
 (try simp only [Act.put, sA, sB, sC])
 refine wpAnyH_ready (rs := [12]) (by kernel_rfl) (by simp) ?_
 refine AllReadyH.cons (o := ?o3__12) ?h3__12 (fun K hK => ?_) AllReadyH.nil
 case h3__12 => (first | (simp only [gA, gB, gC]; done) | (simp only [gA, gB, gC]; exact rfl))
 rw [if_pos (by rfl)]
 refine wp_st_cell 4 _ _ rfl (el P #[.int .i64 x.ds, .int .i64 x.da, .int .i64 x.un, .int .i64 x.wy, .int .i64 x.ti, .int .i64 x.ju, .int .i64 x.lo, .bool x.bl, .bool x.br, .int .i64 1, .int .i64 v, .bool true, .int .u64 x.sp, .int .u64 x.su, .int .u64 x.sd] S) (.bool true) rfl rfl HRE.out (el_lt (j := 11) HP.out (by show 11 < 15; decide)) (el_set (j := 11) HP.out (by show 11 < 15; decide) rfl) (by first | rfl | simp [Value.oneCell']) (by kernel_rfl) ?_
 clear HRE
 intro w5 hw
 have HRE := Lib.hid (show Blk w5 g 30 (el P #[.int .i64 x.ds, .int .i64 x.da, .int .i64 x.un, .int .i64 x.wy, .int .i64 x.ti, .int .i64 x.ju, .int .i64 x.lo, .bool x.bl, .bool x.br, .int .i64 1, .int .i64 v, .bool true, .int .u64 x.sp, .int .u64 x.su, .int .u64 x.sd] S) by obtain ⟨old, Bo, _⟩ := hHeld.2.1; rw [hw]; exact Blk.row Bo _)
 have hHeld3 := HKS.out.at_ w5 ⟨by rw [hw]; exact Upd.setRow hHeld.1 (.inl (by simp)) _, HasRow.of HRE.out el_size, by rw [hw]; exact Blk.row_far (hHeld.2.2) HNcp.out _⟩
 refine hK.out _ _ hHeld3 (fun hHeld2 => ?_)
 clear hK K hHeld hHeld3 hw
 have hHeld := hHeld2
 clear hHeld2
 (try simp only [Act.put, sA, sB, sC])
 refine wpAnyH_done (by kernel_rfl) ?_ _
 have HSd3 := Lib.hid hHeld.1
 have HBEd3 := Lib.hid HRE.out
 clear HRE
 have HBcpd3 := Lib.hid (hHeld.2.2)
 clear hHeld HRK HKS HS2 HBE2 HBcp2
 go_upto_region 4 with fail
 refine wp_region_lit ?_
 refine tkL (.int .i64 0) (h := ?_)
 (try simp only [Act.put, sA, sB, sC])
 refine wpList_nil ?_
 (try go_wp2_with fail)
 go_ret
 exact ⟨rfl, HBEd3.out, HSd3.out⟩
set_option maxHeartbeats 4000000 in
theorem take1B (g off : Nat) (P S : List Value) (x : CarV) (cp : Nat) (v : Int) (w : World) (hb : Blk w g 30 (el P (carA x) S)) (hp : P.length = off) (hcp : Blk w cp 3 #[.int .i64 v]) (hi : Calls Try.prog 65 #[.agg (carA x)] w fun e w' => e = .returned (.bool false) ∧ Since w w') : Calls Try.prog 64 #[.pointer (some ⟨g, off, none⟩), .pointer (some ⟨cp, 0, none⟩)] w fun e w' => e = .returned (.int .i64 7) ∧ Blk w' g 30 (el P (carA x) S) ∧ Upd [g] w w' := by
 have HB := Lib.hid hb
 clear hb
 have HP := Lib.hid hp
 clear hp
 have HCP := Lib.hid hcp
 clear hcp
 have HI := Lib.hid hi
 clear hi
 have HNcp := Lib.hid (Blk.ne_ HCP.out HB.out (by decide))
 go_enter Try.func64, Try.ntmps64
 go_upto_region 1 with fail
 have HSU := Lib.hid (Upd.refl [g] w)
 refine wp_region_lit ?_
 refine tkL (.pointer (some ⟨g, off, none⟩)) (h := ?_)
 (try simp only [Act.put, sA, sB, sC])
 refine tkL (.pointer (some ⟨g, off, none⟩)) (h := ?_)
 (try simp only [Act.put, sA, sB, sC])
 refine wpList_q (by rfl) (.agg (carA x)) ?he ?_
 case he => exact exec_part (n := 15) 30 _ _ HB.out (el_part (j := 0) HP.out rfl (by show 0 + 15 ≤ 15; decide)) rfl rfl rfl Try.underlying30 rfl (by kernel_rfl)
 (try simp only [Act.put, sA, sB, sC])
 refine wpList_wp (by rfl) (fun K hK => ?_)
 (try go_simp)
 refine (HI.out).mono ?_
 rintro e w2 ⟨rfl, hb⟩
 (try go_wp2_with fail)
 refine hK.out _ _ ?_
 clear hK K
 (try simp only [Act.put, sA, sB, sC])
 have HS2 := Lib.hid (Upd.trans HSU.out hb)
 have HBE2 := Lib.hid (keep_blk hb HB.out)
 have HBcp2 := Lib.hid (keep_blk hb HCP.out)
 clear HSU HB HCP
 clear hb
 refine wpList_q (by rfl) (.bool true) ?he ?_
 case he => (go_simp; (try with_reducible rfl))
 (try simp only [Act.put, sA, sB, sC])
 refine wpList_nil ?_
 go_upto_region 2 with fail
 refine wp_region_lit ?_
 refine tkL (.int .i64 7) (h := ?_)
 (try simp only [Act.put, sA, sB, sC])
 refine wpList_nil ?_
 (try go_wp2_with fail)
 go_ret
 exact ⟨rfl, HBE2.out, HS2.out⟩
set_option maxHeartbeats 4000000 in
theorem aim1A (g off : Nat) (P S : List Value) (x : CarV) (cp : Nat) (cq : Nat) (v : Int) (u : Bool) (w : World) (hb : Blk w g 30 (el P (carA x) S)) (hp : P.length = off) (hcp : Blk w cp 3 #[.int .i64 v]) (hcq : Blk w cq 4 #[.bool u]) (hmo : x.mo = 1) : Calls Try.prog 66 #[.pointer (some ⟨g, off, none⟩), .pointer (some ⟨cp, 0, none⟩), .pointer (some ⟨cq, 0, none⟩)] w fun e w' => e = .returned (.int .i64 0) ∧ Blk w' g 30 (el P (carA { x with ta := v, ho := u }) S) ∧ Upd [g] w w' := by
 have HB := Lib.hid hb
 clear hb
 have HP := Lib.hid hp
 clear hp
 have HCP := Lib.hid hcp
 clear hcp
 have HCQ := Lib.hid hcq
 clear hcq
 have HMO := Lib.hid hmo
 clear hmo
 have HNcp := Lib.hid (Blk.ne_ HCP.out HB.out (by decide))
 have HNcq := Lib.hid (Blk.ne_ HCQ.out HB.out (by decide))
 go_enter Try.func66, Try.ntmps66
 go_upto_region 1 with fail
 have HSU := Lib.hid (Upd.refl [g] w)
 refine wp_region_lit ?_
 refine tkL (.pointer (some ⟨g, off, none⟩)) (h := ?_)
 (try simp only [Act.put, sA, sB, sC])
 refine tkL (.pointer (some ⟨g, off, none⟩)) (h := ?_)
 (try simp only [Act.put, sA, sB, sC])
 refine tkL (.pointer (some ⟨g, off + 9, none⟩)) (h := ?_)
 (try simp only [Act.put, sA, sB, sC])
 refine wpList_q (by rfl) (.int .i64 x.mo) ?he ?_
 case he => exact exec_cell 3 _ _ HB.out (el_at (j := 9) HP.out rfl) rfl rfl Try.underlying3 rfl
 (try simp only [Act.put, sA, sB, sC])
 refine wpList_q (by rfl) (.bool false) ?he ?_
 case he => (have q0 := HMO.out; go_simp; (first | done | rfl | omega))
 (try simp only [Act.put, sA, sB, sC])
 refine wpList_nil ?_
 go_upto_region 3 with fail
 have HKS : Hid (KeepS (fun W : World => Upd [g] w W ∧ HasRow W g 30 (P.length + 15 + S.length) ∧ Blk W cp 3 #[.int .i64 v] ∧ Blk W cq 4 #[.bool u]) w) := Lib.hid ⟨fun W W' k ⟨h, h0, h1, h2⟩ => ⟨h.trans k, HasRow.keep k h0, keep_blk k h1, keep_blk k h2⟩, ⟨HSU.out, HasRow.of HB.out el_size, HCP.out, HCQ.out⟩⟩
 have HRK := Lib.hid HKS.out.1
 have HPE := Lib.hid (show Blk (World.drew w) g 30 (el P (carA x) S) from HB.out)
 refine wp_held HKS.out (by kernel_rfl) (fun hHeld => ?_)
 refine tkQ 0 (.pointer (some ⟨g, off, none⟩)) hHeld (h := ?_)
 (try simp only [Act.put, sA, sB, sC])
 refine tkQ 1 (.pointer (some ⟨g, off, none⟩)) hHeld (h := ?_)
 (try simp only [Act.put, sA, sB, sC])
 refine tkQ 2 (.int .i64 v) hHeld (he := by intro w hSw; exact exec_cell 3 _ _ hSw.2.2.1 rfl rfl rfl Try.underlying3 rfl) (h := ?_)
 (try simp only [Act.put, sA, sB, sC])
 refine tkQ 3 (.bool u) hHeld (he := by intro w hSw; exact exec_cell 4 _ _ hSw.2.2.2 rfl rfl rfl Try.underlying4 rfl) (h := ?_)
 (try simp only [Act.put, sA, sB, sC])
 refine tkQ 4 (.pointer (some ⟨g, off, none⟩)) hHeld (h := ?_)
 (try simp only [Act.put, sA, sB, sC])
 refine tkQ 5 (.pointer (some ⟨g, off + 10, none⟩)) hHeld (h := ?_)
 (try simp only [Act.put, sA, sB, sC])
 refine wpAnyH_ready (rs := [6]) (by kernel_rfl) (by simp) ?_
 refine AllReadyH.cons (o := ?o3__6) ?h3__6 (fun K hK => ?_) AllReadyH.nil
 case h3__6 => (first | (simp only [gA, gB, gC]; done) | (simp only [gA, gB, gC]; exact rfl))
 rw [if_pos (by rfl)]
 refine wp_st_cell 3 _ _ rfl (el P #[.int .i64 x.ds, .int .i64 x.da, .int .i64 x.un, .int .i64 x.wy, .int .i64 x.ti, .int .i64 x.ju, .int .i64 x.lo, .bool x.bl, .bool x.br, .int .i64 x.mo, .int .i64 v, .bool x.ho, .int .u64 x.sp, .int .u64 x.su, .int .u64 x.sd] S) (.int .i64 v) rfl rfl HPE.out (el_lt (j := 10) HP.out (by show 10 < 15; decide)) (el_set (j := 10) HP.out (by show 10 < 15; decide) rfl) (by first | rfl | simp [Value.oneCell']) (by kernel_rfl) ?_
 clear HPE
 intro w2 hw
 have HRE := Lib.hid (show Blk w2 g 30 (el P #[.int .i64 x.ds, .int .i64 x.da, .int .i64 x.un, .int .i64 x.wy, .int .i64 x.ti, .int .i64 x.ju, .int .i64 x.lo, .bool x.bl, .bool x.br, .int .i64 x.mo, .int .i64 v, .bool x.ho, .int .u64 x.sp, .int .u64 x.su, .int .u64 x.sd] S) by obtain ⟨old, Bo, _⟩ := hHeld.2.1; rw [hw]; exact Blk.row Bo _)
 have hHeld3 := HKS.out.at_ w2 ⟨by rw [hw]; exact Upd.setRow hHeld.1 (.inl (by simp)) _, HasRow.of HRE.out el_size, by rw [hw]; exact Blk.row_far (hHeld.2.2.1) HNcp.out _, by rw [hw]; exact Blk.row_far (hHeld.2.2.2) HNcq.out _⟩
 refine hK.out _ _ hHeld3 (fun hHeld2 => ?_)
 clear hK K hHeld hHeld3 hw
 have hHeld := hHeld2
 clear hHeld2
 (try simp only [Act.put, sA, sB, sC])
 refine tkQ 7 (.pointer (some ⟨g, off, none⟩)) hHeld (h := ?_)
 (try simp only [Act.put, sA, sB, sC])
 refine tkQ 8 (.pointer (some ⟨g, off + 11, none⟩)) hHeld (h := ?_)
 (try simp only [Act.put, sA, sB, sC])
 refine wpAnyH_ready (rs := [9]) (by kernel_rfl) (by simp) ?_
 refine AllReadyH.cons (o := ?o3__9) ?h3__9 (fun K hK => ?_) AllReadyH.nil
 case h3__9 => (first | (simp only [gA, gB, gC]; done) | (simp only [gA, gB, gC]; exact rfl))
 rw [if_pos (by rfl)]
 refine wp_st_cell 4 _ _ rfl (el P #[.int .i64 x.ds, .int .i64 x.da, .int .i64 x.un, .int .i64 x.wy, .int .i64 x.ti, .int .i64 x.ju, .int .i64 x.lo, .bool x.bl, .bool x.br, .int .i64 x.mo, .int .i64 v, .bool u, .int .u64 x.sp, .int .u64 x.su, .int .u64 x.sd] S) (.bool u) rfl rfl HRE.out (el_lt (j := 11) HP.out (by show 11 < 15; decide)) (el_set (j := 11) HP.out (by show 11 < 15; decide) rfl) (by first | rfl | simp [Value.oneCell']) (by kernel_rfl) ?_
 clear HRE
 intro w3 hw
 have HRE := Lib.hid (show Blk w3 g 30 (el P #[.int .i64 x.ds, .int .i64 x.da, .int .i64 x.un, .int .i64 x.wy, .int .i64 x.ti, .int .i64 x.ju, .int .i64 x.lo, .bool x.bl, .bool x.br, .int .i64 x.mo, .int .i64 v, .bool u, .int .u64 x.sp, .int .u64 x.su, .int .u64 x.sd] S) by obtain ⟨old, Bo, _⟩ := hHeld.2.1; rw [hw]; exact Blk.row Bo _)
 have hHeld3 := HKS.out.at_ w3 ⟨by rw [hw]; exact Upd.setRow hHeld.1 (.inl (by simp)) _, HasRow.of HRE.out el_size, by rw [hw]; exact Blk.row_far (hHeld.2.2.1) HNcp.out _, by rw [hw]; exact Blk.row_far (hHeld.2.2.2) HNcq.out _⟩
 refine hK.out _ _ hHeld3 (fun hHeld2 => ?_)
 clear hK K hHeld hHeld3 hw
 have hHeld := hHeld2
 clear hHeld2
 (try simp only [Act.put, sA, sB, sC])
 refine wpAnyH_done (by kernel_rfl) ?_ _
 have HSd3 := Lib.hid hHeld.1
 have HBEd3 := Lib.hid HRE.out
 clear HRE
 have HBcpd3 := Lib.hid (hHeld.2.2.1)
 have HBcqd3 := Lib.hid (hHeld.2.2.2)
 clear hHeld HRK HKS HSU HB HCP HCQ
 go_upto_region 4 with fail
 refine wp_region_lit ?_
 refine tkL (.int .i64 0) (h := ?_)
 (try simp only [Act.put, sA, sB, sC])
 refine wpList_nil ?_
 (try go_wp2_with fail)
 go_ret
 exact ⟨rfl, HBEd3.out, HSd3.out⟩
set_option maxHeartbeats 4000000 in
theorem aim1B (g off : Nat) (P S : List Value) (x : CarV) (cp : Nat) (cq : Nat) (v : Int) (u : Bool) (w : World) (hb : Blk w g 30 (el P (carA x) S)) (hp : P.length = off) (hcp : Blk w cp 3 #[.int .i64 v]) (hcq : Blk w cq 4 #[.bool u]) (hmo : ¬ x.mo = 1) : Calls Try.prog 66 #[.pointer (some ⟨g, off, none⟩), .pointer (some ⟨cp, 0, none⟩), .pointer (some ⟨cq, 0, none⟩)] w fun e w' => e = .returned (.int .i64 7) ∧ Blk w' g 30 (el P (carA x) S) ∧ Upd [g] w w' := by
 have HB := Lib.hid hb
 clear hb
 have HP := Lib.hid hp
 clear hp
 have HCP := Lib.hid hcp
 clear hcp
 have HCQ := Lib.hid hcq
 clear hcq
 have HMO := Lib.hid hmo
 clear hmo
 have HNcp := Lib.hid (Blk.ne_ HCP.out HB.out (by decide))
 have HNcq := Lib.hid (Blk.ne_ HCQ.out HB.out (by decide))
 go_enter Try.func66, Try.ntmps66
 go_upto_region 1 with fail
 have HSU := Lib.hid (Upd.refl [g] w)
 refine wp_region_lit ?_
 refine tkL (.pointer (some ⟨g, off, none⟩)) (h := ?_)
 (try simp only [Act.put, sA, sB, sC])
 refine tkL (.pointer (some ⟨g, off, none⟩)) (h := ?_)
 (try simp only [Act.put, sA, sB, sC])
 refine tkL (.pointer (some ⟨g, off + 9, none⟩)) (h := ?_)
 (try simp only [Act.put, sA, sB, sC])
 refine wpList_q (by rfl) (.int .i64 x.mo) ?he ?_
 case he => exact exec_cell 3 _ _ HB.out (el_at (j := 9) HP.out rfl) rfl rfl Try.underlying3 rfl
 (try simp only [Act.put, sA, sB, sC])
 refine wpList_q (by rfl) (.bool true) ?he ?_
 case he => (have q0 := HMO.out; go_simp; (first | done | rfl | omega))
 (try simp only [Act.put, sA, sB, sC])
 refine wpList_nil ?_
 go_upto_region 2 with fail
 refine wp_region_lit ?_
 refine tkL (.int .i64 7) (h := ?_)
 (try simp only [Act.put, sA, sB, sC])
 refine wpList_nil ?_
 (try go_wp2_with fail)
 go_ret
 exact ⟨rfl, HB.out, HSU.out⟩
set_option maxHeartbeats 4000000 in
theorem give1B (g off : Nat) (P S : List Value) (x : CarV) (cp : Nat) (q : Nat) (G : GrV) (v1 v2 : Value) (w : World) (hb : Blk w g 30 (el P (carA x) S)) (hp : P.length = off) (hcp : Blk w cp 43 #[.pointer (some ⟨q, 0, none⟩)]) (hmo : ¬ x.mo = 1) (hq : Blk w q 67 (grpA G v1 v2)) : Calls Try.prog 67 #[.pointer (some ⟨g, off, none⟩), .pointer (some ⟨cp, 0, none⟩)] w fun e w' => e = .returned (.int .i64 7) ∧ Blk w' g 30 (el P (carA x) S) ∧ Upd [g] w w' := by
 have HB := Lib.hid hb
 clear hb
 have HP := Lib.hid hp
 clear hp
 have HCP := Lib.hid hcp
 clear hcp
 have HMO := Lib.hid hmo
 clear hmo
 have HQ := Lib.hid hq
 clear hq
 have HNcp := Lib.hid (Blk.ne_ HCP.out HB.out (by decide))
 go_enter Try.func67, Try.ntmps67
 go_upto_region 1 with fail
 have HSU := Lib.hid (Upd.refl [g] w)
 have HNQE := Lib.hid (Blk.ne_ HQ.out HB.out (by decide)); have HNQC := Lib.hid (Blk.ne_ HQ.out HCP.out (by decide))
 refine wp_region_lit ?_
 refine tkL (.pointer (some ⟨g, off, none⟩)) (h := ?_)
 (try simp only [Act.put, sA, sB, sC])
 refine tkL (.pointer (some ⟨g, off, none⟩)) (h := ?_)
 (try simp only [Act.put, sA, sB, sC])
 refine tkL (.pointer (some ⟨g, off + 9, none⟩)) (h := ?_)
 (try simp only [Act.put, sA, sB, sC])
 refine wpList_q (by rfl) (.int .i64 x.mo) ?he ?_
 case he => exact exec_cell 3 _ _ HB.out (el_at (j := 9) HP.out rfl) rfl rfl Try.underlying3 rfl
 (try simp only [Act.put, sA, sB, sC])
 refine wpList_q (by rfl) (.bool true) ?he ?_
 case he => (have q0 := HMO.out; go_simp; (first | done | rfl | omega))
 (try simp only [Act.put, sA, sB, sC])
 refine wpList_nil ?_
 go_upto_region 2 with fail
 refine wp_region_lit ?_
 refine tkL (.int .i64 7) (h := ?_)
 (try simp only [Act.put, sA, sB, sC])
 refine wpList_nil ?_
 (try go_wp2_with fail)
 go_ret
 exact ⟨rfl, HB.out, HSU.out⟩
set_option maxHeartbeats 4000000 in
theorem give1A (g off : Nat) (P S : List Value) (x : CarV) (cp : Nat) (q : Nat) (G : GrV) (v1 v2 : Value) (w : World) (hb : Blk w g 30 (el P (carA x) S)) (hp : P.length = off) (hcp : Blk w cp 43 #[.pointer (some ⟨q, 0, none⟩)]) (hmo : x.mo = 1) (hl : lvB x.un = true) (hq : Blk w q 67 (grpA G v1 v2)) : Calls Try.prog 67 #[.pointer (some ⟨g, off, none⟩), .pointer (some ⟨cp, 0, none⟩)] w fun e w' => e = .returned (.int .i64 0) ∧ Blk w' g 30 (el P (carA { x with mo := 0, ta := 0, ho := false, ju := -1, ti := dwV G.c.dw, wy := 0 }) S) ∧ Upd [g] w w' := by
 have HB := Lib.hid hb
 clear hb
 have HP := Lib.hid hp
 clear hp
 have HCP := Lib.hid hcp
 clear hcp
 have HMO := Lib.hid hmo
 clear hmo
 have HL := Lib.hid hl
 clear hl
 have HQ := Lib.hid hq
 clear hq
 have HNcp := Lib.hid (Blk.ne_ HCP.out HB.out (by decide))
 go_enter Try.func67, Try.ntmps67
 go_upto_region 1 with fail
 have HSU := Lib.hid (Upd.refl [g] w)
 have HNQE := Lib.hid (Blk.ne_ HQ.out HB.out (by decide)); have HNQC := Lib.hid (Blk.ne_ HQ.out HCP.out (by decide))
 refine wp_region_lit ?_
 refine tkL (.pointer (some ⟨g, off, none⟩)) (h := ?_)
 (try simp only [Act.put, sA, sB, sC])
 refine tkL (.pointer (some ⟨g, off, none⟩)) (h := ?_)
 (try simp only [Act.put, sA, sB, sC])
 refine tkL (.pointer (some ⟨g, off + 9, none⟩)) (h := ?_)
 (try simp only [Act.put, sA, sB, sC])
 refine wpList_q (by rfl) (.int .i64 x.mo) ?he ?_
 case he => exact exec_cell 3 _ _ HB.out (el_at (j := 9) HP.out rfl) rfl rfl Try.underlying3 rfl
 (try simp only [Act.put, sA, sB, sC])
 refine wpList_q (by rfl) (.bool false) ?he ?_
 case he => (have q0 := HMO.out; go_simp; (first | done | rfl | omega))
 (try simp only [Act.put, sA, sB, sC])
 refine wpList_nil ?_
 go_upto_region 3 with fail
 refine wp_region_lit ?_
 refine tkL (.pointer (some ⟨g, off, none⟩)) (h := ?_)
 (try simp only [Act.put, sA, sB, sC])
 refine tkL (.pointer (some ⟨g, off, none⟩)) (h := ?_)
 (try simp only [Act.put, sA, sB, sC])
 refine tkL (.pointer (some ⟨g, off, none⟩)) (h := ?_)
 (try simp only [Act.put, sA, sB, sC])
 refine tkL (.pointer (some ⟨g, off, none⟩)) (h := ?_)
 (try simp only [Act.put, sA, sB, sC])
 refine tkL (.pointer (some ⟨g, off + 9, none⟩)) (h := ?_)
 (try simp only [Act.put, sA, sB, sC])
 refine wpList_wp (by rfl) (fun K hK => ?_)
 refine wp_st_cell 3 _ _ rfl (el P #[.int .i64 x.ds, .int .i64 x.da, .int .i64 x.un, .int .i64 x.wy, .int .i64 x.ti, .int .i64 x.ju, .int .i64 x.lo, .bool x.bl, .bool x.br, .int .i64 0, .int .i64 x.ta, .bool x.ho, .int .u64 x.sp, .int .u64 x.su, .int .u64 x.sd] S) (.int .i64 0) rfl rfl HB.out (el_lt (j := 9) HP.out (by show 9 < 15; decide)) (el_set (j := 9) HP.out (by show 9 < 15; decide) rfl) (by first | rfl | simp [Value.oneCell']) (by kernel_rfl) ?_
 intro w2 hw
 refine hK.out _ _ ?_
 clear hK K
 (try simp only [Act.put, sA, sB, sC])
 have HS2 := Lib.hid (show Upd [g] w w2 by rw [hw]; exact Upd.setRow HSU.out (.inl (by simp)) _)
 have HBE2 := Lib.hid (show Blk w2 g 30 (el P #[.int .i64 x.ds, .int .i64 x.da, .int .i64 x.un, .int .i64 x.wy, .int .i64 x.ti, .int .i64 x.ju, .int .i64 x.lo, .bool x.bl, .bool x.br, .int .i64 0, .int .i64 x.ta, .bool x.ho, .int .u64 x.sp, .int .u64 x.su, .int .u64 x.sd] S) by rw [hw]; exact Blk.row HB.out _)
 have HBcp2 := Lib.hid (show Blk w2 cp 43 #[.pointer (some ⟨q, 0, none⟩)] by rw [hw]; exact Blk.row_far HCP.out HNcp.out _)
 have HBQ2 := Lib.hid (show Blk w2 q 67 (grpA G v1 v2) by rw [hw]; exact Blk.row_far HQ.out HNQE.out _)
 clear hw HSU HB HCP HQ
 refine tkL (.pointer (some ⟨g, off, none⟩)) (h := ?_)
 (try simp only [Act.put, sA, sB, sC])
 refine tkL (.pointer (some ⟨g, off + 10, none⟩)) (h := ?_)
 (try simp only [Act.put, sA, sB, sC])
 refine wpList_wp (by rfl) (fun K hK => ?_)
 refine wp_st_cell 3 _ _ rfl (el P #[.int .i64 x.ds, .int .i64 x.da, .int .i64 x.un, .int .i64 x.wy, .int .i64 x.ti, .int .i64 x.ju, .int .i64 x.lo, .bool x.bl, .bool x.br, .int .i64 0, .int .i64 0, .bool x.ho, .int .u64 x.sp, .int .u64 x.su, .int .u64 x.sd] S) (.int .i64 0) rfl rfl HBE2.out (el_lt (j := 10) HP.out (by show 10 < 15; decide)) (el_set (j := 10) HP.out (by show 10 < 15; decide) rfl) (by first | rfl | simp [Value.oneCell']) (by kernel_rfl) ?_
 intro w3 hw
 refine hK.out _ _ ?_
 clear hK K
 (try simp only [Act.put, sA, sB, sC])
 have HS3 := Lib.hid (show Upd [g] w w3 by rw [hw]; exact Upd.setRow HS2.out (.inl (by simp)) _)
 have HBE3 := Lib.hid (show Blk w3 g 30 (el P #[.int .i64 x.ds, .int .i64 x.da, .int .i64 x.un, .int .i64 x.wy, .int .i64 x.ti, .int .i64 x.ju, .int .i64 x.lo, .bool x.bl, .bool x.br, .int .i64 0, .int .i64 0, .bool x.ho, .int .u64 x.sp, .int .u64 x.su, .int .u64 x.sd] S) by rw [hw]; exact Blk.row HBE2.out _)
 have HBcp3 := Lib.hid (show Blk w3 cp 43 #[.pointer (some ⟨q, 0, none⟩)] by rw [hw]; exact Blk.row_far HBcp2.out HNcp.out _)
 have HBQ3 := Lib.hid (show Blk w3 q 67 (grpA G v1 v2) by rw [hw]; exact Blk.row_far HBQ2.out HNQE.out _)
 clear hw HS2 HBE2 HBcp2 HBQ2
 refine tkL (.pointer (some ⟨g, off, none⟩)) (h := ?_)
 (try simp only [Act.put, sA, sB, sC])
 refine tkL (.pointer (some ⟨g, off + 11, none⟩)) (h := ?_)
 (try simp only [Act.put, sA, sB, sC])
 refine wpList_wp (by rfl) (fun K hK => ?_)
 refine wp_st_cell 4 _ _ rfl (el P #[.int .i64 x.ds, .int .i64 x.da, .int .i64 x.un, .int .i64 x.wy, .int .i64 x.ti, .int .i64 x.ju, .int .i64 x.lo, .bool x.bl, .bool x.br, .int .i64 0, .int .i64 0, .bool false, .int .u64 x.sp, .int .u64 x.su, .int .u64 x.sd] S) (.bool false) rfl rfl HBE3.out (el_lt (j := 11) HP.out (by show 11 < 15; decide)) (el_set (j := 11) HP.out (by show 11 < 15; decide) rfl) (by first | rfl | simp [Value.oneCell']) (by kernel_rfl) ?_
 intro w4 hw
 refine hK.out _ _ ?_
 clear hK K
 (try simp only [Act.put, sA, sB, sC])
 have HS4 := Lib.hid (show Upd [g] w w4 by rw [hw]; exact Upd.setRow HS3.out (.inl (by simp)) _)
 have HBE4 := Lib.hid (show Blk w4 g 30 (el P #[.int .i64 x.ds, .int .i64 x.da, .int .i64 x.un, .int .i64 x.wy, .int .i64 x.ti, .int .i64 x.ju, .int .i64 x.lo, .bool x.bl, .bool x.br, .int .i64 0, .int .i64 0, .bool false, .int .u64 x.sp, .int .u64 x.su, .int .u64 x.sd] S) by rw [hw]; exact Blk.row HBE3.out _)
 have HBcp4 := Lib.hid (show Blk w4 cp 43 #[.pointer (some ⟨q, 0, none⟩)] by rw [hw]; exact Blk.row_far HBcp3.out HNcp.out _)
 have HBQ4 := Lib.hid (show Blk w4 q 67 (grpA G v1 v2) by rw [hw]; exact Blk.row_far HBQ3.out HNQE.out _)
 clear hw HS3 HBE3 HBcp3 HBQ3
 refine wpList_nil ?_
 go_upto_region 4 with fail
 refine wp_region_lit ?_
 refine tkL (.pointer (some ⟨g, off, none⟩)) (h := ?_)
 (try simp only [Act.put, sA, sB, sC])
 refine tkL (.pointer (some ⟨g, off, none⟩)) (h := ?_)
 (try simp only [Act.put, sA, sB, sC])
 refine wpList_q (by rfl) (.pointer (some ⟨q, 0, none⟩)) ?he ?_
 case he => exact exec_cell 43 _ _ HBcp4.out rfl rfl rfl Try.underlying43 rfl
 (try simp only [Act.put, sA, sB, sC])
 refine tkL (.pointer (some ⟨q, 0, none⟩)) (h := ?_)
 (try simp only [Act.put, sA, sB, sC])
 refine tkL (.pointer (some ⟨q, 0, none⟩)) (h := ?_)
 (try simp only [Act.put, sA, sB, sC])
 refine tkL (.pointer (some ⟨q, 5, none⟩)) (h := ?_)
 (try simp only [Act.put, sA, sB, sC])
 refine wpList_q (by rfl) (.int .i64 G.c.dw) ?he ?_
 case he => exact exec_cell 3 _ _ HBQ4.out rfl rfl rfl Try.underlying3 rfl
 (try simp only [Act.put, sA, sB, sC])
 refine wpList_q (by rfl) (.int .i64 (m1 G.c.dw)) ?he ?_
 case he => (unfold m1; go_simp; (first | done | rfl | (split <;> omega)))
 (try simp only [Act.put, sA, sB, sC])
 refine wpList_q (by rfl) (.int .i64 (dwV G.c.dw)) ?he ?_
 case he => (unfold dwV; go_simp; (first | done | rfl | (split <;> omega)))
 (try simp only [Act.put, sA, sB, sC])
 refine tkL (.pointer (some ⟨g, off, none⟩)) (h := ?_)
 (try simp only [Act.put, sA, sB, sC])
 refine tkL (.pointer (some ⟨g, off + 5, none⟩)) (h := ?_)
 (try simp only [Act.put, sA, sB, sC])
 refine wpList_wp (by rfl) (fun K hK => ?_)
 refine wp_st_cell 3 _ _ rfl (el P #[.int .i64 x.ds, .int .i64 x.da, .int .i64 x.un, .int .i64 x.wy, .int .i64 x.ti, .int .i64 (-1), .int .i64 x.lo, .bool x.bl, .bool x.br, .int .i64 0, .int .i64 0, .bool false, .int .u64 x.sp, .int .u64 x.su, .int .u64 x.sd] S) (.int .i64 (-1)) rfl rfl HBE4.out (el_lt (j := 5) HP.out (by show 5 < 15; decide)) (el_set (j := 5) HP.out (by show 5 < 15; decide) rfl) (by first | rfl | simp [Value.oneCell']) (by kernel_rfl) ?_
 intro w5 hw
 refine hK.out _ _ ?_
 clear hK K
 (try simp only [Act.put, sA, sB, sC])
 have HS5 := Lib.hid (show Upd [g] w w5 by rw [hw]; exact Upd.setRow HS4.out (.inl (by simp)) _)
 have HBE5 := Lib.hid (show Blk w5 g 30 (el P #[.int .i64 x.ds, .int .i64 x.da, .int .i64 x.un, .int .i64 x.wy, .int .i64 x.ti, .int .i64 (-1), .int .i64 x.lo, .bool x.bl, .bool x.br, .int .i64 0, .int .i64 0, .bool false, .int .u64 x.sp, .int .u64 x.su, .int .u64 x.sd] S) by rw [hw]; exact Blk.row HBE4.out _)
 have HBcp5 := Lib.hid (show Blk w5 cp 43 #[.pointer (some ⟨q, 0, none⟩)] by rw [hw]; exact Blk.row_far HBcp4.out HNcp.out _)
 have HBQ5 := Lib.hid (show Blk w5 q 67 (grpA G v1 v2) by rw [hw]; exact Blk.row_far HBQ4.out HNQE.out _)
 clear hw HS4 HBE4 HBcp4 HBQ4
 refine tkL (.pointer (some ⟨g, off, none⟩)) (h := ?_)
 (try simp only [Act.put, sA, sB, sC])
 refine tkL (.pointer (some ⟨g, off + 4, none⟩)) (h := ?_)
 (try simp only [Act.put, sA, sB, sC])
 refine wpList_wp (by rfl) (fun K hK => ?_)
 refine wp_st_cell 3 _ _ rfl (el P #[.int .i64 x.ds, .int .i64 x.da, .int .i64 x.un, .int .i64 x.wy, .int .i64 (dwV G.c.dw), .int .i64 (-1), .int .i64 x.lo, .bool x.bl, .bool x.br, .int .i64 0, .int .i64 0, .bool false, .int .u64 x.sp, .int .u64 x.su, .int .u64 x.sd] S) (.int .i64 (dwV G.c.dw)) rfl rfl HBE5.out (el_lt (j := 4) HP.out (by show 4 < 15; decide)) (el_set (j := 4) HP.out (by show 4 < 15; decide) rfl) (by first | rfl | simp [Value.oneCell']) (by kernel_rfl) ?_
 intro w6 hw
 refine hK.out _ _ ?_
 clear hK K
 (try simp only [Act.put, sA, sB, sC])
 have HS6 := Lib.hid (show Upd [g] w w6 by rw [hw]; exact Upd.setRow HS5.out (.inl (by simp)) _)
 have HBE6 := Lib.hid (show Blk w6 g 30 (el P #[.int .i64 x.ds, .int .i64 x.da, .int .i64 x.un, .int .i64 x.wy, .int .i64 (dwV G.c.dw), .int .i64 (-1), .int .i64 x.lo, .bool x.bl, .bool x.br, .int .i64 0, .int .i64 0, .bool false, .int .u64 x.sp, .int .u64 x.su, .int .u64 x.sd] S) by rw [hw]; exact Blk.row HBE5.out _)
 have HBcp6 := Lib.hid (show Blk w6 cp 43 #[.pointer (some ⟨q, 0, none⟩)] by rw [hw]; exact Blk.row_far HBcp5.out HNcp.out _)
 have HBQ6 := Lib.hid (show Blk w6 q 67 (grpA G v1 v2) by rw [hw]; exact Blk.row_far HBQ5.out HNQE.out _)
 clear hw HS5 HBE5 HBcp5 HBQ5
 refine wpList_nil ?_
 go_upto_region 5 with fail
 refine wp_region_lit ?_
 refine tkL (.pointer (some ⟨g, off, none⟩)) (h := ?_)
 (try simp only [Act.put, sA, sB, sC])
 refine tkL (.pointer (some ⟨g, off, none⟩)) (h := ?_)
 (try simp only [Act.put, sA, sB, sC])
 refine tkL (.pointer (some ⟨g, off + 2, none⟩)) (h := ?_)
 (try simp only [Act.put, sA, sB, sC])
 refine wpList_q (by rfl) (.int .i64 x.un) ?he ?_
 case he => exact exec_cell 3 _ _ HBE6.out (el_at (j := 2) HP.out rfl) rfl rfl Try.underlying3 rfl
 (try simp only [Act.put, sA, sB, sC])
 refine wpList_wp (by rfl) (fun K hK => ?_)
 (try go_simp)
 refine (levV x.un true HL.out _).mono ?_
 rintro e w' ⟨rfl, rfl⟩
 (try go_wp2_with fail)
 refine hK.out _ _ ?_
 clear hK K
 (try simp only [Act.put, sA, sB, sC])
 refine tkL (.tuple #[.int .i64 (lvN x.un), .bool true]) (h := ?_)
 (try simp only [Act.put, sA, sB, sC])
 refine tkL (.int .i64 (lvN x.un)) (h := ?_)
 (try simp only [Act.put, sA, sB, sC])
 refine tkL (.bool true) (h := ?_)
 (try simp only [Act.put, sA, sB, sC])
 refine tkL (.int .i64 (lvN x.un)) (h := ?_)
 (try simp only [Act.put, sA, sB, sC])
 refine tkL (.bool true) (h := ?_)
 (try simp only [Act.put, sA, sB, sC])
 refine wpList_nil ?_
 go_upto_region 6 with fail
 refine wp_region_lit ?_
 refine tkL (.bool true) (h := ?_)
 (try simp only [Act.put, sA, sB, sC])
 refine wpList_nil ?_
 go_upto_region 7 with fail
 refine wp_region_lit ?_
 refine tkL (.pointer (some ⟨g, off, none⟩)) (h := ?_)
 (try simp only [Act.put, sA, sB, sC])
 refine tkL (.pointer (some ⟨g, off, none⟩)) (h := ?_)
 (try simp only [Act.put, sA, sB, sC])
 refine tkL (.pointer (some ⟨g, off + 3, none⟩)) (h := ?_)
 (try simp only [Act.put, sA, sB, sC])
 refine wpList_wp (by rfl) (fun K hK => ?_)
 refine wp_st_cell 3 _ _ rfl (el P #[.int .i64 x.ds, .int .i64 x.da, .int .i64 x.un, .int .i64 0, .int .i64 (dwV G.c.dw), .int .i64 (-1), .int .i64 x.lo, .bool x.bl, .bool x.br, .int .i64 0, .int .i64 0, .bool false, .int .u64 x.sp, .int .u64 x.su, .int .u64 x.sd] S) (.int .i64 0) rfl rfl HBE6.out (el_lt (j := 3) HP.out (by show 3 < 15; decide)) (el_set (j := 3) HP.out (by show 3 < 15; decide) rfl) (by first | rfl | simp [Value.oneCell']) (by kernel_rfl) ?_
 intro w7 hw
 refine hK.out _ _ ?_
 clear hK K
 (try simp only [Act.put, sA, sB, sC])
 have HS7 := Lib.hid (show Upd [g] w w7 by rw [hw]; exact Upd.setRow HS6.out (.inl (by simp)) _)
 have HBE7 := Lib.hid (show Blk w7 g 30 (el P #[.int .i64 x.ds, .int .i64 x.da, .int .i64 x.un, .int .i64 0, .int .i64 (dwV G.c.dw), .int .i64 (-1), .int .i64 x.lo, .bool x.bl, .bool x.br, .int .i64 0, .int .i64 0, .bool false, .int .u64 x.sp, .int .u64 x.su, .int .u64 x.sd] S) by rw [hw]; exact Blk.row HBE6.out _)
 have HBcp7 := Lib.hid (show Blk w7 cp 43 #[.pointer (some ⟨q, 0, none⟩)] by rw [hw]; exact Blk.row_far HBcp6.out HNcp.out _)
 have HBQ7 := Lib.hid (show Blk w7 q 67 (grpA G v1 v2) by rw [hw]; exact Blk.row_far HBQ6.out HNQE.out _)
 clear hw HS6 HBE6 HBcp6 HBQ6
 refine wpList_nil ?_
 go_upto_region 8 with fail
 refine wp_region_lit ?_
 refine tkL (.int .i64 0) (h := ?_)
 (try simp only [Act.put, sA, sB, sC])
 refine wpList_nil ?_
 (try go_wp2_with fail)
 go_ret
 exact ⟨rfl, HBE7.out, HS7.out⟩
set_option maxHeartbeats 4000000 in
theorem give1C (g off : Nat) (P S : List Value) (x : CarV) (cp : Nat) (q : Nat) (G : GrV) (v1 v2 : Value) (w : World) (hb : Blk w g 30 (el P (carA x) S)) (hp : P.length = off) (hcp : Blk w cp 43 #[.pointer (some ⟨q, 0, none⟩)]) (hmo : x.mo = 1) (hl : lvB x.un = false) (hq : Blk w q 67 (grpA G v1 v2)) : Calls Try.prog 67 #[.pointer (some ⟨g, off, none⟩), .pointer (some ⟨cp, 0, none⟩)] w fun e w' => e = .returned (.int .i64 0) ∧ Blk w' g 30 (el P (carA { x with mo := 0, ta := 0, ho := false, ju := -1, ti := dwV G.c.dw }) S) ∧ Upd [g] w w' := by
 have HB := Lib.hid hb
 clear hb
 have HP := Lib.hid hp
 clear hp
 have HCP := Lib.hid hcp
 clear hcp
 have HMO := Lib.hid hmo
 clear hmo
 have HL := Lib.hid hl
 clear hl
 have HQ := Lib.hid hq
 clear hq
 have HNcp := Lib.hid (Blk.ne_ HCP.out HB.out (by decide))
 go_enter Try.func67, Try.ntmps67
 go_upto_region 1 with fail
 have HSU := Lib.hid (Upd.refl [g] w)
 have HNQE := Lib.hid (Blk.ne_ HQ.out HB.out (by decide)); have HNQC := Lib.hid (Blk.ne_ HQ.out HCP.out (by decide))
 refine wp_region_lit ?_
 refine tkL (.pointer (some ⟨g, off, none⟩)) (h := ?_)
 (try simp only [Act.put, sA, sB, sC])
 refine tkL (.pointer (some ⟨g, off, none⟩)) (h := ?_)
 (try simp only [Act.put, sA, sB, sC])
 refine tkL (.pointer (some ⟨g, off + 9, none⟩)) (h := ?_)
 (try simp only [Act.put, sA, sB, sC])
 refine wpList_q (by rfl) (.int .i64 x.mo) ?he ?_
 case he => exact exec_cell 3 _ _ HB.out (el_at (j := 9) HP.out rfl) rfl rfl Try.underlying3 rfl
 (try simp only [Act.put, sA, sB, sC])
 refine wpList_q (by rfl) (.bool false) ?he ?_
 case he => (have q0 := HMO.out; go_simp; (first | done | rfl | omega))
 (try simp only [Act.put, sA, sB, sC])
 refine wpList_nil ?_
 go_upto_region 3 with fail
 refine wp_region_lit ?_
 refine tkL (.pointer (some ⟨g, off, none⟩)) (h := ?_)
 (try simp only [Act.put, sA, sB, sC])
 refine tkL (.pointer (some ⟨g, off, none⟩)) (h := ?_)
 (try simp only [Act.put, sA, sB, sC])
 refine tkL (.pointer (some ⟨g, off, none⟩)) (h := ?_)
 (try simp only [Act.put, sA, sB, sC])
 refine tkL (.pointer (some ⟨g, off, none⟩)) (h := ?_)
 (try simp only [Act.put, sA, sB, sC])
 refine tkL (.pointer (some ⟨g, off + 9, none⟩)) (h := ?_)
 (try simp only [Act.put, sA, sB, sC])
 refine wpList_wp (by rfl) (fun K hK => ?_)
 refine wp_st_cell 3 _ _ rfl (el P #[.int .i64 x.ds, .int .i64 x.da, .int .i64 x.un, .int .i64 x.wy, .int .i64 x.ti, .int .i64 x.ju, .int .i64 x.lo, .bool x.bl, .bool x.br, .int .i64 0, .int .i64 x.ta, .bool x.ho, .int .u64 x.sp, .int .u64 x.su, .int .u64 x.sd] S) (.int .i64 0) rfl rfl HB.out (el_lt (j := 9) HP.out (by show 9 < 15; decide)) (el_set (j := 9) HP.out (by show 9 < 15; decide) rfl) (by first | rfl | simp [Value.oneCell']) (by kernel_rfl) ?_
 intro w2 hw
 refine hK.out _ _ ?_
 clear hK K
 (try simp only [Act.put, sA, sB, sC])
 have HS2 := Lib.hid (show Upd [g] w w2 by rw [hw]; exact Upd.setRow HSU.out (.inl (by simp)) _)
 have HBE2 := Lib.hid (show Blk w2 g 30 (el P #[.int .i64 x.ds, .int .i64 x.da, .int .i64 x.un, .int .i64 x.wy, .int .i64 x.ti, .int .i64 x.ju, .int .i64 x.lo, .bool x.bl, .bool x.br, .int .i64 0, .int .i64 x.ta, .bool x.ho, .int .u64 x.sp, .int .u64 x.su, .int .u64 x.sd] S) by rw [hw]; exact Blk.row HB.out _)
 have HBcp2 := Lib.hid (show Blk w2 cp 43 #[.pointer (some ⟨q, 0, none⟩)] by rw [hw]; exact Blk.row_far HCP.out HNcp.out _)
 have HBQ2 := Lib.hid (show Blk w2 q 67 (grpA G v1 v2) by rw [hw]; exact Blk.row_far HQ.out HNQE.out _)
 clear hw HSU HB HCP HQ
 refine tkL (.pointer (some ⟨g, off, none⟩)) (h := ?_)
 (try simp only [Act.put, sA, sB, sC])
 refine tkL (.pointer (some ⟨g, off + 10, none⟩)) (h := ?_)
 (try simp only [Act.put, sA, sB, sC])
 refine wpList_wp (by rfl) (fun K hK => ?_)
 refine wp_st_cell 3 _ _ rfl (el P #[.int .i64 x.ds, .int .i64 x.da, .int .i64 x.un, .int .i64 x.wy, .int .i64 x.ti, .int .i64 x.ju, .int .i64 x.lo, .bool x.bl, .bool x.br, .int .i64 0, .int .i64 0, .bool x.ho, .int .u64 x.sp, .int .u64 x.su, .int .u64 x.sd] S) (.int .i64 0) rfl rfl HBE2.out (el_lt (j := 10) HP.out (by show 10 < 15; decide)) (el_set (j := 10) HP.out (by show 10 < 15; decide) rfl) (by first | rfl | simp [Value.oneCell']) (by kernel_rfl) ?_
 intro w3 hw
 refine hK.out _ _ ?_
 clear hK K
 (try simp only [Act.put, sA, sB, sC])
 have HS3 := Lib.hid (show Upd [g] w w3 by rw [hw]; exact Upd.setRow HS2.out (.inl (by simp)) _)
 have HBE3 := Lib.hid (show Blk w3 g 30 (el P #[.int .i64 x.ds, .int .i64 x.da, .int .i64 x.un, .int .i64 x.wy, .int .i64 x.ti, .int .i64 x.ju, .int .i64 x.lo, .bool x.bl, .bool x.br, .int .i64 0, .int .i64 0, .bool x.ho, .int .u64 x.sp, .int .u64 x.su, .int .u64 x.sd] S) by rw [hw]; exact Blk.row HBE2.out _)
 have HBcp3 := Lib.hid (show Blk w3 cp 43 #[.pointer (some ⟨q, 0, none⟩)] by rw [hw]; exact Blk.row_far HBcp2.out HNcp.out _)
 have HBQ3 := Lib.hid (show Blk w3 q 67 (grpA G v1 v2) by rw [hw]; exact Blk.row_far HBQ2.out HNQE.out _)
 clear hw HS2 HBE2 HBcp2 HBQ2
 refine tkL (.pointer (some ⟨g, off, none⟩)) (h := ?_)
 (try simp only [Act.put, sA, sB, sC])
 refine tkL (.pointer (some ⟨g, off + 11, none⟩)) (h := ?_)
 (try simp only [Act.put, sA, sB, sC])
 refine wpList_wp (by rfl) (fun K hK => ?_)
 refine wp_st_cell 4 _ _ rfl (el P #[.int .i64 x.ds, .int .i64 x.da, .int .i64 x.un, .int .i64 x.wy, .int .i64 x.ti, .int .i64 x.ju, .int .i64 x.lo, .bool x.bl, .bool x.br, .int .i64 0, .int .i64 0, .bool false, .int .u64 x.sp, .int .u64 x.su, .int .u64 x.sd] S) (.bool false) rfl rfl HBE3.out (el_lt (j := 11) HP.out (by show 11 < 15; decide)) (el_set (j := 11) HP.out (by show 11 < 15; decide) rfl) (by first | rfl | simp [Value.oneCell']) (by kernel_rfl) ?_
 intro w4 hw
 refine hK.out _ _ ?_
 clear hK K
 (try simp only [Act.put, sA, sB, sC])
 have HS4 := Lib.hid (show Upd [g] w w4 by rw [hw]; exact Upd.setRow HS3.out (.inl (by simp)) _)
 have HBE4 := Lib.hid (show Blk w4 g 30 (el P #[.int .i64 x.ds, .int .i64 x.da, .int .i64 x.un, .int .i64 x.wy, .int .i64 x.ti, .int .i64 x.ju, .int .i64 x.lo, .bool x.bl, .bool x.br, .int .i64 0, .int .i64 0, .bool false, .int .u64 x.sp, .int .u64 x.su, .int .u64 x.sd] S) by rw [hw]; exact Blk.row HBE3.out _)
 have HBcp4 := Lib.hid (show Blk w4 cp 43 #[.pointer (some ⟨q, 0, none⟩)] by rw [hw]; exact Blk.row_far HBcp3.out HNcp.out _)
 have HBQ4 := Lib.hid (show Blk w4 q 67 (grpA G v1 v2) by rw [hw]; exact Blk.row_far HBQ3.out HNQE.out _)
 clear hw HS3 HBE3 HBcp3 HBQ3
 refine wpList_nil ?_
 go_upto_region 4 with fail
 refine wp_region_lit ?_
 refine tkL (.pointer (some ⟨g, off, none⟩)) (h := ?_)
 (try simp only [Act.put, sA, sB, sC])
 refine tkL (.pointer (some ⟨g, off, none⟩)) (h := ?_)
 (try simp only [Act.put, sA, sB, sC])
 refine wpList_q (by rfl) (.pointer (some ⟨q, 0, none⟩)) ?he ?_
 case he => exact exec_cell 43 _ _ HBcp4.out rfl rfl rfl Try.underlying43 rfl
 (try simp only [Act.put, sA, sB, sC])
 refine tkL (.pointer (some ⟨q, 0, none⟩)) (h := ?_)
 (try simp only [Act.put, sA, sB, sC])
 refine tkL (.pointer (some ⟨q, 0, none⟩)) (h := ?_)
 (try simp only [Act.put, sA, sB, sC])
 refine tkL (.pointer (some ⟨q, 5, none⟩)) (h := ?_)
 (try simp only [Act.put, sA, sB, sC])
 refine wpList_q (by rfl) (.int .i64 G.c.dw) ?he ?_
 case he => exact exec_cell 3 _ _ HBQ4.out rfl rfl rfl Try.underlying3 rfl
 (try simp only [Act.put, sA, sB, sC])
 refine wpList_q (by rfl) (.int .i64 (m1 G.c.dw)) ?he ?_
 case he => (unfold m1; go_simp; (first | done | rfl | (split <;> omega)))
 (try simp only [Act.put, sA, sB, sC])
 refine wpList_q (by rfl) (.int .i64 (dwV G.c.dw)) ?he ?_
 case he => (unfold dwV; go_simp; (first | done | rfl | (split <;> omega)))
 (try simp only [Act.put, sA, sB, sC])
 refine tkL (.pointer (some ⟨g, off, none⟩)) (h := ?_)
 (try simp only [Act.put, sA, sB, sC])
 refine tkL (.pointer (some ⟨g, off + 5, none⟩)) (h := ?_)
 (try simp only [Act.put, sA, sB, sC])
 refine wpList_wp (by rfl) (fun K hK => ?_)
 refine wp_st_cell 3 _ _ rfl (el P #[.int .i64 x.ds, .int .i64 x.da, .int .i64 x.un, .int .i64 x.wy, .int .i64 x.ti, .int .i64 (-1), .int .i64 x.lo, .bool x.bl, .bool x.br, .int .i64 0, .int .i64 0, .bool false, .int .u64 x.sp, .int .u64 x.su, .int .u64 x.sd] S) (.int .i64 (-1)) rfl rfl HBE4.out (el_lt (j := 5) HP.out (by show 5 < 15; decide)) (el_set (j := 5) HP.out (by show 5 < 15; decide) rfl) (by first | rfl | simp [Value.oneCell']) (by kernel_rfl) ?_
 intro w5 hw
 refine hK.out _ _ ?_
 clear hK K
 (try simp only [Act.put, sA, sB, sC])
 have HS5 := Lib.hid (show Upd [g] w w5 by rw [hw]; exact Upd.setRow HS4.out (.inl (by simp)) _)
 have HBE5 := Lib.hid (show Blk w5 g 30 (el P #[.int .i64 x.ds, .int .i64 x.da, .int .i64 x.un, .int .i64 x.wy, .int .i64 x.ti, .int .i64 (-1), .int .i64 x.lo, .bool x.bl, .bool x.br, .int .i64 0, .int .i64 0, .bool false, .int .u64 x.sp, .int .u64 x.su, .int .u64 x.sd] S) by rw [hw]; exact Blk.row HBE4.out _)
 have HBcp5 := Lib.hid (show Blk w5 cp 43 #[.pointer (some ⟨q, 0, none⟩)] by rw [hw]; exact Blk.row_far HBcp4.out HNcp.out _)
 have HBQ5 := Lib.hid (show Blk w5 q 67 (grpA G v1 v2) by rw [hw]; exact Blk.row_far HBQ4.out HNQE.out _)
 clear hw HS4 HBE4 HBcp4 HBQ4
 refine tkL (.pointer (some ⟨g, off, none⟩)) (h := ?_)
 (try simp only [Act.put, sA, sB, sC])
 refine tkL (.pointer (some ⟨g, off + 4, none⟩)) (h := ?_)
 (try simp only [Act.put, sA, sB, sC])
 refine wpList_wp (by rfl) (fun K hK => ?_)
 refine wp_st_cell 3 _ _ rfl (el P #[.int .i64 x.ds, .int .i64 x.da, .int .i64 x.un, .int .i64 x.wy, .int .i64 (dwV G.c.dw), .int .i64 (-1), .int .i64 x.lo, .bool x.bl, .bool x.br, .int .i64 0, .int .i64 0, .bool false, .int .u64 x.sp, .int .u64 x.su, .int .u64 x.sd] S) (.int .i64 (dwV G.c.dw)) rfl rfl HBE5.out (el_lt (j := 4) HP.out (by show 4 < 15; decide)) (el_set (j := 4) HP.out (by show 4 < 15; decide) rfl) (by first | rfl | simp [Value.oneCell']) (by kernel_rfl) ?_
 intro w6 hw
 refine hK.out _ _ ?_
 clear hK K
 (try simp only [Act.put, sA, sB, sC])
 have HS6 := Lib.hid (show Upd [g] w w6 by rw [hw]; exact Upd.setRow HS5.out (.inl (by simp)) _)
 have HBE6 := Lib.hid (show Blk w6 g 30 (el P #[.int .i64 x.ds, .int .i64 x.da, .int .i64 x.un, .int .i64 x.wy, .int .i64 (dwV G.c.dw), .int .i64 (-1), .int .i64 x.lo, .bool x.bl, .bool x.br, .int .i64 0, .int .i64 0, .bool false, .int .u64 x.sp, .int .u64 x.su, .int .u64 x.sd] S) by rw [hw]; exact Blk.row HBE5.out _)
 have HBcp6 := Lib.hid (show Blk w6 cp 43 #[.pointer (some ⟨q, 0, none⟩)] by rw [hw]; exact Blk.row_far HBcp5.out HNcp.out _)
 have HBQ6 := Lib.hid (show Blk w6 q 67 (grpA G v1 v2) by rw [hw]; exact Blk.row_far HBQ5.out HNQE.out _)
 clear hw HS5 HBE5 HBcp5 HBQ5
 refine wpList_nil ?_
 go_upto_region 5 with fail
 refine wp_region_lit ?_
 refine tkL (.pointer (some ⟨g, off, none⟩)) (h := ?_)
 (try simp only [Act.put, sA, sB, sC])
 refine tkL (.pointer (some ⟨g, off, none⟩)) (h := ?_)
 (try simp only [Act.put, sA, sB, sC])
 refine tkL (.pointer (some ⟨g, off + 2, none⟩)) (h := ?_)
 (try simp only [Act.put, sA, sB, sC])
 refine wpList_q (by rfl) (.int .i64 x.un) ?he ?_
 case he => exact exec_cell 3 _ _ HBE6.out (el_at (j := 2) HP.out rfl) rfl rfl Try.underlying3 rfl
 (try simp only [Act.put, sA, sB, sC])
 refine wpList_wp (by rfl) (fun K hK => ?_)
 (try go_simp)
 refine (levV x.un false HL.out _).mono ?_
 rintro e w' ⟨rfl, rfl⟩
 (try go_wp2_with fail)
 refine hK.out _ _ ?_
 clear hK K
 (try simp only [Act.put, sA, sB, sC])
 refine tkL (.tuple #[.int .i64 (lvN x.un), .bool false]) (h := ?_)
 (try simp only [Act.put, sA, sB, sC])
 refine tkL (.int .i64 (lvN x.un)) (h := ?_)
 (try simp only [Act.put, sA, sB, sC])
 refine tkL (.bool false) (h := ?_)
 (try simp only [Act.put, sA, sB, sC])
 refine tkL (.int .i64 (lvN x.un)) (h := ?_)
 (try simp only [Act.put, sA, sB, sC])
 refine tkL (.bool false) (h := ?_)
 (try simp only [Act.put, sA, sB, sC])
 refine wpList_nil ?_
 go_upto_region 6 with fail
 refine wp_region_lit ?_
 refine tkL (.bool false) (h := ?_)
 (try simp only [Act.put, sA, sB, sC])
 refine wpList_nil ?_
 go_upto_region 8 with fail
 refine wp_region_lit ?_
 refine tkL (.int .i64 0) (h := ?_)
 (try simp only [Act.put, sA, sB, sC])
 refine wpList_nil ?_
 (try go_wp2_with fail)
 go_ret
 exact ⟨rfl, HBE6.out, HS6.out⟩
end Go.Proofs.Ytpacieocmogjeaa.Gr
