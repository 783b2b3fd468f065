/-
  What is wanted by the last of these texts, part 18.
  No condition.
-/
import Derived.Test.YtpacieocmogjeaaProg
import Derived.Test.YtpacieocmogjeaaKGv0
import Derived.Test.YtpacieocmogjeaaKGv17
namespace Go.Proofs.Ytpacieocmogjeaa.Gr
set_option linter.unusedVariables false
set_option linter.unusedSimpArgs false
open Go.RowKit Go.Proofs.Ytpacieocmogjeaa.Ba Go.Proofs.Ytpacieocmogjeaa.Mem Go.Proofs.Ytpacieocmogjeaa.Ty Go.Proofs.Ytpacieocmogjeaa.Mo Go.Proofs.Ytpacieocmogjeaa.St Go.Proofs.Ytpacieocmogjeaa.Sc Go.Proofs.Ytpacieocmogjeaa.Pl
open Go.Proofs.Ytpacieocmogjeaa.Ct (cfgA carA m1 dwV bdX tkV tkF tkW tkS tickT)
set_option maxRecDepth 100000
attribute [local irreducible] Go.wpList
set_option maxHeartbeats 4000000 in
theorem fault1T (g off : Nat) (P S : List Value) (x : CarV) (cp cq cr q : Nat) (v : Int) (lo : Nat) (G : GrV) (v1 : Value) (A2 : Option Addr) (c2 : Nat) (w : World) (hb : Blk w g 30 (el P (carA x) S)) (hp : P.length = off) (hcp : Blk w cp 4 #[.bool true]) (hcq : Blk w cq 43 #[.pointer (some ⟨q, 0, none⟩)]) (hcr : Blk w cr 3 #[.int .i64 v]) (hq : Blk w q 67 (grpA G v1 (.slice A2 G.waits.length c2))) (ho : WaitsAt lo A2 G.waits.length c2 G.waits w) (hl : G.waits.length ≤ 10000) (hnq : q ∉ blkOf A2) (hga : g ∉ blkOf A2) : Calls Try.prog 62 #[.pointer (some ⟨g, off, none⟩), .pointer (some ⟨cp, 0, none⟩), .pointer (some ⟨cq, 0, none⟩), .pointer (some ⟨cr, 0, none⟩)] w fun e w' => e = .returned (.int .i64 0) ∧ Blk w' g 30 (el P (carA { x with br := true, sp := 0, su := 0, sd := 0 }) S) ∧ WaitsAt lo A2 G.waits.length c2 (G.waits.map (disW v)) w' ∧ Upd (g :: blkOf A2) w w' := by
 have HB := Lib.hid hb
 clear hb
 have HP := Lib.hid hp
 clear hp
 have HCP := Lib.hid hcp
 clear hcp
 have HCQ := Lib.hid hcq
 clear hcq
 have HCR := Lib.hid hcr
 clear hcr
 have HQ := Lib.hid hq
 clear hq
 have HOW := Lib.hid ho
 clear ho
 have HL := Lib.hid hl
 clear hl
 have HNQ := Lib.hid hnq
 clear hnq
 have HGA := Lib.hid hga
 clear hga
 have HNcp := Lib.hid (Blk.ne_ HCP.out HB.out (by decide))
 have HNcq := Lib.hid (Blk.ne_ HCQ.out HB.out (by decide))
 have HNcr := Lib.hid (Blk.ne_ HCR.out HB.out (by decide))
 have HNQE := Lib.hid (Blk.ne_ HQ.out HB.out (by decide))
 go_enter Try.func62, Try.ntmps62
 go_upto_region 1 with fail
 have HSU := Lib.hid (Upd.refl (g :: blkOf A2) w)
 refine wp_region_lit ?_
 refine tkL (.pointer (some ⟨g, off, none⟩)) (h := ?_)
 (try simp only [Act.put, sA, sB, sC])
 refine wpList_q (by rfl) (.bool true) ?he ?_
 case he => exact exec_cell 4 _ _ HCP.out rfl rfl rfl Try.underlying4 rfl
 (try simp only [Act.put, sA, sB, sC])
 refine tkL (.pointer (some ⟨g, off, none⟩)) (h := ?_)
 (try simp only [Act.put, sA, sB, sC])
 refine tkL (.pointer (some ⟨g, off + 8, none⟩)) (h := ?_)
 (try simp only [Act.put, sA, sB, sC])
 refine wpList_wp (by rfl) (fun K hK => ?_)
 refine wp_st_cell 4 _ _ rfl (el P #[.int .i64 x.ds, .int .i64 x.da, .int .i64 x.un, .int .i64 x.wy, .int .i64 x.ti, .int .i64 x.ju, .int .i64 x.lo, .bool x.bl, .bool true, .int .i64 x.mo, .int .i64 x.ta, .bool x.ho, .int .u64 x.sp, .int .u64 x.su, .int .u64 x.sd] S) (.bool true) rfl rfl HB.out (el_lt (j := 8) HP.out (by show 8 < 15; decide)) (el_set (j := 8) HP.out (by show 8 < 15; decide) rfl) (by first | rfl | simp [Value.oneCell']) (by kernel_rfl) ?_
 intro w2 hw
 refine hK.out _ _ ?_
 clear hK K
 (try simp only [Act.put, sA, sB, sC])
 have HS2 := Lib.hid (show Upd (g :: blkOf A2) w w2 by rw [hw]; exact Upd.setRow HSU.out (.inl (by simp)) _)
 have HBE2 := Lib.hid (show Blk w2 g 30 (el P #[.int .i64 x.ds, .int .i64 x.da, .int .i64 x.un, .int .i64 x.wy, .int .i64 x.ti, .int .i64 x.ju, .int .i64 x.lo, .bool x.bl, .bool true, .int .i64 x.mo, .int .i64 x.ta, .bool x.ho, .int .u64 x.sp, .int .u64 x.su, .int .u64 x.sd] S) by rw [hw]; exact Blk.row HB.out _)
 have HBcp2 := Lib.hid (show Blk w2 cp 4 #[.bool true] by rw [hw]; exact Blk.row_far HCP.out HNcp.out _)
 have HBcq2 := Lib.hid (show Blk w2 cq 43 #[.pointer (some ⟨q, 0, none⟩)] by rw [hw]; exact Blk.row_far HCQ.out HNcq.out _)
 have HBcr2 := Lib.hid (show Blk w2 cr 3 #[.int .i64 v] by rw [hw]; exact Blk.row_far HCR.out HNcr.out _)
 have HBQ2 := Lib.hid (show Blk w2 q 67 (grpA G v1 (.slice A2 G.waits.length c2)) by rw [hw]; exact Blk.row_far HQ.out HNQE.out _)
 have HFr_2 := Lib.hid (show (w2).ownsRow lo 55 4 (.slice A2 G.waits.length c2) G.waits.length (rowsOf waitL G.waits) by rw [hw]; exact own_row_far HOW.out HGA.out _)
 clear hw HSU HB HCP HCQ HCR HQ HOW
 refine wpList_nil ?_
 go_upto_region 2 with fail
 refine wp_region_lit ?_
 refine wpList_q (by rfl) (.bool true) ?he ?_
 case he => exact exec_cell 4 _ _ HBcp2.out rfl rfl rfl Try.underlying4 rfl
 (try simp only [Act.put, sA, sB, sC])
 refine wpList_nil ?_
 go_upto_region 3 with fail
 refine wp_region_lit ?_
 refine tkL (.pointer (some ⟨g, off, none⟩)) (h := ?_)
 (try simp only [Act.put, sA, sB, sC])
 refine wpList_q (by rfl) (.agg #[.int .u64 0, .int .u64 0, .int .u64 0]) ?he ?_
 case he => kernel_rfl
 (try simp only [Act.put, sA, sB, sC])
 refine tkL (.pointer (some ⟨g, off, none⟩)) (h := ?_)
 (try simp only [Act.put, sA, sB, sC])
 refine tkL (.pointer (some ⟨g, off + 12, none⟩)) (h := ?_)
 (try simp only [Act.put, sA, sB, sC])
 refine wpList_wp (by rfl) (fun K hK => ?_)
 refine wp_st_part 28 _ _ rfl (el P #[.int .i64 x.ds, .int .i64 x.da, .int .i64 x.un, .int .i64 x.wy, .int .i64 x.ti, .int .i64 x.ju, .int .i64 x.lo, .bool x.bl, .bool true, .int .i64 x.mo, .int .i64 x.ta, .bool x.ho, .int .u64 0, .int .u64 0, .int .u64 0] S) (#[.int .u64 0, .int .u64 0, .int .u64 0]) rfl rfl HBE2.out (el_le (j := 12) HP.out (by show 12 + 3 ≤ 15; decide)) (el_put (j := 12) HP.out (by show 12 + 3 ≤ 15; decide) rfl) (by simp [cfgA, carA, waitA, grpA, Value.oneCell']) (by kernel_rfl) ?_
 intro w3 hw
 refine hK.out _ _ ?_
 clear hK K
 (try simp only [Act.put, sA, sB, sC])
 have HS3 := Lib.hid (show Upd (g :: blkOf A2) w w3 by rw [hw]; exact Upd.setRow HS2.out (.inl (by simp)) _)
 have HBE3 := Lib.hid (show Blk w3 g 30 (el P #[.int .i64 x.ds, .int .i64 x.da, .int .i64 x.un, .int .i64 x.wy, .int .i64 x.ti, .int .i64 x.ju, .int .i64 x.lo, .bool x.bl, .bool true, .int .i64 x.mo, .int .i64 x.ta, .bool x.ho, .int .u64 0, .int .u64 0, .int .u64 0] S) by rw [hw]; exact Blk.row HBE2.out _)
 have HBcp3 := Lib.hid (show Blk w3 cp 4 #[.bool true] by rw [hw]; exact Blk.row_far HBcp2.out HNcp.out _)
 have HBcq3 := Lib.hid (show Blk w3 cq 43 #[.pointer (some ⟨q, 0, none⟩)] by rw [hw]; exact Blk.row_far HBcq2.out HNcq.out _)
 have HBcr3 := Lib.hid (show Blk w3 cr 3 #[.int .i64 v] by rw [hw]; exact Blk.row_far HBcr2.out HNcr.out _)
 have HBQ3 := Lib.hid (show Blk w3 q 67 (grpA G v1 (.slice A2 G.waits.length c2)) by rw [hw]; exact Blk.row_far HBQ2.out HNQE.out _)
 have HFr_3 := Lib.hid (show (w3).ownsRow lo 55 4 (.slice A2 G.waits.length c2) G.waits.length (rowsOf waitL G.waits) by rw [hw]; exact own_row_far HFr_2.out HGA.out _)
 clear hw HS2 HBE2 HBcp2 HBcq2 HBcr2 HBQ2 HFr_2
 refine wpList_nil ?_
 go_upto_region 4 with fail
 refine wp_region_lit ?_
 refine wpList_q (by rfl) (.pointer (some ⟨q, 0, none⟩)) ?he ?_
 case he => exact exec_cell 43 _ _ HBcq3.out rfl rfl rfl Try.underlying43 rfl
 (try simp only [Act.put, sA, sB, sC])
 refine wpList_q (by rfl) (.int .i64 v) ?he ?_
 case he => exact exec_cell 3 _ _ HBcr3.out rfl rfl rfl Try.underlying3 rfl
 (try simp only [Act.put, sA, sB, sC])
 refine wpList_wp (by rfl) (fun K hK => ?_)
 (try go_simp)
 refine (disownT lo q G v1 A2 c2 v _ HBQ3 HFr_3 HL.out HNQ.out).mono ?_
 rintro e w9 ⟨rfl, hW, hU⟩
 (try go_wp2_with fail)
 refine hK.out _ _ ?_
 clear hK K
 (try simp only [Act.put, sA, sB, sC])
 have HS9 := Lib.hid (Upd.comp HS3.out hU (fun _ h => .inl (List.mem_cons_of_mem _ h))); have HE9 := Lib.hid (hU.blk HBE3.out HGA.out)
 refine wpList_nil ?_
 go_upto_region 5 with fail
 refine wp_region_lit ?_
 refine tkL (.int .i64 0) (h := ?_)
 (try simp only [Act.put, sA, sB, sC])
 refine wpList_nil ?_
 (try go_wp2_with fail)
 go_ret
 exact ⟨rfl, HE9.out, hW, HS9.out⟩
set_option maxHeartbeats 4000000 in
theorem fault1F (g off : Nat) (P S : List Value) (x : CarV) (cp cq cr q : Nat) (v : Int) (w : World) (hb : Blk w g 30 (el P (carA x) S)) (hp : P.length = off) (hcp : Blk w cp 4 #[.bool false]) (hcq : Blk w cq 43 #[.pointer (some ⟨q, 0, none⟩)]) (hcr : Blk w cr 3 #[.int .i64 v]) : Calls Try.prog 62 #[.pointer (some ⟨g, off, none⟩), .pointer (some ⟨cp, 0, none⟩), .pointer (some ⟨cq, 0, none⟩), .pointer (some ⟨cr, 0, none⟩)] w fun e w' => e = .returned (.int .i64 0) ∧ Blk w' g 30 (el P (carA { x with br := false }) S) ∧ Upd [g] w w' := by
 have HB := Lib.hid hb
 clear hb
 have HP := Lib.hid hp
 clear hp
 have HCP := Lib.hid hcp
 clear hcp
 have HCQ := Lib.hid hcq
 clear hcq
 have HCR := Lib.hid hcr
 clear hcr
 have HNcp := Lib.hid (Blk.ne_ HCP.out HB.out (by decide))
 have HNcq := Lib.hid (Blk.ne_ HCQ.out HB.out (by decide))
 have HNcr := Lib.hid (Blk.ne_ HCR.out HB.out (by decide))
 go_enter Try.func62, Try.ntmps62
 go_upto_region 1 with fail
 have HSU := Lib.hid (Upd.refl [g] w)
 refine wp_region_lit ?_
 refine tkL (.pointer (some ⟨g, off, none⟩)) (h := ?_)
 (try simp only [Act.put, sA, sB, sC])
 refine wpList_q (by rfl) (.bool false) ?he ?_
 case he => exact exec_cell 4 _ _ HCP.out rfl rfl rfl Try.underlying4 rfl
 (try simp only [Act.put, sA, sB, sC])
 refine tkL (.pointer (some ⟨g, off, none⟩)) (h := ?_)
 (try simp only [Act.put, sA, sB, sC])
 refine tkL (.pointer (some ⟨g, off + 8, none⟩)) (h := ?_)
 (try simp only [Act.put, sA, sB, sC])
 refine wpList_wp (by rfl) (fun K hK => ?_)
 refine wp_st_cell 4 _ _ rfl (el P #[.int .i64 x.ds, .int .i64 x.da, .int .i64 x.un, .int .i64 x.wy, .int .i64 x.ti, .int .i64 x.ju, .int .i64 x.lo, .bool x.bl, .bool false, .int .i64 x.mo, .int .i64 x.ta, .bool x.ho, .int .u64 x.sp, .int .u64 x.su, .int .u64 x.sd] S) (.bool false) rfl rfl HB.out (el_lt (j := 8) HP.out (by show 8 < 15; decide)) (el_set (j := 8) HP.out (by show 8 < 15; decide) rfl) (by first | rfl | simp [Value.oneCell']) (by kernel_rfl) ?_
 intro w2 hw
 refine hK.out _ _ ?_
 clear hK K
 (try simp only [Act.put, sA, sB, sC])
 have HS2 := Lib.hid (show Upd [g] w w2 by rw [hw]; exact Upd.setRow HSU.out (.inl (by simp)) _)
 have HBE2 := Lib.hid (show Blk w2 g 30 (el P #[.int .i64 x.ds, .int .i64 x.da, .int .i64 x.un, .int .i64 x.wy, .int .i64 x.ti, .int .i64 x.ju, .int .i64 x.lo, .bool x.bl, .bool false, .int .i64 x.mo, .int .i64 x.ta, .bool x.ho, .int .u64 x.sp, .int .u64 x.su, .int .u64 x.sd] S) by rw [hw]; exact Blk.row HB.out _)
 have HBcp2 := Lib.hid (show Blk w2 cp 4 #[.bool false] by rw [hw]; exact Blk.row_far HCP.out HNcp.out _)
 have HBcq2 := Lib.hid (show Blk w2 cq 43 #[.pointer (some ⟨q, 0, none⟩)] by rw [hw]; exact Blk.row_far HCQ.out HNcq.out _)
 have HBcr2 := Lib.hid (show Blk w2 cr 3 #[.int .i64 v] by rw [hw]; exact Blk.row_far HCR.out HNcr.out _)
 clear hw HSU HB HCP HCQ HCR
 refine wpList_nil ?_
 go_upto_region 2 with fail
 refine wp_region_lit ?_
 refine wpList_q (by rfl) (.bool false) ?he ?_
 case he => exact exec_cell 4 _ _ HBcp2.out rfl rfl rfl Try.underlying4 rfl
 (try simp only [Act.put, sA, sB, sC])
 refine wpList_nil ?_
 go_upto_region 5 with fail
 refine wp_region_lit ?_
 refine tkL (.int .i64 0) (h := ?_)
 (try simp only [Act.put, sA, sB, sC])
 refine wpList_nil ?_
 (try go_wp2_with fail)
 go_ret
 exact ⟨rfl, HBE2.out, HS2.out⟩
set_option maxHeartbeats 4000000 in
theorem faultL (q : Nat) (G : GrV) (A : Option Addr) (n c1 : Nat) (v2 : Value) (i : Int) (v : Bool) (w : World) (hq : Blk w q 67 (grpA G (.slice A n c1) v2)) (hi : i < 0) : Calls Try.prog 39 #[.pointer (some ⟨q, 0, none⟩), .int .i64 i, .bool v] w fun e w' => e = .returned (.int .i64 1) ∧ Since w w' := by
 have HQ := Lib.hid hq
 clear hq
 have HI := Lib.hid hi
 clear hi
 go_enter Try.func39, Try.ntmps39
 go_upto_region 1 with fail
 obtain ⟨w1, hw1⟩ : ∃ w1, w1 = (((w.alloc (.cells #[.pointer (some ⟨q, 0, none⟩)] 43)).alloc (.cells #[.int .i64 i] 3)).alloc (.cells #[.bool v] 4)) := ⟨_, rfl⟩
 rw [← hw1]
 have HBP1 := Lib.hid (show Blk w1 (w.heap.size) 43 #[.pointer (some ⟨q, 0, none⟩)] by rw [hw1]; exact Blk.alloc (Blk.alloc (Blk.at_ (by (try simp only [size_alloc])) _ _) _) _)
 have HBC1 := Lib.hid (show Blk w1 (w.heap.size + 1) 3 #[.int .i64 i] by rw [hw1]; exact Blk.alloc (Blk.at_ (by (try simp only [size_alloc])) _ _) _)
 have HBV1 := Lib.hid (show Blk w1 (w.heap.size + 1 + 1) 4 #[.bool v] by rw [hw1]; exact Blk.at_ (by (try simp only [size_alloc])) _ _)
 have HS1 := Lib.hid (show Since w w1 by rw [hw1]; exact Since.alloc (Since.alloc (Since.alloc (Since.refl w) _) _) _)
 have hNE : w.heap.size ≤ w.heap.size ∧ w.heap.size < w.heap.size + 1 ∧ w.heap.size + 1 < w.heap.size + 1 + 1 := by omega
 have HNE := Lib.hid hNE
 clear hNE hw1
 generalize w.heap.size + 1 + 1 = bV at *
 generalize w.heap.size + 1 = bC at *
 have HNE3 := Lib.hid (show w.heap.size ≤ w.heap.size ∧ w.heap.size < bC ∧ bC < bV from HNE.out)
 clear HNE
 have HQ1 := Lib.hid (keep_blk HS1.out HQ.out)
 refine wp_region_lit ?_
 refine wpList_q (by rfl) (.pointer (some ⟨q, 0, none⟩)) ?he ?_
 case he => exact exec_cell 43 _ _ HBP1.out rfl rfl rfl Try.underlying43 rfl
 (try simp only [Act.put, sA, sB, sC])
 refine wpList_q (by rfl) (.int .i64 i) ?he ?_
 case he => exact exec_cell 3 _ _ HBC1.out rfl rfl rfl Try.underlying3 rfl
 (try simp only [Act.put, sA, sB, sC])
 refine wpList_q (by rfl) (.func (.func 62) #[] #[.pointer (some ⟨bV, 0, none⟩), .pointer (some ⟨w.heap.size, 0, none⟩), .pointer (some ⟨bC, 0, none⟩)]) ?he ?_
 case he => (first | rfl | (go_simp; (try rfl)))
 (try simp only [Act.put, sA, sB, sC])
 refine wpList_wp (by rfl) (fun K hK => ?_)
 (try go_simp)
 refine (changeL q G A n c1 v2 i _ _ HQ1.out HI.out).mono ?_
 rintro e w' ⟨rfl, rfl⟩
 (try go_wp2_with fail)
 refine hK.out _ _ ?_
 clear hK K
 (try simp only [Act.put, sA, sB, sC])
 refine tkL (.int .i64 1) (h := ?_)
 (try simp only [Act.put, sA, sB, sC])
 refine wpList_nil ?_
 (try go_wp2_with fail)
 go_ret
 exact ⟨rfl, HS1.out⟩
set_option maxHeartbeats 4000000 in
theorem faultH (q : Nat) (G : GrV) (A : Option Addr) (n c1 : Nat) (v2 : Value) (i : Int) (v : Bool) (w : World) (hq : Blk w q 67 (grpA G (.slice A n c1) v2)) (hi : 0 ≤ i) (hj : (n : Int) ≤ i) : Calls Try.prog 39 #[.pointer (some ⟨q, 0, none⟩), .int .i64 i, .bool v] w fun e w' => e = .returned (.int .i64 1) ∧ Since w w' := by
 have HQ := Lib.hid hq
 clear hq
 have HI := Lib.hid hi
 clear hi
 have HJ := Lib.hid hj
 clear hj
 go_enter Try.func39, Try.ntmps39
 go_upto_region 1 with fail
 obtain ⟨w1, hw1⟩ : ∃ w1, w1 = (((w.alloc (.cells #[.pointer (some ⟨q, 0, none⟩)] 43)).alloc (.cells #[.int .i64 i] 3)).alloc (.cells #[.bool v] 4)) := ⟨_, rfl⟩
 rw [← hw1]
 have HBP1 := Lib.hid (show Blk w1 (w.heap.size) 43 #[.pointer (some ⟨q, 0, none⟩)] by rw [hw1]; exact Blk.alloc (Blk.alloc (Blk.at_ (by (try simp only [size_alloc])) _ _) _) _)
 have HBC1 := Lib.hid (show Blk w1 (w.heap.size + 1) 3 #[.int .i64 i] by rw [hw1]; exact Blk.alloc (Blk.at_ (by (try simp only [size_alloc])) _ _) _)
 have HBV1 := Lib.hid (show Blk w1 (w.heap.size + 1 + 1) 4 #[.bool v] by rw [hw1]; exact Blk.at_ (by (try simp only [size_alloc])) _ _)
 have HS1 := Lib.hid (show Since w w1 by rw [hw1]; exact Since.alloc (Since.alloc (Since.alloc (Since.refl w) _) _) _)
 have hNE : w.heap.size ≤ w.heap.size ∧ w.heap.size < w.heap.size + 1 ∧ w.heap.size + 1 < w.heap.size + 1 + 1 := by omega
 have HNE := Lib.hid hNE
 clear hNE hw1
 generalize w.heap.size + 1 + 1 = bV at *
 generalize w.heap.size + 1 = bC at *
 have HNE3 := Lib.hid (show w.heap.size ≤ w.heap.size ∧ w.heap.size < bC ∧ bC < bV from HNE.out)
 clear HNE
 have HQ1 := Lib.hid (keep_blk HS1.out HQ.out)
 refine wp_region_lit ?_
 refine wpList_q (by rfl) (.pointer (some ⟨q, 0, none⟩)) ?he ?_
 case he => exact exec_cell 43 _ _ HBP1.out rfl rfl rfl Try.underlying43 rfl
 (try simp only [Act.put, sA, sB, sC])
 refine wpList_q (by rfl) (.int .i64 i) ?he ?_
 case he => exact exec_cell 3 _ _ HBC1.out rfl rfl rfl Try.underlying3 rfl
 (try simp only [Act.put, sA, sB, sC])
 refine wpList_q (by rfl) (.func (.func 62) #[] #[.pointer (some ⟨bV, 0, none⟩), .pointer (some ⟨w.heap.size, 0, none⟩), .pointer (some ⟨bC, 0, none⟩)]) ?he ?_
 case he => (first | rfl | (go_simp; (try rfl)))
 (try simp only [Act.put, sA, sB, sC])
 refine wpList_wp (by rfl) (fun K hK => ?_)
 (try go_simp)
 refine (changeH q G A n c1 v2 i _ _ HQ1.out HI.out HJ.out).mono ?_
 rintro e w' ⟨rfl, rfl⟩
 (try go_wp2_with fail)
 refine hK.out _ _ ?_
 clear hK K
 (try simp only [Act.put, sA, sB, sC])
 refine tkL (.int .i64 1) (h := ?_)
 (try simp only [Act.put, sA, sB, sC])
 refine wpList_nil ?_
 (try go_wp2_with fail)
 go_ret
 exact ⟨rfl, HS1.out⟩
set_option maxHeartbeats 4000000 in
theorem faultIF (lo q : Nat) (G : GrV) (S : List Nat) (i : Nat) (w : World) (hg : GO lo q G S w) (hi : i < G.cars.length) : Calls Try.prog 39 #[.pointer (some ⟨q, 0, none⟩), .int .i64 (i : Int), .bool false] w fun e w' => e = .returned (.int .i64 0) ∧ GO lo q (G.car i { (G.cars[i]'hi) with br := false }) S w' ∧ Upd S w w' := by
 obtain ⟨g, c1, v2, P, S1, hq, hP, hE, hput⟩ := hg.open_car hi
 have HQ := Lib.hid hq; have HP := Lib.hid hP; have HE := Lib.hid hE; have HPUT := Lib.hid hput; have HLE := Lib.hid (Blk.lt hE)
 clear hq hP hE hput hg
 have HI := Lib.hid hi
 go_enter Try.func39, Try.ntmps39
 go_upto_region 1 with fail
 obtain ⟨w1, hw1⟩ : ∃ w1, w1 = (((w.alloc (.cells #[.pointer (some ⟨q, 0, none⟩)] 43)).alloc (.cells #[.int .i64 (i : Int)] 3)).alloc (.cells #[.bool false] 4)) := ⟨_, rfl⟩
 rw [← hw1]
 have HBP1 := Lib.hid (show Blk w1 (w.heap.size) 43 #[.pointer (some ⟨q, 0, none⟩)] by rw [hw1]; exact Blk.alloc (Blk.alloc (Blk.at_ (by (try simp only [size_alloc])) _ _) _) _)
 have HBC1 := Lib.hid (show Blk w1 (w.heap.size + 1) 3 #[.int .i64 (i : Int)] by rw [hw1]; exact Blk.alloc (Blk.at_ (by (try simp only [size_alloc])) _ _) _)
 have HBV1 := Lib.hid (show Blk w1 (w.heap.size + 1 + 1) 4 #[.bool false] by rw [hw1]; exact Blk.at_ (by (try simp only [size_alloc])) _ _)
 have HS1 := Lib.hid (show Since w w1 by rw [hw1]; exact Since.alloc (Since.alloc (Since.alloc (Since.refl w) _) _) _)
 have hNE : w.heap.size ≤ w.heap.size ∧ w.heap.size < w.heap.size + 1 ∧ w.heap.size + 1 < w.heap.size + 1 + 1 := by omega
 have HNE := Lib.hid hNE
 clear hNE hw1
 generalize w.heap.size + 1 + 1 = bV at *
 generalize w.heap.size + 1 = bC at *
 have HNE3 := Lib.hid (show w.heap.size ≤ w.heap.size ∧ w.heap.size < bC ∧ bC < bV from HNE.out)
 clear HNE
 have HQ1 := Lib.hid (keep_blk HS1.out HQ.out); have HE1 := Lib.hid (keep_blk HS1.out HE.out)
 refine wp_region_lit ?_
 refine wpList_q (by rfl) (.pointer (some ⟨q, 0, none⟩)) ?he ?_
 case he => exact exec_cell 43 _ _ HBP1.out rfl rfl rfl Try.underlying43 rfl
 (try simp only [Act.put, sA, sB, sC])
 refine wpList_q (by rfl) (.int .i64 (i : Int)) ?he ?_
 case he => exact exec_cell 3 _ _ HBC1.out rfl rfl rfl Try.underlying3 rfl
 (try simp only [Act.put, sA, sB, sC])
 refine wpList_q (by rfl) (.func (.func 62) #[] #[.pointer (some ⟨bV, 0, none⟩), .pointer (some ⟨w.heap.size, 0, none⟩), .pointer (some ⟨bC, 0, none⟩)]) ?he ?_
 case he => (first | rfl | (go_simp; (try rfl)))
 (try simp only [Act.put, sA, sB, sC])
 refine wpList_wp (by rfl) (fun K hK => ?_)
 (try go_simp)
 refine (change3 q g G G.cars.length c1 v2 i 62 (.pointer (some ⟨bV, 0, none⟩)) (.pointer (some ⟨w.heap.size, 0, none⟩)) (.pointer (some ⟨bC, 0, none⟩)) 0 _ _ HQ1.out HI.out (fun args w1 => enterF Try.func62 (by kernel_rfl) rfl args w1) (fault1F g (i * 15) P S1 (G.cars[i]'HI.out) bV (w.heap.size) bC q (i : Int) _ HE1.out HP.out HBV1.out HBP1.out HBC1.out)).mono ?_
 rintro e w9 ⟨rfl, hB, hU⟩
 (try go_wp2_with fail)
 refine hK.out _ _ ?_
 clear hK K
 (try simp only [Act.put, sA, sB, sC])
 refine tkL (.int .i64 0) (h := ?_)
 (try simp only [Act.put, sA, sB, sC])
 refine wpList_nil ?_
 (try go_wp2_with fail)
 go_ret
 exact ⟨rfl, HPUT.out _ w1 _ HS1.out hB hU⟩
set_option maxHeartbeats 4000000 in
theorem faultIT (lo q : Nat) (G : GrV) (S : List Nat) (i : Nat) (w : World) (hg : GO lo q G S w) (hi : i < G.cars.length) (hl : G.waits.length ≤ 10000) : Calls Try.prog 39 #[.pointer (some ⟨q, 0, none⟩), .int .i64 (i : Int), .bool true] w fun e w' => e = .returned (.int .i64 0) ∧ GO lo q { G.car i { (G.cars[i]'hi) with br := true, sp := 0, su := 0, sd := 0 } with waits := G.waits.map (disW (i : Int)) } S w' ∧ Upd S w w' := by
 have HI := Lib.hid hi
 obtain ⟨g, c1, A2, c2, P, S1, hq, hW0, hP, hE, hga, hqa, hqg, hput⟩ := hg.open_all hi
 have HQ := Lib.hid hq; have HW0 := Lib.hid hW0; have HP := Lib.hid hP; have HE := Lib.hid hE; have HGA := Lib.hid hga; have HQA := Lib.hid hqa; have HPUT := Lib.hid hput
 clear hq hW0 hP hE hga hqa hqg hput hg
 have HL := Lib.hid hl
 clear hl
 go_enter Try.func39, Try.ntmps39
 go_upto_region 1 with fail
 obtain ⟨w1, hw1⟩ : ∃ w1, w1 = (((w.alloc (.cells #[.pointer (some ⟨q, 0, none⟩)] 43)).alloc (.cells #[.int .i64 (i : Int)] 3)).alloc (.cells #[.bool true] 4)) := ⟨_, rfl⟩
 rw [← hw1]
 have HBP1 := Lib.hid (show Blk w1 (w.heap.size) 43 #[.pointer (some ⟨q, 0, none⟩)] by rw [hw1]; exact Blk.alloc (Blk.alloc (Blk.at_ (by (try simp only [size_alloc])) _ _) _) _)
 have HBC1 := Lib.hid (show Blk w1 (w.heap.size + 1) 3 #[.int .i64 (i : Int)] by rw [hw1]; exact Blk.alloc (Blk.at_ (by (try simp only [size_alloc])) _ _) _)
 have HBV1 := Lib.hid (show Blk w1 (w.heap.size + 1 + 1) 4 #[.bool true] by rw [hw1]; exact Blk.at_ (by (try simp only [size_alloc])) _ _)
 have HS1 := Lib.hid (show Since w w1 by rw [hw1]; exact Since.alloc (Since.alloc (Since.alloc (Since.refl w) _) _) _)
 have hNE : w.heap.size ≤ w.heap.size ∧ w.heap.size < w.heap.size + 1 ∧ w.heap.size + 1 < w.heap.size + 1 + 1 := by omega
 have HNE := Lib.hid hNE
 clear hNE hw1
 generalize w.heap.size + 1 + 1 = bV at *
 generalize w.heap.size + 1 = bC at *
 have HNE3 := Lib.hid (show w.heap.size ≤ w.heap.size ∧ w.heap.size < bC ∧ bC < bV from HNE.out)
 clear HNE
 have HQ1 := Lib.hid (keep_blk HS1.out HQ.out); have HE1 := Lib.hid (keep_blk HS1.out HE.out); have HW1 := Lib.hid (show WaitsAt lo A2 G.waits.length c2 G.waits w1 from keep_own HS1.out HW0.out)
 refine wp_region_lit ?_
 refine wpList_q (by rfl) (.pointer (some ⟨q, 0, none⟩)) ?he ?_
 case he => exact exec_cell 43 _ _ HBP1.out rfl rfl rfl Try.underlying43 rfl
 (try simp only [Act.put, sA, sB, sC])
 refine wpList_q (by rfl) (.int .i64 (i : Int)) ?he ?_
 case he => exact exec_cell 3 _ _ HBC1.out rfl rfl rfl Try.underlying3 rfl
 (try simp only [Act.put, sA, sB, sC])
 refine wpList_q (by rfl) (.func (.func 62) #[] #[.pointer (some ⟨bV, 0, none⟩), .pointer (some ⟨w.heap.size, 0, none⟩), .pointer (some ⟨bC, 0, none⟩)]) ?he ?_
 case he => (first | rfl | (go_simp; (try rfl)))
 (try simp only [Act.put, sA, sB, sC])
 refine wpList_wp (by rfl) (fun K hK => ?_)
 (try go_simp)
 refine (change3 q g G G.cars.length c1 _ i 62 (.pointer (some ⟨bV, 0, none⟩)) (.pointer (some ⟨w.heap.size, 0, none⟩)) (.pointer (some ⟨bC, 0, none⟩)) 0 (fun w' => Blk w' g 30 (el P (carA { (G.cars[i]'HI.out) with br := true, sp := 0, su := 0, sd := 0 }) S1) ∧ WaitsAt lo A2 G.waits.length c2 (G.waits.map (disW (i : Int))) w' ∧ Upd (g :: blkOf A2) w1 w') _ HQ1.out HI.out (fun args w1 => enterF Try.func62 (by kernel_rfl) rfl args w1) (fault1T g (i * 15) P S1 (G.cars[i]'HI.out) bV (w.heap.size) bC q (i : Int) lo G (.slice (some ⟨g, 0, none⟩) G.cars.length c1) A2 c2 _ HE1.out HP.out HBV1.out HBP1.out HBC1.out HQ1.out HW1.out HL.out HQA.out HGA.out)).mono ?_
 rintro e w9 ⟨rfl, hB, hW, hU⟩
 (try go_wp2_with fail)
 refine hK.out _ _ ?_
 clear hK K
 (try simp only [Act.put, sA, sB, sC])
 refine tkL (.int .i64 0) (h := ?_)
 (try simp only [Act.put, sA, sB, sC])
 refine wpList_nil ?_
 (try go_wp2_with fail)
 go_ret
 exact ⟨rfl, HPUT.out _ (G.waits.map (disW (i : Int))) _ _ (List.length_map _) HS1.out hB hW hU⟩
theorem hasCV (q : Nat) (G : GrV) (v1 v2 : Value) (f wy : Int) (b : Bool) (w : World) (hq : Blk w q 67 (grpA G v1 v2)) (hb : hasC G.c f wy = b) : Calls Try.prog 51 #[.pointer (some ⟨q, 0, none⟩), .agg #[.int .i64 f, .int .i64 wy]] w fun e w' => e = .returned (.bool b) ∧ Since w w' := by subst hb; exact hasCT q G v1 v2 f wy w hq
theorem findV (lo q : Nat) (G : GrV) (v1 : Value) (A2 : Option Addr) (c2 : Nat) (f wy : Int) (y : Option Nat) (w : World) (hq : Blk w q 67 (grpA G v1 (.slice A2 G.waits.length c2))) (ho : WaitsAt lo A2 G.waits.length c2 G.waits w) (hl : G.waits.length ≤ 10000) (hf : atP G.waits (isW f wy) = y) :
    Calls Try.prog 47 #[.pointer (some ⟨q, 0, none⟩), .agg #[.int .i64 f, .int .i64 wy]] w fun e w' => e = .returned (.int .i64 (oI y)) ∧ Since w w' := by subst hf; exact findT lo q G v1 A2 c2 f wy w hq ho hl
set_option maxHeartbeats 4000000 in
theorem hallA (lo q : Nat) (G : GrV) (S : List Nat) (f wy : Int) (w : World) (hg : GO lo q G S w) (hl : G.waits.length ≤ 10000) (hc : hasC G.c f wy = false) : Calls Try.prog 24 #[.pointer (some ⟨q, 0, none⟩), .int .i64 f, .int .i64 wy] w fun e w' => e = .returned (.int .i64 1) ∧ GO lo q G S w' ∧ Upd S w w' := by
 obtain ⟨h0, A1, c1, A2, c2, rfl, B, O1, O2⟩ := hg
 have H0 := Lib.hid h0; have HQL := Lib.hid B.lt; have HQ := Lib.hid B; have HO1 := Lib.hid O1; have HO2 := Lib.hid O2; have HIQ1 := Lib.hid (own_ne_ty O1 B (by decide)); have HIQ2 := Lib.hid (own_ne_ty O2 B (by decide)); have HD12 := Lib.hid (show ∀ g ∈ blkOf A1, g ∉ blkOf A2 from fun g h1 h2 => by rcases own_at O1 with ⟨rfl, _⟩ | ⟨g1, cur, rfl, _, B1, _⟩; cases h1; exact own_ne_ty O2 B1 (by decide) (by simp [blkOf] at h1; exact h1 ▸ h2))
 clear B O1 O2 h0
 have HL := Lib.hid hl
 clear hl
 have HC := Lib.hid hc
 clear hc
 go_enter Try.func24, Try.ntmps24
 go_upto_region 1 with fail
 have HS1 := Lib.hid (Since.refl w)
 refine wp_region_lit ?_
 refine tkL (.int .i64 f) (h := ?_)
 (try simp only [Act.put, sA, sB, sC])
 refine tkL (.int .i64 wy) (h := ?_)
 (try simp only [Act.put, sA, sB, sC])
 refine wpList_q (by rfl) (.agg #[.int .i64 f, .int .i64 wy]) ?he ?_
 case he => kernel_rfl
 (try simp only [Act.put, sA, sB, sC])
 refine wpList_wp (by rfl) (fun K hK => ?_)
 refine wp_new (fun b => .pointer (some ⟨b, 0, none⟩)) 32 #[.int .i64 0, .int .i64 0] (by rintro b rfl; first | rfl | kernel_rfl) ?_
 intro bn7 w2 hge hB hb
 refine hK.out _ _ ?_
 clear hK K
 (try simp only [Act.put, sA, sB, sC])
 have HNn7Q := Lib.hid (show bn7 ≠ q by have := Blk.lt HQ.out; omega)
 have HGn7 := Lib.hid (show w.heap.size ≤ bn7 by have := Since.size HS1.out; omega)
 have HIn7_c := Lib.hid (own_far HO1.out hge)
 have HIn7_r := Lib.hid (own_far HO2.out hge)
 have HS2 := Lib.hid (Since.trans HS1.out hb)
 have HBQ2 := Lib.hid (keep_blk hb HQ.out)
 have HFc2 := Lib.hid (keep_own hb HO1.out)
 have HFr2 := Lib.hid (keep_own hb HO2.out)
 clear HS1 HQ HO1 HO2
 clear hb hge
 have HBn72 := Lib.hid hB
 clear hB
 refine wpList_wp (by rfl) (fun K hK => ?_)
 refine wp_st_row 32 _ _ rfl #[.int .i64 f, .int .i64 wy] rfl rfl (HasRow.of HBn72.out rfl) rfl (by simp [cfgA, carA, waitA, grpA, Value.oneCell']) (by kernel_rfl) ?_
 intro w3 hw
 refine hK.out _ _ ?_
 clear hK K
 (try simp only [Act.put, sA, sB, sC])
 have HS3 := Lib.hid (show Since w w3 by rw [hw]; exact Since.setRow HS2.out HGn7.out _)
 have HBQ3 := Lib.hid (show Blk w3 q 67 #[.int .i64 G.c.ca, .int .i64 G.c.fl, .int .i64 G.c.ft, .int .i64 G.c.se, .int .i64 G.c.dr, .int .i64 G.c.dw, .int .i64 G.c.ho, .int .i64 G.c.re, .int .i64 G.c.yi, .int .i64 G.c.qu, .int .i64 G.c.qo, .int .i64 G.c.lo, .int .i64 G.c.sl, .int .i64 G.c.rt, .int .i64 G.c.cp, .int .i64 G.c.tr, .int .i64 G.c.de, .int .i64 G.c.wi, .slice A1 G.cars.length c1, .slice A2 G.waits.length c2, .int .i64 G.now] by rw [hw]; exact Blk.row_far HBQ2.out (Ne.symm HNn7Q.out) _)
 have HBn73 := Lib.hid (show Blk w3 bn7 32 #[.int .i64 f, .int .i64 wy] by rw [hw]; exact Blk.row HBn72.out _)
 have HFc_3 := Lib.hid (show (w3).ownsRow lo 30 15 (.slice A1 G.cars.length c1) G.cars.length (rowsOf carL G.cars) by rw [hw]; exact own_row_far HFc2.out HIn7_c.out _)
 have HFr_3 := Lib.hid (show (w3).ownsRow lo 55 4 (.slice A2 G.waits.length c2) G.waits.length (rowsOf waitL G.waits) by rw [hw]; exact own_row_far HFr2.out HIn7_r.out _)
 clear hw HS2 HBQ2 HBn72 HFc2 HFr2
 refine wpList_nil ?_
 go_upto_region 2 with fail
 refine wp_region_lit ?_
 refine tkL (.pointer (some ⟨q, 0, none⟩)) (h := ?_)
 (try simp only [Act.put, sA, sB, sC])
 refine wpList_q (by rfl) (.agg #[.int .i64 f, .int .i64 wy]) ?he ?_
 case he => exact exec_load_row 32 _ _ HBn73.out rfl rfl Try.underlying32 rfl (by kernel_rfl)
 (try simp only [Act.put, sA, sB, sC])
 refine wpList_wp (by rfl) (fun K hK => ?_)
 (try go_simp)
 refine (hasCV q G _ _ f wy false _ HBQ3.out HC.out).mono ?_
 rintro e w4 ⟨rfl, hb⟩
 (try go_wp2_with fail)
 refine hK.out _ _ ?_
 clear hK K
 (try simp only [Act.put, sA, sB, sC])
 have HS4 := Lib.hid (Since.trans HS3.out hb)
 have HBQ4 := Lib.hid (keep_blk hb HBQ3.out)
 have HBn74 := Lib.hid (keep_blk hb HBn73.out)
 have HFc4 := Lib.hid (keep_own hb HFc_3.out)
 have HFr4 := Lib.hid (keep_own hb HFr_3.out)
 clear HS3 HBQ3 HBn73 HFc_3 HFr_3
 clear hb
 refine wpList_q (by rfl) (.bool true) ?he ?_
 case he => (go_simp; (try with_reducible rfl))
 (try simp only [Act.put, sA, sB, sC])
 refine wpList_nil ?_
 go_upto_region 3 with fail
 refine wp_region_lit ?_
 refine tkL (.int .i64 1) (h := ?_)
 (try simp only [Act.put, sA, sB, sC])
 refine wpList_nil ?_
 (try go_wp2_with fail)
 go_ret
 exact ⟨rfl, ⟨H0.out, A1, c1, A2, c2, rfl, HBQ4.out, HFc4.out, HFr4.out⟩, Upd.of_since HS4.out⟩
set_option maxHeartbeats 4000000 in
theorem hallB (lo q : Nat) (G : GrV) (S : List Nat) (f wy : Int) (k : Nat) (w : World) (hg : GO lo q G S w) (hl : G.waits.length ≤ 10000) (hc : hasC G.c f wy = true) (hf : atP G.waits (isW f wy) = some k) : Calls Try.prog 24 #[.pointer (some ⟨q, 0, none⟩), .int .i64 f, .int .i64 wy] w fun e w' => e = .returned (.int .i64 0) ∧ GO lo q G S w' ∧ Upd S w w' := by
 obtain ⟨h0, A1, c1, A2, c2, rfl, B, O1, O2⟩ := hg
 have H0 := Lib.hid h0; have HQL := Lib.hid B.lt; have HQ := Lib.hid B; have HO1 := Lib.hid O1; have HO2 := Lib.hid O2; have HIQ1 := Lib.hid (own_ne_ty O1 B (by decide)); have HIQ2 := Lib.hid (own_ne_ty O2 B (by decide)); have HD12 := Lib.hid (show ∀ g ∈ blkOf A1, g ∉ blkOf A2 from fun g h1 h2 => by rcases own_at O1 with ⟨rfl, _⟩ | ⟨g1, cur, rfl, _, B1, _⟩; cases h1; exact own_ne_ty O2 B1 (by decide) (by simp [blkOf] at h1; exact h1 ▸ h2))
 clear B O1 O2 h0
 have HL := Lib.hid hl
 clear hl
 have HC := Lib.hid hc
 clear hc
 have HF := Lib.hid hf
 clear hf
 go_enter Try.func24, Try.ntmps24
 go_upto_region 1 with fail
 have HS1 := Lib.hid (Since.refl w)
 refine wp_region_lit ?_
 refine tkL (.int .i64 f) (h := ?_)
 (try simp only [Act.put, sA, sB, sC])
 refine tkL (.int .i64 wy) (h := ?_)
 (try simp only [Act.put, sA, sB, sC])
 refine wpList_q (by rfl) (.agg #[.int .i64 f, .int .i64 wy]) ?he ?_
 case he => kernel_rfl
 (try simp only [Act.put, sA, sB, sC])
 refine wpList_wp (by rfl) (fun K hK => ?_)
 refine wp_new (fun b => .pointer (some ⟨b, 0, none⟩)) 32 #[.int .i64 0, .int .i64 0] (by rintro b rfl; first | rfl | kernel_rfl) ?_
 intro bn7 w2 hge hB hb
 refine hK.out _ _ ?_
 clear hK K
 (try simp only [Act.put, sA, sB, sC])
 have HNn7Q := Lib.hid (show bn7 ≠ q by have := Blk.lt HQ.out; omega)
 have HGn7 := Lib.hid (show w.heap.size ≤ bn7 by have := Since.size HS1.out; omega)
 have HIn7_c := Lib.hid (own_far HO1.out hge)
 have HIn7_r := Lib.hid (own_far HO2.out hge)
 have HS2 := Lib.hid (Since.trans HS1.out hb)
 have HBQ2 := Lib.hid (keep_blk hb HQ.out)
 have HFc2 := Lib.hid (keep_own hb HO1.out)
 have HFr2 := Lib.hid (keep_own hb HO2.out)
 clear HS1 HQ HO1 HO2
 clear hb hge
 have HBn72 := Lib.hid hB
 clear hB
 refine wpList_wp (by rfl) (fun K hK => ?_)
 refine wp_st_row 32 _ _ rfl #[.int .i64 f, .int .i64 wy] rfl rfl (HasRow.of HBn72.out rfl) rfl (by simp [cfgA, carA, waitA, grpA, Value.oneCell']) (by kernel_rfl) ?_
 intro w3 hw
 refine hK.out _ _ ?_
 clear hK K
 (try simp only [Act.put, sA, sB, sC])
 have HS3 := Lib.hid (show Since w w3 by rw [hw]; exact Since.setRow HS2.out HGn7.out _)
 have HBQ3 := Lib.hid (show Blk w3 q 67 #[.int .i64 G.c.ca, .int .i64 G.c.fl, .int .i64 G.c.ft, .int .i64 G.c.se, .int .i64 G.c.dr, .int .i64 G.c.dw, .int .i64 G.c.ho, .int .i64 G.c.re, .int .i64 G.c.yi, .int .i64 G.c.qu, .int .i64 G.c.qo, .int .i64 G.c.lo, .int .i64 G.c.sl, .int .i64 G.c.rt, .int .i64 G.c.cp, .int .i64 G.c.tr, .int .i64 G.c.de, .int .i64 G.c.wi, .slice A1 G.cars.length c1, .slice A2 G.waits.length c2, .int .i64 G.now] by rw [hw]; exact Blk.row_far HBQ2.out (Ne.symm HNn7Q.out) _)
 have HBn73 := Lib.hid (show Blk w3 bn7 32 #[.int .i64 f, .int .i64 wy] by rw [hw]; exact Blk.row HBn72.out _)
 have HFc_3 := Lib.hid (show (w3).ownsRow lo 30 15 (.slice A1 G.cars.length c1) G.cars.length (rowsOf carL G.cars) by rw [hw]; exact own_row_far HFc2.out HIn7_c.out _)
 have HFr_3 := Lib.hid (show (w3).ownsRow lo 55 4 (.slice A2 G.waits.length c2) G.waits.length (rowsOf waitL G.waits) by rw [hw]; exact own_row_far HFr2.out HIn7_r.out _)
 clear hw HS2 HBQ2 HBn72 HFc2 HFr2
 refine wpList_nil ?_
 go_upto_region 2 with fail
 refine wp_region_lit ?_
 refine tkL (.pointer (some ⟨q, 0, none⟩)) (h := ?_)
 (try simp only [Act.put, sA, sB, sC])
 refine wpList_q (by rfl) (.agg #[.int .i64 f, .int .i64 wy]) ?he ?_
 case he => exact exec_load_row 32 _ _ HBn73.out rfl rfl Try.underlying32 rfl (by kernel_rfl)
 (try simp only [Act.put, sA, sB, sC])
 refine wpList_wp (by rfl) (fun K hK => ?_)
 (try go_simp)
 refine (hasCV q G _ _ f wy true _ HBQ3.out HC.out).mono ?_
 rintro e w4 ⟨rfl, hb⟩
 (try go_wp2_with fail)
 refine hK.out _ _ ?_
 clear hK K
 (try simp only [Act.put, sA, sB, sC])
 have HS4 := Lib.hid (Since.trans HS3.out hb)
 have HBQ4 := Lib.hid (keep_blk hb HBQ3.out)
 have HBn74 := Lib.hid (keep_blk hb HBn73.out)
 have HFc4 := Lib.hid (keep_own hb HFc_3.out)
 have HFr4 := Lib.hid (keep_own hb HFr_3.out)
 clear HS3 HBQ3 HBn73 HFc_3 HFr_3
 clear hb
 refine wpList_q (by rfl) (.bool false) ?he ?_
 case he => (go_simp; (try with_reducible rfl))
 (try simp only [Act.put, sA, sB, sC])
 refine wpList_nil ?_
 go_upto_region 4 with fail
 refine wp_region_lit ?_
 refine tkL (.pointer (some ⟨q, 0, none⟩)) (h := ?_)
 (try simp only [Act.put, sA, sB, sC])
 refine wpList_q (by rfl) (.agg #[.int .i64 f, .int .i64 wy]) ?he ?_
 case he => exact exec_load_row 32 _ _ HBn74.out rfl rfl Try.underlying32 rfl (by kernel_rfl)
 (try simp only [Act.put, sA, sB, sC])
 refine wpList_wp (by rfl) (fun K hK => ?_)
 (try go_simp)
 refine (findV lo q G _ A2 c2 f wy (some k) _ HBQ4.out HFr4.out HL.out HF.out).mono ?_
 rintro e w5 ⟨rfl, hb⟩
 (try go_wp2_with fail)
 refine hK.out _ _ ?_
 clear hK K
 (try simp only [Act.put, sA, sB, sC])
 have HS5 := Lib.hid (Since.trans HS4.out hb)
 have HBQ5 := Lib.hid (keep_blk hb HBQ4.out)
 have HBn75 := Lib.hid (keep_blk hb HBn74.out)
 have HFc5 := Lib.hid (keep_own hb HFc4.out)
 have HFr5 := Lib.hid (keep_own hb HFr4.out)
 clear HS4 HBQ4 HBn74 HFc4 HFr4
 clear hb
 refine wpList_q (by rfl) (.bool false) ?he ?_
 case he => (have q : ¬ (oI (some k) < 0) := (by show ¬ ((k : Int) < 0); omega); go_simp; (first | done | exact q | omega))
 (try simp only [Act.put, sA, sB, sC])
 refine wpList_nil ?_
 go_upto_region 6 with fail
 refine wp_region_lit ?_
 refine tkL (.int .i64 0) (h := ?_)
 (try simp only [Act.put, sA, sB, sC])
 refine wpList_nil ?_
 (try go_wp2_with fail)
 go_ret
 exact ⟨rfl, ⟨H0.out, A1, c1, A2, c2, rfl, HBQ5.out, HFc5.out, HFr5.out⟩, Upd.of_since HS5.out⟩
set_option maxHeartbeats 4000000 in
theorem hallC (lo q : Nat) (G : GrV) (S : List Nat) (f wy : Int) (w : World) (hg : GO lo q G S w) (hl : G.waits.length ≤ 10000) (hc : hasC G.c f wy = true) (hf : atP G.waits (isW f wy) = none) : Calls Try.prog 24 #[.pointer (some ⟨q, 0, none⟩), .int .i64 f, .int .i64 wy] w fun e w' => e = .returned (.int .i64 0) ∧ (∃ S', GO lo q { G with waits := G.waits ++ [⟨f, wy, -1, G.now⟩] } S' w' ∧ Upd S w w' ∧ ∀ g ∈ S', g ∈ S ∨ w.heap.size ≤ g) := by
 obtain ⟨h0, A1, c1, A2, c2, rfl, B, O1, O2⟩ := hg
 have H0 := Lib.hid h0; have HQL := Lib.hid B.lt; have HQ := Lib.hid B; have HO1 := Lib.hid O1; have HO2 := Lib.hid O2; have HIQ1 := Lib.hid (own_ne_ty O1 B (by decide)); have HIQ2 := Lib.hid (own_ne_ty O2 B (by decide)); have HD12 := Lib.hid (show ∀ g ∈ blkOf A1, g ∉ blkOf A2 from fun g h1 h2 => by rcases own_at O1 with ⟨rfl, _⟩ | ⟨g1, cur, rfl, _, B1, _⟩; cases h1; exact own_ne_ty O2 B1 (by decide) (by simp [blkOf] at h1; exact h1 ▸ h2))
 clear B O1 O2 h0
 have HL := Lib.hid hl
 clear hl
 have HC := Lib.hid hc
 clear hc
 have HF := Lib.hid hf
 clear hf
 go_enter Try.func24, Try.ntmps24
 go_upto_region 1 with fail
 have HS1 := Lib.hid (Since.refl w)
 refine wp_region_lit ?_
 refine tkL (.int .i64 f) (h := ?_)
 (try simp only [Act.put, sA, sB, sC])
 refine tkL (.int .i64 wy) (h := ?_)
 (try simp only [Act.put, sA, sB, sC])
 refine wpList_q (by rfl) (.agg #[.int .i64 f, .int .i64 wy]) ?he ?_
 case he => kernel_rfl
 (try simp only [Act.put, sA, sB, sC])
 refine wpList_wp (by rfl) (fun K hK => ?_)
 refine wp_new (fun b => .pointer (some ⟨b, 0, none⟩)) 32 #[.int .i64 0, .int .i64 0] (by rintro b rfl; first | rfl | kernel_rfl) ?_
 intro bn7 w2 hge hB hb
 refine hK.out _ _ ?_
 clear hK K
 (try simp only [Act.put, sA, sB, sC])
 have HNn7Q := Lib.hid (show bn7 ≠ q by have := Blk.lt HQ.out; omega)
 have HGn7 := Lib.hid (show w.heap.size ≤ bn7 by have := Since.size HS1.out; omega)
 have HIn7_c := Lib.hid (own_far HO1.out hge)
 have HIn7_r := Lib.hid (own_far HO2.out hge)
 have HS2 := Lib.hid (Since.trans HS1.out hb)
 have HBQ2 := Lib.hid (keep_blk hb HQ.out)
 have HFc2 := Lib.hid (keep_own hb HO1.out)
 have HFr2 := Lib.hid (keep_own hb HO2.out)
 clear HS1 HQ HO1 HO2
 clear hb hge
 have HBn72 := Lib.hid hB
 clear hB
 refine wpList_wp (by rfl) (fun K hK => ?_)
 refine wp_st_row 32 _ _ rfl #[.int .i64 f, .int .i64 wy] rfl rfl (HasRow.of HBn72.out rfl) rfl (by simp [cfgA, carA, waitA, grpA, Value.oneCell']) (by kernel_rfl) ?_
 intro w3 hw
 refine hK.out _ _ ?_
 clear hK K
 (try simp only [Act.put, sA, sB, sC])
 have HS3 := Lib.hid (show Since w w3 by rw [hw]; exact Since.setRow HS2.out HGn7.out _)
 have HBQ3 := Lib.hid (show Blk w3 q 67 #[.int .i64 G.c.ca, .int .i64 G.c.fl, .int .i64 G.c.ft, .int .i64 G.c.se, .int .i64 G.c.dr, .int .i64 G.c.dw, .int .i64 G.c.ho, .int .i64 G.c.re, .int .i64 G.c.yi, .int .i64 G.c.qu, .int .i64 G.c.qo, .int .i64 G.c.lo, .int .i64 G.c.sl, .int .i64 G.c.rt, .int .i64 G.c.cp, .int .i64 G.c.tr, .int .i64 G.c.de, .int .i64 G.c.wi, .slice A1 G.cars.length c1, .slice A2 G.waits.length c2, .int .i64 G.now] by rw [hw]; exact Blk.row_far HBQ2.out (Ne.symm HNn7Q.out) _)
 have HBn73 := Lib.hid (show Blk w3 bn7 32 #[.int .i64 f, .int .i64 wy] by rw [hw]; exact Blk.row HBn72.out _)
 have HFc_3 := Lib.hid (show (w3).ownsRow lo 30 15 (.slice A1 G.cars.length c1) G.cars.length (rowsOf carL G.cars) by rw [hw]; exact own_row_far HFc2.out HIn7_c.out _)
 have HFr_3 := Lib.hid (show (w3).ownsRow lo 55 4 (.slice A2 G.waits.length c2) G.waits.length (rowsOf waitL G.waits) by rw [hw]; exact own_row_far HFr2.out HIn7_r.out _)
 clear hw HS2 HBQ2 HBn72 HFc2 HFr2
 refine wpList_nil ?_
 go_upto_region 2 with fail
 refine wp_region_lit ?_
 refine tkL (.pointer (some ⟨q, 0, none⟩)) (h := ?_)
 (try simp only [Act.put, sA, sB, sC])
 refine wpList_q (by rfl) (.agg #[.int .i64 f, .int .i64 wy]) ?he ?_
 case he => exact exec_load_row 32 _ _ HBn73.out rfl rfl Try.underlying32 rfl (by kernel_rfl)
 (try simp only [Act.put, sA, sB, sC])
 refine wpList_wp (by rfl) (fun K hK => ?_)
 (try go_simp)
 refine (hasCV q G _ _ f wy true _ HBQ3.out HC.out).mono ?_
 rintro e w4 ⟨rfl, hb⟩
 (try go_wp2_with fail)
 refine hK.out _ _ ?_
 clear hK K
 (try simp only [Act.put, sA, sB, sC])
 have HS4 := Lib.hid (Since.trans HS3.out hb)
 have HBQ4 := Lib.hid (keep_blk hb HBQ3.out)
 have HBn74 := Lib.hid (keep_blk hb HBn73.out)
 have HFc4 := Lib.hid (keep_own hb HFc_3.out)
 have HFr4 := Lib.hid (keep_own hb HFr_3.out)
 clear HS3 HBQ3 HBn73 HFc_3 HFr_3
 clear hb
 refine wpList_q (by rfl) (.bool false) ?he ?_
 case he => (go_simp; (try with_reducible rfl))
 (try simp only [Act.put, sA, sB, sC])
 refine wpList_nil ?_
 go_upto_region 4 with fail
 refine wp_region_lit ?_
 refine tkL (.pointer (some ⟨q, 0, none⟩)) (h := ?_)
 (try simp only [Act.put, sA, sB, sC])
 refine wpList_q (by rfl) (.agg #[.int .i64 f, .int .i64 wy]) ?he ?_
 case he => exact exec_load_row 32 _ _ HBn74.out rfl rfl Try.underlying32 rfl (by kernel_rfl)
 (try simp only [Act.put, sA, sB, sC])
 refine wpList_wp (by rfl) (fun K hK => ?_)
 (try go_simp)
 refine (findV lo q G _ A2 c2 f wy none _ HBQ4.out HFr4.out HL.out HF.out).mono ?_
 rintro e w5 ⟨rfl, hb⟩
 (try go_wp2_with fail)
 refine hK.out _ _ ?_
 clear hK K
 (try simp only [Act.put, sA, sB, sC])
 have HS5 := Lib.hid (Since.trans HS4.out hb)
 have HBQ5 := Lib.hid (keep_blk hb HBQ4.out)
 have HBn75 := Lib.hid (keep_blk hb HBn74.out)
 have HFc5 := Lib.hid (keep_own hb HFc4.out)
 have HFr5 := Lib.hid (keep_own hb HFr4.out)
 clear HS4 HBQ4 HBn74 HFc4 HFr4
 clear hb
 refine wpList_q (by rfl) (.bool true) ?he ?_
 case he => (have q : oI none < 0 := (by decide); go_simp; (first | done | exact q | omega))
 (try simp only [Act.put, sA, sB, sC])
 refine wpList_nil ?_
 have HSU := Lib.hid (show Upd (q :: (blkOf A1 ++ blkOf A2)) w w5 from Upd.of_since HS5.out)
 clear HS5
 go_upto_region 5 with fail
 have HKS : Hid (KeepS (fun W : World => Upd (q :: (blkOf A1 ++ blkOf A2)) w W ∧ HasRow W q 67 21 ∧ Blk W bn7 32 #[.int .i64 f, .int .i64 wy] ∧ (W).ownsRow lo 30 15 (.slice A1 G.cars.length c1) G.cars.length (rowsOf carL G.cars)) w5) := Lib.hid ⟨fun W W' k ⟨h, h0, h1, h2⟩ => ⟨h.trans k, HasRow.keep k h0, keep_blk k h1, keep_own k h2⟩, ⟨HSU.out, HasRow.of HBQ5.out rfl, HBn75.out, HFc5.out⟩⟩
 have HRK := Lib.hid HKS.out.1
 have HPQ := Lib.hid (show Blk (World.drew w5) q 67 #[.int .i64 G.c.ca, .int .i64 G.c.fl, .int .i64 G.c.ft, .int .i64 G.c.se, .int .i64 G.c.dr, .int .i64 G.c.dw, .int .i64 G.c.ho, .int .i64 G.c.re, .int .i64 G.c.yi, .int .i64 G.c.qu, .int .i64 G.c.qo, .int .i64 G.c.lo, .int .i64 G.c.sl, .int .i64 G.c.rt, .int .i64 G.c.cp, .int .i64 G.c.tr, .int .i64 G.c.de, .int .i64 G.c.wi, .slice A1 G.cars.length c1, .slice A2 G.waits.length c2, .int .i64 G.now] from HBQ5.out)
 have HEr := Lib.hid (show ((World.drew w5)).ownsRow lo 55 4 (.slice A2 G.waits.length c2) G.waits.length (rowsOf waitL G.waits) from HFr5.out)
 clear HFr5
 refine wp_held HKS.out (by kernel_rfl) (fun hHeld => ?_)
 refine tkQ 0 (.pointer (some ⟨q, 0, none⟩)) hHeld (h := ?_)
 (try simp only [Act.put, sA, sB, sC])
 refine tkQ 1 (.pointer (some ⟨q, 0, none⟩)) hHeld (h := ?_)
 (try simp only [Act.put, sA, sB, sC])
 refine tkQ 2 (.pointer (some ⟨q, 0, none⟩)) hHeld (h := ?_)
 (try simp only [Act.put, sA, sB, sC])
 refine tkQ 3 (.pointer (some ⟨q, 19, none⟩)) hHeld (h := ?_)
 (try simp only [Act.put, sA, sB, sC])
 refine tkQ 5 (.agg #[.int .i64 f, .int .i64 wy]) hHeld (he := by intro w hSw; exact exec_load_row 32 _ _ hSw.2.2.1 rfl rfl Try.underlying32 rfl (by kernel_rfl)) (h := ?_)
 (try simp only [Act.put, sA, sB, sC])
 refine tkQ 6 (.pointer (some ⟨q, 0, none⟩)) hHeld (h := ?_)
 (try simp only [Act.put, sA, sB, sC])
 refine tkQ 7 (.pointer (some ⟨q, 0, none⟩)) hHeld (h := ?_)
 (try simp only [Act.put, sA, sB, sC])
 refine tkQ 8 (.pointer (some ⟨q, 20, none⟩)) hHeld (h := ?_)
 (try simp only [Act.put, sA, sB, sC])
 refine wpAnyH_ready (rs := [4, 9]) (by kernel_rfl) (by simp) ?_
 refine AllReadyH.cons (o := ?o5__4b) ?h5__4b (fun K hK => ?g5__4b) (AllReadyH.cons (o := ?o5__9b) ?h5__9b (fun K hK => ?g5__9b) AllReadyH.nil)
 case h5__4b => (first | (simp only [gA, gB, gC]; done) | (simp only [gA, gB, gC]; exact rfl))
 case h5__9b => (first | (simp only [gA, gB, gC]; done) | (simp only [gA, gB, gC]; exact rfl))
 case g5__4b =>
  rw [if_pos (by rfl)]
  refine wp_q (.slice A2 G.waits.length c2) ?e5_b4_4 ?_
  case e5_b4_4 => exact exec_cell 50 _ _ HPQ.out rfl rfl rfl Try.underlying50 rfl
  refine hK.out _ _ hHeld (fun hHeld2 => ?_)
  clear hK K hHeld2
  (try simp only [Act.put, sA, sB, sC])
  refine wpAnyH_ready (rs := [9]) (by kernel_rfl) (by simp) ?_
  refine AllReadyH.cons (o := ?o5_b4_9) ?h5_b4_9 (fun K hK => ?_) AllReadyH.nil
  case h5_b4_9 => (first | (simp only [gA, gB, gC]; done) | (simp only [gA, gB, gC]; exact rfl))
  rw [if_pos (by rfl)]
  refine wp_q (.int .i64 G.now) ?e5_b4_9 ?_
  case e5_b4_9 => exact exec_cell 3 _ _ HPQ.out rfl rfl rfl Try.underlying3 rfl
  refine hK.out _ _ hHeld (fun hHeld2 => ?_)
  clear hK K hHeld2
  (try simp only [Act.put, sA, sB, sC])
  refine tkQ 10 (.agg #[.int .i64 f, .int .i64 wy, .int .i64 (-1), .int .i64 G.now]) hHeld (he := by intro w hSw; kernel_rfl) (h := ?_)
  (try simp only [Act.put, sA, sB, sC])
  refine wpAnyH_ready (rs := [11]) (by kernel_rfl) (by simp) ?_
  refine AllReadyH.cons (o := ?o5_b4_11) ?h5_b4_11 (fun K hK => ?_) AllReadyH.nil
  case h5_b4_11 => (first | (simp only [gA, gB, gC]; done) | (simp only [gA, gB, gC]; exact rfl))
  rw [if_pos (by rfl)]
  refine wp_new (fun b => .slice (some ⟨b, 0, none⟩) 1 1) 55 #[.int .i64 f, .int .i64 wy, .int .i64 (-1), .int .i64 G.now] (by rintro b rfl; first | rfl | kernel_rfl) ?_
  intro bn30 w6 hge hB hb
  refine hK.out _ _ (by (apply HRK.out; exact hb; exact hHeld)) (fun hHeld2 => ?_)
  have HIn30_c := Lib.hid (own_far (hHeld.2.2.2) hge)
  have HPQk := Lib.hid (keep_blk hb HPQ.out)
  clear HPQ
  have HErk := Lib.hid (keep_own hb HEr.out)
  clear HEr
  have HNn30Q := Lib.hid (show bn30 ≠ q by obtain ⟨old, Bo, _⟩ := hHeld.2.1; have := Blk.lt Bo; omega)
  have HGn30 := Lib.hid (show w.heap.size ≤ bn30 by have := Upd.size hHeld.1; (try simp at this); (try simp at hge); omega)
  have HXn30 := Lib.hid hB
  clear hB
  clear hge
  clear hK K hHeld hb
  have hHeld := hHeld2
  clear hHeld2
  (try simp only [Act.put, sA, sB, sC])
  refine wpAnyH_ready (rs := [12]) (by kernel_rfl) (by simp) ?_
  refine AllReadyH.cons (o := ?o5_b4_12) ?h5_b4_12 (fun K hK => ?_) AllReadyH.nil
  case h5_b4_12 => (first | (simp only [gA, gB, gC]; done) | (simp only [gA, gB, gC]; exact rfl))
  rw [if_pos (by rfl)]
  refine wp_append_row (.tmp 23) (.tmp 30) 50 rfl lo 55 (Value.agg #[.int .i64 0, .int .i64 0, .int .i64 0, .int .i64 0]) 4 32 Try.underlying50 (by kernel_rfl) rfl (by decide) (by decide) A2 G.waits.length c2 (rowsOf waitL G.waits) rfl HErk.out _ (some ⟨bn30, 0, none⟩) 1 1 (waitL (⟨f, wy, -1, G.now⟩ : WaitV)) rfl (reads_blk (cs := waitL (⟨f, wy, -1, G.now⟩ : WaitV)) HXn30.out rfl) (waitL_one (⟨f, wy, -1, G.now⟩ : WaitV)) (by have := HL.out; omega) (by have q1 := HQL.out; have q2 := H0.out; have q3 := Upd.size hHeld.1; omega) ((G.waits ++ [(⟨f, wy, -1, G.now⟩ : WaitV)]).length) (rowsOf waitL (G.waits ++ [(⟨f, wy, -1, G.now⟩ : WaitV)])) (by simp) (by rw [rowsOf_append, rowsOf_one]) ?_
  intro A_1 c_1 w7 hown hupd hfar
  have hHeld3 := HKS.out.at_ w7 ⟨Upd.comp hHeld.1 hupd (fun _ h => .inl (List.mem_cons_of_mem _ (List.mem_append.2 (.inr h)))), HasRow.upd hupd (hHeld.2.1) HIQ2.out, Upd.blk hupd (hHeld.2.2.1) HIn7_r.out, Upd.own hupd (hHeld.2.2.2) HD12.out⟩
  have HDEc_1 := Lib.hid (dis_next hfar HD12.out (own_lt (hHeld.2.2.2)))
  have HPQku := Lib.hid (Upd.blk hupd HPQk.out HIQ2.out)
  have HIQ_r_1 := Lib.hid (nin_next hfar HIQ2.out (Blk.lt HPQk.out))
  clear HPQk
  have HOW_w7 := Lib.hid hown
  have HFAR := Lib.hid (show ∀ g ∈ blkOf A_1, g ∈ blkOf A2 ∨ w.heap.size ≤ g from fun g hg => by have q := hfar g hg; rcases q with q | q; exact .inl q; exact .inr (Nat.le_trans (Upd.size hHeld.1) q))
  refine hK.out _ _ hHeld3 (fun hHeld2 => ?_)
  clear hK K hHeld hHeld3 hupd hown hfar HErk HXn30
  have hHeld := hHeld2
  clear hHeld2
  (try simp only [Act.put, sA, sB, sC])
  refine tkQ 13 (.pointer (some ⟨q, 0, none⟩)) hHeld (h := ?_)
  (try simp only [Act.put, sA, sB, sC])
  refine tkQ 14 (.pointer (some ⟨q, 19, none⟩)) hHeld (h := ?_)
  (try simp only [Act.put, sA, sB, sC])
  refine wpAnyH_ready (rs := [15]) (by kernel_rfl) (by simp) ?_
  refine AllReadyH.cons (o := ?o5_b4_15) ?h5_b4_15 (fun K hK => ?_) AllReadyH.nil
  case h5_b4_15 => (first | (simp only [gA, gB, gC]; done) | (simp only [gA, gB, gC]; exact rfl))
  rw [if_pos (by rfl)]
  refine wp_st_cell 50 _ _ rfl #[.int .i64 G.c.ca, .int .i64 G.c.fl, .int .i64 G.c.ft, .int .i64 G.c.se, .int .i64 G.c.dr, .int .i64 G.c.dw, .int .i64 G.c.ho, .int .i64 G.c.re, .int .i64 G.c.yi, .int .i64 G.c.qu, .int .i64 G.c.qo, .int .i64 G.c.lo, .int .i64 G.c.sl, .int .i64 G.c.rt, .int .i64 G.c.cp, .int .i64 G.c.tr, .int .i64 G.c.de, .int .i64 G.c.wi, .slice A1 G.cars.length c1, .slice A_1 ((G.waits ++ [(⟨f, wy, -1, G.now⟩ : WaitV)]).length) c_1, .int .i64 G.now] (.slice A_1 ((G.waits ++ [(⟨f, wy, -1, G.now⟩ : WaitV)]).length) c_1) rfl rfl HPQku.out (by show 19 < 21; decide) rfl (by first | rfl | simp [Value.oneCell']) (by kernel_rfl) ?_
  clear HPQku
  intro w8 hw
  have HOW_w7r := Lib.hid (show (w8).ownsRow lo 55 4 (.slice A_1 ((G.waits ++ [(⟨f, wy, -1, G.now⟩ : WaitV)]).length) c_1) ((G.waits ++ [(⟨f, wy, -1, G.now⟩ : WaitV)]).length) (rowsOf waitL (G.waits ++ [(⟨f, wy, -1, G.now⟩ : WaitV)])) by rw [hw]; exact own_row_far HOW_w7.out HIQ_r_1.out _)
  clear HOW_w7
  have HRQ := Lib.hid (show Blk w8 q 67 #[.int .i64 G.c.ca, .int .i64 G.c.fl, .int .i64 G.c.ft, .int .i64 G.c.se, .int .i64 G.c.dr, .int .i64 G.c.dw, .int .i64 G.c.ho, .int .i64 G.c.re, .int .i64 G.c.yi, .int .i64 G.c.qu, .int .i64 G.c.qo, .int .i64 G.c.lo, .int .i64 G.c.sl, .int .i64 G.c.rt, .int .i64 G.c.cp, .int .i64 G.c.tr, .int .i64 G.c.de, .int .i64 G.c.wi, .slice A1 G.cars.length c1, .slice A_1 ((G.waits ++ [(⟨f, wy, -1, G.now⟩ : WaitV)]).length) c_1, .int .i64 G.now] by obtain ⟨old, Bo, _⟩ := hHeld.2.1; rw [hw]; exact Blk.row Bo _)
  have hHeld3 := HKS.out.at_ w8 ⟨by rw [hw]; exact Upd.setRow hHeld.1 (.inl (by simp)) _, HasRow.of HRQ.out rfl, by rw [hw]; exact Blk.row_far (hHeld.2.2.1) HNn7Q.out _, by rw [hw]; exact own_row_far (hHeld.2.2.2) HIQ1.out _⟩
  refine hK.out _ _ hHeld3 (fun hHeld2 => ?_)
  clear hK K hHeld hHeld3 hw
  have hHeld := hHeld2
  clear hHeld2
  (try simp only [Act.put, sA, sB, sC])
  refine wpAnyH_done (by kernel_rfl) ?_ _
  have HSd5 := Lib.hid hHeld.1
  have HBQd5 := Lib.hid HRQ.out
  clear HRQ
  have HBn7d5 := Lib.hid (hHeld.2.2.1)
  have HFcd5 := Lib.hid (hHeld.2.2.2)
  clear hHeld HRK HKS HSU HBQ5 HBn75 HFc5
  have HFrd5 := Lib.hid HOW_w7r.out
  clear HOW_w7r
  go_upto_region 6 with fail
  refine wp_region_lit ?_
  refine tkL (.int .i64 0) (h := ?_)
  (try simp only [Act.put, sA, sB, sC])
  refine wpList_nil ?_
  (try go_wp2_with fail)
  go_ret
  exact ⟨rfl, ⟨q :: (blkOf A1 ++ blkOf A_1), ⟨H0.out, A1, c1, A_1, c_1, rfl, HBQd5.out, HFcd5.out, HFrd5.out⟩, HSd5.out, fun g hg => by rcases List.mem_cons.1 hg with rfl | hg; exact .inl (by simp); rcases List.mem_append.1 hg with hg | hg; exact .inl (by simp [hg]); rcases HFAR.out g hg with h | h; exact .inl (by simp [h]); exact .inr h⟩⟩
 case g5__9b =>
  rw [if_pos (by rfl)]
  refine wp_q (.int .i64 G.now) ?e5_b9_9 ?_
  case e5_b9_9 => exact exec_cell 3 _ _ HPQ.out rfl rfl rfl Try.underlying3 rfl
  refine hK.out _ _ hHeld (fun hHeld2 => ?_)
  clear hK K hHeld2
  (try simp only [Act.put, sA, sB, sC])
  refine tkQ 10 (.agg #[.int .i64 f, .int .i64 wy, .int .i64 (-1), .int .i64 G.now]) hHeld (he := by intro w hSw; kernel_rfl) (h := ?_)
  (try simp only [Act.put, sA, sB, sC])
  refine wpAnyH_ready (rs := [4, 11]) (by kernel_rfl) (by simp) ?_
  refine AllReadyH.cons (o := ?o5_b9_4b) ?h5_b9_4b (fun K hK => ?g5_b9_4b) (AllReadyH.cons (o := ?o5_b9_11b) ?h5_b9_11b (fun K hK => ?g5_b9_11b) AllReadyH.nil)
  case h5_b9_4b => (first | (simp only [gA, gB, gC]; done) | (simp only [gA, gB, gC]; exact rfl))
  case h5_b9_11b => (first | (simp only [gA, gB, gC]; done) | (simp only [gA, gB, gC]; exact rfl))
  case g5_b9_4b =>
   rw [if_pos (by rfl)]
   refine wp_q (.slice A2 G.waits.length c2) ?e5_b9b4_4 ?_
   case e5_b9b4_4 => exact exec_cell 50 _ _ HPQ.out rfl rfl rfl Try.underlying50 rfl
   refine hK.out _ _ hHeld (fun hHeld2 => ?_)
   clear hK K hHeld2
   (try simp only [Act.put, sA, sB, sC])
   refine wpAnyH_ready (rs := [11]) (by kernel_rfl) (by simp) ?_
   refine AllReadyH.cons (o := ?o5_b9b4_11) ?h5_b9b4_11 (fun K hK => ?_) AllReadyH.nil
   case h5_b9b4_11 => (first | (simp only [gA, gB, gC]; done) | (simp only [gA, gB, gC]; exact rfl))
   rw [if_pos (by rfl)]
   refine wp_new (fun b => .slice (some ⟨b, 0, none⟩) 1 1) 55 #[.int .i64 f, .int .i64 wy, .int .i64 (-1), .int .i64 G.now] (by rintro b rfl; first | rfl | kernel_rfl) ?_
   intro bn30 w6 hge hB hb
   refine hK.out _ _ (by (apply HRK.out; exact hb; exact hHeld)) (fun hHeld2 => ?_)
   have HIn30_c := Lib.hid (own_far (hHeld.2.2.2) hge)
   have HPQk := Lib.hid (keep_blk hb HPQ.out)
   clear HPQ
   have HErk := Lib.hid (keep_own hb HEr.out)
   clear HEr
   have HNn30Q := Lib.hid (show bn30 ≠ q by obtain ⟨old, Bo, _⟩ := hHeld.2.1; have := Blk.lt Bo; omega)
   have HGn30 := Lib.hid (show w.heap.size ≤ bn30 by have := Upd.size hHeld.1; (try simp at this); (try simp at hge); omega)
   have HXn30 := Lib.hid hB
   clear hB
   clear hge
   clear hK K hHeld hb
   have hHeld := hHeld2
   clear hHeld2
   (try simp only [Act.put, sA, sB, sC])
   refine wpAnyH_ready (rs := [12]) (by kernel_rfl) (by simp) ?_
   refine AllReadyH.cons (o := ?o5_b9b4_12) ?h5_b9b4_12 (fun K hK => ?_) AllReadyH.nil
   case h5_b9b4_12 => (first | (simp only [gA, gB, gC]; done) | (simp only [gA, gB, gC]; exact rfl))
   rw [if_pos (by rfl)]
   refine wp_append_row (.tmp 23) (.tmp 30) 50 rfl lo 55 (Value.agg #[.int .i64 0, .int .i64 0, .int .i64 0, .int .i64 0]) 4 32 Try.underlying50 (by kernel_rfl) rfl (by decide) (by decide) A2 G.waits.length c2 (rowsOf waitL G.waits) rfl HErk.out _ (some ⟨bn30, 0, none⟩) 1 1 (waitL (⟨f, wy, -1, G.now⟩ : WaitV)) rfl (reads_blk (cs := waitL (⟨f, wy, -1, G.now⟩ : WaitV)) HXn30.out rfl) (waitL_one (⟨f, wy, -1, G.now⟩ : WaitV)) (by have := HL.out; omega) (by have q1 := HQL.out; have q2 := H0.out; have q3 := Upd.size hHeld.1; omega) ((G.waits ++ [(⟨f, wy, -1, G.now⟩ : WaitV)]).length) (rowsOf waitL (G.waits ++ [(⟨f, wy, -1, G.now⟩ : WaitV)])) (by simp) (by rw [rowsOf_append, rowsOf_one]) ?_
   intro A_2 c_2 w7 hown hupd hfar
   have hHeld3 := HKS.out.at_ w7 ⟨Upd.comp hHeld.1 hupd (fun _ h => .inl (List.mem_cons_of_mem _ (List.mem_append.2 (.inr h)))), HasRow.upd hupd (hHeld.2.1) HIQ2.out, Upd.blk hupd (hHeld.2.2.1) HIn7_r.out, Upd.own hupd (hHeld.2.2.2) HD12.out⟩
   have HDEc_2 := Lib.hid (dis_next hfar HD12.out (own_lt (hHeld.2.2.2)))
   have HPQku := Lib.hid (Upd.blk hupd HPQk.out HIQ2.out)
   have HIQ_r_2 := Lib.hid (nin_next hfar HIQ2.out (Blk.lt HPQk.out))
   clear HPQk
   have HOW_w7 := Lib.hid hown
   have HFAR := Lib.hid (show ∀ g ∈ blkOf A_2, g ∈ blkOf A2 ∨ w.heap.size ≤ g from fun g hg => by have q := hfar g hg; rcases q with q | q; exact .inl q; exact .inr (Nat.le_trans (Upd.size hHeld.1) q))
   refine hK.out _ _ hHeld3 (fun hHeld2 => ?_)
   clear hK K hHeld hHeld3 hupd hown hfar HErk HXn30
   have hHeld := hHeld2
   clear hHeld2
   (try simp only [Act.put, sA, sB, sC])
   refine tkQ 13 (.pointer (some ⟨q, 0, none⟩)) hHeld (h := ?_)
   (try simp only [Act.put, sA, sB, sC])
   refine tkQ 14 (.pointer (some ⟨q, 19, none⟩)) hHeld (h := ?_)
   (try simp only [Act.put, sA, sB, sC])
   refine wpAnyH_ready (rs := [15]) (by kernel_rfl) (by simp) ?_
   refine AllReadyH.cons (o := ?o5_b9b4_15) ?h5_b9b4_15 (fun K hK => ?_) AllReadyH.nil
   case h5_b9b4_15 => (first | (simp only [gA, gB, gC]; done) | (simp only [gA, gB, gC]; exact rfl))
   rw [if_pos (by rfl)]
   refine wp_st_cell 50 _ _ rfl #[.int .i64 G.c.ca, .int .i64 G.c.fl, .int .i64 G.c.ft, .int .i64 G.c.se, .int .i64 G.c.dr, .int .i64 G.c.dw, .int .i64 G.c.ho, .int .i64 G.c.re, .int .i64 G.c.yi, .int .i64 G.c.qu, .int .i64 G.c.qo, .int .i64 G.c.lo, .int .i64 G.c.sl, .int .i64 G.c.rt, .int .i64 G.c.cp, .int .i64 G.c.tr, .int .i64 G.c.de, .int .i64 G.c.wi, .slice A1 G.cars.length c1, .slice A_2 ((G.waits ++ [(⟨f, wy, -1, G.now⟩ : WaitV)]).length) c_2, .int .i64 G.now] (.slice A_2 ((G.waits ++ [(⟨f, wy, -1, G.now⟩ : WaitV)]).length) c_2) rfl rfl HPQku.out (by show 19 < 21; decide) rfl (by first | rfl | simp [Value.oneCell']) (by kernel_rfl) ?_
   clear HPQku
   intro w8 hw
   have HOW_w7r := Lib.hid (show (w8).ownsRow lo 55 4 (.slice A_2 ((G.waits ++ [(⟨f, wy, -1, G.now⟩ : WaitV)]).length) c_2) ((G.waits ++ [(⟨f, wy, -1, G.now⟩ : WaitV)]).length) (rowsOf waitL (G.waits ++ [(⟨f, wy, -1, G.now⟩ : WaitV)])) by rw [hw]; exact own_row_far HOW_w7.out HIQ_r_2.out _)
   clear HOW_w7
   have HRQ := Lib.hid (show Blk w8 q 67 #[.int .i64 G.c.ca, .int .i64 G.c.fl, .int .i64 G.c.ft, .int .i64 G.c.se, .int .i64 G.c.dr, .int .i64 G.c.dw, .int .i64 G.c.ho, .int .i64 G.c.re, .int .i64 G.c.yi, .int .i64 G.c.qu, .int .i64 G.c.qo, .int .i64 G.c.lo, .int .i64 G.c.sl, .int .i64 G.c.rt, .int .i64 G.c.cp, .int .i64 G.c.tr, .int .i64 G.c.de, .int .i64 G.c.wi, .slice A1 G.cars.length c1, .slice A_2 ((G.waits ++ [(⟨f, wy, -1, G.now⟩ : WaitV)]).length) c_2, .int .i64 G.now] by obtain ⟨old, Bo, _⟩ := hHeld.2.1; rw [hw]; exact Blk.row Bo _)
   have hHeld3 := HKS.out.at_ w8 ⟨by rw [hw]; exact Upd.setRow hHeld.1 (.inl (by simp)) _, HasRow.of HRQ.out rfl, by rw [hw]; exact Blk.row_far (hHeld.2.2.1) HNn7Q.out _, by rw [hw]; exact own_row_far (hHeld.2.2.2) HIQ1.out _⟩
   refine hK.out _ _ hHeld3 (fun hHeld2 => ?_)
   clear hK K hHeld hHeld3 hw
   have hHeld := hHeld2
   clear hHeld2
   (try simp only [Act.put, sA, sB, sC])
   refine wpAnyH_done (by kernel_rfl) ?_ _
   have HSd5v2 := Lib.hid hHeld.1
   have HBQd5v2 := Lib.hid HRQ.out
   clear HRQ
   have HBn7d5v2 := Lib.hid (hHeld.2.2.1)
   have HFcd5v2 := Lib.hid (hHeld.2.2.2)
   clear hHeld HRK HKS HSU HBQ5 HBn75 HFc5
   have HFrd5v2 := Lib.hid HOW_w7r.out
   clear HOW_w7r
   go_upto_region 6 with fail
   refine wp_region_lit ?_
   refine tkL (.int .i64 0) (h := ?_)
   (try simp only [Act.put, sA, sB, sC])
   refine wpList_nil ?_
   (try go_wp2_with fail)
   go_ret
   exact ⟨rfl, ⟨q :: (blkOf A1 ++ blkOf A_2), ⟨H0.out, A1, c1, A_2, c_2, rfl, HBQd5v2.out, HFcd5v2.out, HFrd5v2.out⟩, HSd5v2.out, fun g hg => by rcases List.mem_cons.1 hg with rfl | hg; exact .inl (by simp); rcases List.mem_append.1 hg with hg | hg; exact .inl (by simp [hg]); rcases HFAR.out g hg with h | h; exact .inl (by simp [h]); exact .inr h⟩⟩
  case g5_b9_11b =>
   rw [if_pos (by rfl)]
   refine wp_new (fun b => .slice (some ⟨b, 0, none⟩) 1 1) 55 #[.int .i64 f, .int .i64 wy, .int .i64 (-1), .int .i64 G.now] (by rintro b rfl; first | rfl | kernel_rfl) ?_
   intro bn30 w6 hge hB hb
   refine hK.out _ _ (by (apply HRK.out; exact hb; exact hHeld)) (fun hHeld2 => ?_)
   have HIn30_c := Lib.hid (own_far (hHeld.2.2.2) hge)
   have HPQk := Lib.hid (keep_blk hb HPQ.out)
   clear HPQ
   have HErk := Lib.hid (keep_own hb HEr.out)
   clear HEr
   have HNn30Q := Lib.hid (show bn30 ≠ q by obtain ⟨old, Bo, _⟩ := hHeld.2.1; have := Blk.lt Bo; omega)
   have HGn30 := Lib.hid (show w.heap.size ≤ bn30 by have := Upd.size hHeld.1; (try simp at this); (try simp at hge); omega)
   have HXn30 := Lib.hid hB
   clear hB
   clear hge
   clear hK K hHeld hb
   have hHeld := hHeld2
   clear hHeld2
   (try simp only [Act.put, sA, sB, sC])
   refine wpAnyH_ready (rs := [4]) (by kernel_rfl) (by simp) ?_
   refine AllReadyH.cons (o := ?o5_b9b11_4) ?h5_b9b11_4 (fun K hK => ?_) AllReadyH.nil
   case h5_b9b11_4 => (first | (simp only [gA, gB, gC]; done) | (simp only [gA, gB, gC]; exact rfl))
   rw [if_pos (by rfl)]
   refine wp_q (.slice A2 G.waits.length c2) ?e5_b9b11_4 ?_
   case e5_b9b11_4 => exact exec_cell 50 _ _ HPQk.out rfl rfl rfl Try.underlying50 rfl
   refine hK.out _ _ hHeld (fun hHeld2 => ?_)
   clear hK K hHeld2
   (try simp only [Act.put, sA, sB, sC])
   refine wpAnyH_ready (rs := [12]) (by kernel_rfl) (by simp) ?_
   refine AllReadyH.cons (o := ?o5_b9b11_12) ?h5_b9b11_12 (fun K hK => ?_) AllReadyH.nil
   case h5_b9b11_12 => (first | (simp only [gA, gB, gC]; done) | (simp only [gA, gB, gC]; exact rfl))
   rw [if_pos (by rfl)]
   refine wp_append_row (.tmp 23) (.tmp 30) 50 rfl lo 55 (Value.agg #[.int .i64 0, .int .i64 0, .int .i64 0, .int .i64 0]) 4 32 Try.underlying50 (by kernel_rfl) rfl (by decide) (by decide) A2 G.waits.length c2 (rowsOf waitL G.waits) rfl HErk.out _ (some ⟨bn30, 0, none⟩) 1 1 (waitL (⟨f, wy, -1, G.now⟩ : WaitV)) rfl (reads_blk (cs := waitL (⟨f, wy, -1, G.now⟩ : WaitV)) HXn30.out rfl) (waitL_one (⟨f, wy, -1, G.now⟩ : WaitV)) (by have := HL.out; omega) (by have q1 := HQL.out; have q2 := H0.out; have q3 := Upd.size hHeld.1; omega) ((G.waits ++ [(⟨f, wy, -1, G.now⟩ : WaitV)]).length) (rowsOf waitL (G.waits ++ [(⟨f, wy, -1, G.now⟩ : WaitV)])) (by simp) (by rw [rowsOf_append, rowsOf_one]) ?_
   intro A_3 c_3 w7 hown hupd hfar
   have hHeld3 := HKS.out.at_ w7 ⟨Upd.comp hHeld.1 hupd (fun _ h => .inl (List.mem_cons_of_mem _ (List.mem_append.2 (.inr h)))), HasRow.upd hupd (hHeld.2.1) HIQ2.out, Upd.blk hupd (hHeld.2.2.1) HIn7_r.out, Upd.own hupd (hHeld.2.2.2) HD12.out⟩
   have HDEc_3 := Lib.hid (dis_next hfar HD12.out (own_lt (hHeld.2.2.2)))
   have HPQku := Lib.hid (Upd.blk hupd HPQk.out HIQ2.out)
   have HIQ_r_3 := Lib.hid (nin_next hfar HIQ2.out (Blk.lt HPQk.out))
   clear HPQk
   have HOW_w7 := Lib.hid hown
   have HFAR := Lib.hid (show ∀ g ∈ blkOf A_3, g ∈ blkOf A2 ∨ w.heap.size ≤ g from fun g hg => by have q := hfar g hg; rcases q with q | q; exact .inl q; exact .inr (Nat.le_trans (Upd.size hHeld.1) q))
   refine hK.out _ _ hHeld3 (fun hHeld2 => ?_)
   clear hK K hHeld hHeld3 hupd hown hfar HErk HXn30
   have hHeld := hHeld2
   clear hHeld2
   (try simp only [Act.put, sA, sB, sC])
   refine tkQ 13 (.pointer (some ⟨q, 0, none⟩)) hHeld (h := ?_)
   (try simp only [Act.put, sA, sB, sC])
   refine tkQ 14 (.pointer (some ⟨q, 19, none⟩)) hHeld (h := ?_)
   (try simp only [Act.put, sA, sB, sC])
   refine wpAnyH_ready (rs := [15]) (by kernel_rfl) (by simp) ?_
   refine AllReadyH.cons (o := ?o5_b9b11_15) ?h5_b9b11_15 (fun K hK => ?_) AllReadyH.nil
   case h5_b9b11_15 => (first | (simp only [gA, gB, gC]; done) | (simp only [gA, gB, gC]; exact rfl))
   rw [if_pos (by rfl)]
   refine wp_st_cell 50 _ _ rfl #[.int .i64 G.c.ca, .int .i64 G.c.fl, .int .i64 G.c.ft, .int .i64 G.c.se, .int .i64 G.c.dr, .int .i64 G.c.dw, .int .i64 G.c.ho, .int .i64 G.c.re, .int .i64 G.c.yi, .int .i64 G.c.qu, .int .i64 G.c.qo, .int .i64 G.c.lo, .int .i64 G.c.sl, .int .i64 G.c.rt, .int .i64 G.c.cp, .int .i64 G.c.tr, .int .i64 G.c.de, .int .i64 G.c.wi, .slice A1 G.cars.length c1, .slice A_3 ((G.waits ++ [(⟨f, wy, -1, G.now⟩ : WaitV)]).length) c_3, .int .i64 G.now] (.slice A_3 ((G.waits ++ [(⟨f, wy, -1, G.now⟩ : WaitV)]).length) c_3) rfl rfl HPQku.out (by show 19 < 21; decide) rfl (by first | rfl | simp [Value.oneCell']) (by kernel_rfl) ?_
   clear HPQku
   intro w8 hw
   have HOW_w7r := Lib.hid (show (w8).ownsRow lo 55 4 (.slice A_3 ((G.waits ++ [(⟨f, wy, -1, G.now⟩ : WaitV)]).length) c_3) ((G.waits ++ [(⟨f, wy, -1, G.now⟩ : WaitV)]).length) (rowsOf waitL (G.waits ++ [(⟨f, wy, -1, G.now⟩ : WaitV)])) by rw [hw]; exact own_row_far HOW_w7.out HIQ_r_3.out _)
   clear HOW_w7
   have HRQ := Lib.hid (show Blk w8 q 67 #[.int .i64 G.c.ca, .int .i64 G.c.fl, .int .i64 G.c.ft, .int .i64 G.c.se, .int .i64 G.c.dr, .int .i64 G.c.dw, .int .i64 G.c.ho, .int .i64 G.c.re, .int .i64 G.c.yi, .int .i64 G.c.qu, .int .i64 G.c.qo, .int .i64 G.c.lo, .int .i64 G.c.sl, .int .i64 G.c.rt, .int .i64 G.c.cp, .int .i64 G.c.tr, .int .i64 G.c.de, .int .i64 G.c.wi, .slice A1 G.cars.length c1, .slice A_3 ((G.waits ++ [(⟨f, wy, -1, G.now⟩ : WaitV)]).length) c_3, .int .i64 G.now] by obtain ⟨old, Bo, _⟩ := hHeld.2.1; rw [hw]; exact Blk.row Bo _)
   have hHeld3 := HKS.out.at_ w8 ⟨by rw [hw]; exact Upd.setRow hHeld.1 (.inl (by simp)) _, HasRow.of HRQ.out rfl, by rw [hw]; exact Blk.row_far (hHeld.2.2.1) HNn7Q.out _, by rw [hw]; exact own_row_far (hHeld.2.2.2) HIQ1.out _⟩
   refine hK.out _ _ hHeld3 (fun hHeld2 => ?_)
   clear hK K hHeld hHeld3 hw
   have hHeld := hHeld2
   clear hHeld2
   (try simp only [Act.put, sA, sB, sC])
   refine wpAnyH_done (by kernel_rfl) ?_ _
   have HSd5v3 := Lib.hid hHeld.1
   have HBQd5v3 := Lib.hid HRQ.out
   clear HRQ
   have HBn7d5v3 := Lib.hid (hHeld.2.2.1)
   have HFcd5v3 := Lib.hid (hHeld.2.2.2)
   clear hHeld HRK HKS HSU HBQ5 HBn75 HFc5
   have HFrd5v3 := Lib.hid HOW_w7r.out
   clear HOW_w7r
   go_upto_region 6 with fail
   refine wp_region_lit ?_
   refine tkL (.int .i64 0) (h := ?_)
   (try simp only [Act.put, sA, sB, sC])
   refine wpList_nil ?_
   (try go_wp2_with fail)
   go_ret
   exact ⟨rfl, ⟨q :: (blkOf A1 ++ blkOf A_3), ⟨H0.out, A1, c1, A_3, c_3, rfl, HBQd5v3.out, HFcd5v3.out, HFrd5v3.out⟩, HSd5v3.out, fun g hg => by rcases List.mem_cons.1 hg with rfl | hg; exact .inl (by simp); rcases List.mem_append.1 hg with hg | hg; exact .inl (by simp [hg]); rcases HFAR.out g hg with h | h; exact .inl (by simp [h]); exact .inr h⟩⟩
end Go.Proofs.Ytpacieocmogjeaa.Gr
