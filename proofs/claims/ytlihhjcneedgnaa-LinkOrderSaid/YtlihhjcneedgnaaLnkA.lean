/-
  a link's calls that change nothing: New, window, isDue, Epoch, Waits; and what none answers: walked.
  Conditions: what stands ahead of each.
-/
import Derived.Test.YtlihhjcneedgnaaProg
import Derived.Test.YtlihhjcneedgnaaShort
import Derived.Test.YtlihhjcneedgnaaLnk
namespace Go.Proofs.Ytlihhjcneedgnaa.Ln
set_option linter.unusedVariables false
set_option linter.unusedSimpArgs false
open Go.RowKit Go.Proofs.Ytlihhjcneedgnaa.Ba Go.Proofs.Ytlihhjcneedgnaa.Mem Go.Proofs.Ytlihhjcneedgnaa.Ty Go.Proofs.Ytlihhjcneedgnaa.Tm Go.Proofs.Ytlihhjcneedgnaa.Tw
set_option maxRecDepth 100000
attribute [local irreducible] Go.wpList
set_option maxHeartbeats 4000000 in
theorem newA (c : CfgV) (se ep now : Int) (w : World) : Calls Try.prog 13 #[.agg #[.int .i64 c.ca, .int .i64 c.fl, .int .i64 c.ft, .int .i64 c.se, .int .i64 c.dr, .int .i64 c.dw, .int .i64 c.ho, .int .i64 c.re, .int .i64 c.yi, .int .i64 c.qu, .int .i64 c.qo, .int .i64 c.lo, .int .i64 c.sl, .int .i64 c.rt, .int .i64 c.cp, .int .i64 c.tr, .int .i64 c.de, .int .i64 c.wi], .int .i64 se, .int .i64 ep, .int .i64 now] w fun e w' => ∃ q, e = .returned (.pointer (some ⟨q, 0, none⟩)) ∧ w.heap.size ≤ q ∧ Blk w' q 88 #[.int .i64 c.ca, .int .i64 c.fl, .int .i64 c.ft, .int .i64 c.se, .int .i64 c.dr, .int .i64 c.dw, .int .i64 c.ho, .int .i64 c.re, .int .i64 c.yi, .int .i64 c.qu, .int .i64 c.qo, .int .i64 c.lo, .int .i64 c.sl, .int .i64 c.rt, .int .i64 c.cp, .int .i64 c.tr, .int .i64 c.de, .int .i64 c.wi, .int .i64 se, .int .i64 (ep % 65536), .slice none 0 0, .int .i64 0, .int .i64 0, .int .i64 0, .int .i64 0, .bool false, .int .i64 (cl now)] ∧ Since w w' := by
  go_enter Try.func13, Try.ntmps13
  go_upto_region 1 with fail
  obtain ⟨w1, hw1⟩ : ∃ w1, w1 = (w.alloc (.cells #[.int .i64 c.ca, .int .i64 c.fl, .int .i64 c.ft, .int .i64 c.se, .int .i64 c.dr, .int .i64 c.dw, .int .i64 c.ho, .int .i64 c.re, .int .i64 c.yi, .int .i64 c.qu, .int .i64 c.qo, .int .i64 c.lo, .int .i64 c.sl, .int .i64 c.rt, .int .i64 c.cp, .int .i64 c.tr, .int .i64 c.de, .int .i64 c.wi] 24)) := ⟨_, rfl⟩
  rw [← hw1]
  have HBC1 := Lib.hid (show Blk w1 (w.heap.size) 24 #[.int .i64 c.ca, .int .i64 c.fl, .int .i64 c.ft, .int .i64 c.se, .int .i64 c.dr, .int .i64 c.dw, .int .i64 c.ho, .int .i64 c.re, .int .i64 c.yi, .int .i64 c.qu, .int .i64 c.qo, .int .i64 c.lo, .int .i64 c.sl, .int .i64 c.rt, .int .i64 c.cp, .int .i64 c.tr, .int .i64 c.de, .int .i64 c.wi] by rw [hw1]; exact Blk.at_ (by (try simp only [size_alloc])) _ _)
  have HS1 := Lib.hid (show Since w w1 by rw [hw1]; exact Since.alloc (Since.refl w) _)
  have hNE : w.heap.size ≤ w.heap.size := by omega
  have HNE := Lib.hid hNE
  clear hNE hw1
  have HNE3 := Lib.hid (show w.heap.size ≤ w.heap.size from HNE.out)
  clear HNE
  have HKS : Hid (KeepS (fun W : World => Since w W ∧ Blk W w.heap.size 24 #[.int .i64 c.ca, .int .i64 c.fl, .int .i64 c.ft, .int .i64 c.se, .int .i64 c.dr, .int .i64 c.dw, .int .i64 c.ho, .int .i64 c.re, .int .i64 c.yi, .int .i64 c.qu, .int .i64 c.qo, .int .i64 c.lo, .int .i64 c.sl, .int .i64 c.rt, .int .i64 c.cp, .int .i64 c.tr, .int .i64 c.de, .int .i64 c.wi]) w1) := Lib.hid ⟨fun W W' k ⟨h, h0⟩ => ⟨h.trans k, keep_blk k h0⟩, ⟨HS1.out, HBC1.out⟩⟩
  have HRK := Lib.hid HKS.out.1
  refine wp_held HKS.out (by kernel_rfl) (fun hHeld => ?_)
  refine tkQ 0 (.agg #[.int .i64 c.ca, .int .i64 c.fl, .int .i64 c.ft, .int .i64 c.se, .int .i64 c.dr, .int .i64 c.dw, .int .i64 c.ho, .int .i64 c.re, .int .i64 c.yi, .int .i64 c.qu, .int .i64 c.qo, .int .i64 c.lo, .int .i64 c.sl, .int .i64 c.rt, .int .i64 c.cp, .int .i64 c.tr, .int .i64 c.de, .int .i64 c.wi]) hHeld (he := by intro w hSw; exact exec_load_row 24 _ _ hSw.2 rfl rfl Try.underlying24 rfl (by kernel_rfl)) (h := ?_)
  (try simp only [Act.put, sA, sB, sC])
  refine tkQ 1 (.int .i64 se) hHeld (h := ?_)
  (try simp only [Act.put, sA, sB, sC])
  refine tkQ 2 (.int .i64 ep) hHeld (h := ?_)
  (try simp only [Act.put, sA, sB, sC])
  refine tkQ 3 (.int .u16 (ep % 65536)) hHeld (he := by intro w hSw; (go_simp; (first | done | rfl | exact u16_wrap _ | (rw [u16_wrap]; done) | (simp only [u16_wrap]; done)))) (h := ?_)
  (try simp only [Act.put, sA, sB, sC])
  refine tkQ 4 (.int .i64 (ep % 65536)) hHeld (he := by intro w hSw; (have q := IntWalk.wrap64_in (ep % 65536) (by omega); go_simp; (first | done | rfl | exact q | (rw [q]; done) | (congr 1; done) | (simp only [IntKind.wrap, IntKind.bits, IntKind.signed]; simp; omega)))) (h := ?_)
  (try simp only [Act.put, sA, sB, sC])
  refine tkQ 5 (.int .i64 now) hHeld (h := ?_)
  (try simp only [Act.put, sA, sB, sC])
  refine wpAnyH_ready (rs := [6]) (by kernel_rfl) (by simp) ?_
  refine AllReadyH.cons (o := ?o1__6) ?h1__6 (fun K hK => ?_) AllReadyH.nil
  case h1__6 => (first | (simp only [gA, gB, gC]; done) | (simp only [gA, gB, gC]; exact rfl))
  (try go_simp)
  refine (clT _ _).mono ?_
  rintro e w' ⟨rfl, rfl⟩
  (try go_wp2_with fail)
  refine hK.out _ _ hHeld (fun hHeld2 => ?_)
  clear hK K hHeld2
  (try simp only [Act.put, sA, sB, sC])
  refine tkQ 7 (.agg #[.int .i64 c.ca, .int .i64 c.fl, .int .i64 c.ft, .int .i64 c.se, .int .i64 c.dr, .int .i64 c.dw, .int .i64 c.ho, .int .i64 c.re, .int .i64 c.yi, .int .i64 c.qu, .int .i64 c.qo, .int .i64 c.lo, .int .i64 c.sl, .int .i64 c.rt, .int .i64 c.cp, .int .i64 c.tr, .int .i64 c.de, .int .i64 c.wi, .int .i64 se, .int .i64 (ep % 65536), .slice none 0 0, .int .i64 0, .int .i64 0, .int .i64 0, .int .i64 0, .bool false, .int .i64 (cl now)]) hHeld (he := by intro w hSw; kernel_rfl) (h := ?_)
  (try simp only [Act.put, sA, sB, sC])
  refine wpAnyH_ready (rs := [8]) (by kernel_rfl) (by simp) ?_
  refine AllReadyH.cons (o := ?o1__8) ?h1__8 (fun K hK => ?_) AllReadyH.nil
  case h1__8 => (first | (simp only [gA, gB, gC]; done) | (simp only [gA, gB, gC]; exact rfl))
  rw [if_pos (by rfl)]
  refine wp_new (fun b => .pointer (some ⟨b, 0, none⟩)) 88 #[.int .i64 c.ca, .int .i64 c.fl, .int .i64 c.ft, .int .i64 c.se, .int .i64 c.dr, .int .i64 c.dw, .int .i64 c.ho, .int .i64 c.re, .int .i64 c.yi, .int .i64 c.qu, .int .i64 c.qo, .int .i64 c.lo, .int .i64 c.sl, .int .i64 c.rt, .int .i64 c.cp, .int .i64 c.tr, .int .i64 c.de, .int .i64 c.wi, .int .i64 se, .int .i64 (ep % 65536), .slice none 0 0, .int .i64 0, .int .i64 0, .int .i64 0, .int .i64 0, .bool false, .int .i64 (cl now)] (by rintro b rfl; first | rfl | kernel_rfl) ?_
  intro bn17 w2 hge hB hb
  refine hK.out _ _ (by (apply HRK.out; exact hb; exact hHeld)) (fun hHeld2 => ?_)
  have HNn17C := Lib.hid (show bn17 ≠ w.heap.size by have := Blk.lt (hHeld.2); (try simp at this); (try simp at hge); omega)
  have HGn17 := Lib.hid (show w.heap.size ≤ bn17 by have := Since.size hHeld.1; (try simp at this); (try simp at hge); omega)
  have HXn17 := Lib.hid hB
  clear hB
  clear hge
  clear hK K hHeld hb
  have hHeld := hHeld2
  clear hHeld2
  (try simp only [Act.put, sA, sB, sC])
  refine tkQ 9 (.pointer (some ⟨bn17, 0, none⟩)) hHeld (h := ?_)
  (try simp only [Act.put, sA, sB, sC])
  refine wpAnyH_done (by kernel_rfl) ?_ _
  have HSd1 := Lib.hid hHeld.1
  have HBCd1 := Lib.hid (hHeld.2)
  clear hHeld HRK HKS HS1 HBC1
  (try go_wp2_with fail)
  go_ret
  exact ⟨bn17, rfl, HGn17.out, HXn17.out, HSd1.out⟩
theorem newV (lo : Nat) (c : CfgV) (se ep now : Int) (w : World) (hlo : lo ≤ w.heap.size) : Calls Try.prog 13 #[.agg #[.int .i64 c.ca, .int .i64 c.fl, .int .i64 c.ft, .int .i64 c.se, .int .i64 c.dr, .int .i64 c.dw, .int .i64 c.ho, .int .i64 c.re, .int .i64 c.yi, .int .i64 c.qu, .int .i64 c.qo, .int .i64 c.lo, .int .i64 c.sl, .int .i64 c.rt, .int .i64 c.cp, .int .i64 c.tr, .int .i64 c.de, .int .i64 c.wi], .int .i64 se, .int .i64 ep, .int .i64 now] w fun e w' => ∃ q, e = .returned (.pointer (some ⟨q, 0, none⟩)) ∧ LO lo q ⟨c, se, ep % 65536, 0, 0, 0, 0, false, cl now⟩ [] [q] w' ∧ w.heap.size ≤ q ∧ Since w w' := by
  refine (newA c se ep now w).mono ?_
  rintro e w1 ⟨q, rfl, hq, hB, hb⟩
  exact ⟨q, rfl, ⟨by omega, none, 0, rfl, hB, World.ownsRow_nil _ _ _ _⟩, hq, hb⟩
set_option maxHeartbeats 4000000 in
theorem sendNil (m : MsgV) (w : World) : Calls Try.prog 14 #[.pointer none, .agg #[.int .i64 m.ki, .int .i64 m.a, .int .i64 m.b, .int .i64 m.c]] w fun e w' => e = .returned (.bool false) ∧ Since w w' := by
  go_enter Try.func14, Try.ntmps14
  go_upto_region 1 with fail
  obtain ⟨w1, hw1⟩ : ∃ w1, w1 = (w.alloc (.cells #[.int .i64 m.ki, .int .i64 m.a, .int .i64 m.b, .int .i64 m.c] 36)) := ⟨_, rfl⟩
  rw [← hw1]
  have HBM1 := Lib.hid (show Blk w1 (w.heap.size) 36 #[.int .i64 m.ki, .int .i64 m.a, .int .i64 m.b, .int .i64 m.c] by rw [hw1]; exact Blk.at_ (by (try simp only [size_alloc])) _ _)
  have HS1 := Lib.hid (show Since w w1 by rw [hw1]; exact Since.alloc (Since.refl w) _)
  have hNE : w.heap.size ≤ w.heap.size := by omega
  have HNE := Lib.hid hNE
  clear hNE hw1
  have HNE3 := Lib.hid (show w.heap.size ≤ w.heap.size from HNE.out)
  clear HNE
  have HKS : Hid (KeepS (fun W : World => Since w W ∧ Blk W w.heap.size 36 #[.int .i64 m.ki, .int .i64 m.a, .int .i64 m.b, .int .i64 m.c]) w1) := Lib.hid ⟨fun W W' k ⟨h, h0⟩ => ⟨h.trans k, keep_blk k h0⟩, ⟨HS1.out, HBM1.out⟩⟩
  have HRK := Lib.hid HKS.out.1
  refine wp_held HKS.out (by kernel_rfl) (fun hHeld => ?_)
  refine tkQ 0 (.pointer none) hHeld (h := ?_)
  (try simp only [Act.put, sA, sB, sC])
  refine tkQ 1 (.bool true) hHeld (h := ?_)
  (try simp only [Act.put, sA, sB, sC])
  refine tkQ 2 (.bool true) hHeld (h := ?_)
  (try simp only [Act.put, sA, sB, sC])
  refine tkU 3 hHeld (h := ?_)
  (try simp only [Act.put, sA, sB, sC])
  refine tkU 4 hHeld (h := ?_)
  (try simp only [Act.put, sA, sB, sC])
  refine tkU 5 hHeld (h := ?_)
  (try simp only [Act.put, sA, sB, sC])
  refine tkU 6 hHeld (h := ?_)
  (try simp only [Act.put, sA, sB, sC])
  refine tkU 7 hHeld (h := ?_)
  (try simp only [Act.put, sA, sB, sC])
  refine tkU 8 hHeld (h := ?_)
  (try simp only [Act.put, sA, sB, sC])
  refine tkU 9 hHeld (h := ?_)
  (try simp only [Act.put, sA, sB, sC])
  refine tkU 10 hHeld (h := ?_)
  (try simp only [Act.put, sA, sB, sC])
  refine tkQ 11 (.bool true) hHeld (h := ?_)
  (try simp only [Act.put, sA, sB, sC])
  refine wpAnyH_done (by kernel_rfl) ?_ _
  have HSd1 := Lib.hid hHeld.1
  have HBMd1 := Lib.hid (hHeld.2)
  clear hHeld HRK HKS HS1 HBM1
  go_upto_region 2 with fail
  refine wp_region_lit ?_
  refine tkL (.bool false) (h := ?_)
  (try simp only [Act.put, sA, sB, sC])
  refine wpList_nil ?_
  (try go_wp2_with fail)
  go_ret
  exact ⟨rfl, HSd1.out⟩
set_option maxHeartbeats 4000000 in
theorem deadNil (now : Int) (w : World) : Calls Try.prog 19 #[.pointer none, .int .i64 now] w fun e w' => e = .returned (.bool true) ∧ Since w w' := by
  go_enter Try.func19, Try.ntmps19
  go_upto_region 1 with fail
  have HS1 := Lib.hid (Since.refl w)
  refine wp_region_lit ?_
  refine tkL (.pointer none) (h := ?_)
  (try simp only [Act.put, sA, sB, sC])
  refine tkL (.bool true) (h := ?_)
  (try simp only [Act.put, sA, sB, sC])
  refine wpList_nil ?_
  go_upto_region 2 with fail
  refine wp_region_lit ?_
  refine tkL (.bool true) (h := ?_)
  (try simp only [Act.put, sA, sB, sC])
  refine wpList_nil ?_
  (try go_wp2_with fail)
  go_ret
  exact ⟨rfl, HS1.out⟩
set_option maxHeartbeats 4000000 in
theorem epochNil (w : World) : Calls Try.prog 20 #[.pointer none] w fun e w' => e = .returned (.int .i64 0) ∧ Since w w' := by
  go_enter Try.func20, Try.ntmps20
  go_upto_region 1 with fail
  have HS1 := Lib.hid (Since.refl w)
  refine wp_region_lit ?_
  refine tkL (.pointer none) (h := ?_)
  (try simp only [Act.put, sA, sB, sC])
  refine tkL (.bool true) (h := ?_)
  (try simp only [Act.put, sA, sB, sC])
  refine wpList_nil ?_
  go_upto_region 2 with fail
  refine wp_region_lit ?_
  refine tkL (.int .i64 0) (h := ?_)
  (try simp only [Act.put, sA, sB, sC])
  refine wpList_nil ?_
  (try go_wp2_with fail)
  go_ret
  exact ⟨rfl, HS1.out⟩
set_option maxHeartbeats 4000000 in
theorem waitsNil (w : World) : Calls Try.prog 17 #[.pointer none] w fun e w' => e = .returned (.int .i64 0) ∧ Since w w' := by
  go_enter Try.func17, Try.ntmps17
  go_upto_region 1 with fail
  have HS1 := Lib.hid (Since.refl w)
  refine wp_region_lit ?_
  refine tkL (.pointer none) (h := ?_)
  (try simp only [Act.put, sA, sB, sC])
  refine tkL (.bool true) (h := ?_)
  (try simp only [Act.put, sA, sB, sC])
  refine wpList_nil ?_
  go_upto_region 2 with fail
  refine wp_region_lit ?_
  refine tkL (.int .i64 0) (h := ?_)
  (try simp only [Act.put, sA, sB, sC])
  refine wpList_nil ?_
  (try go_wp2_with fail)
  go_ret
  exact ⟨rfl, HS1.out⟩
set_option maxHeartbeats 4000000 in
theorem pollNil (now : Int) (w : World) : Calls Try.prog 15 #[.pointer none, .int .i64 now] w fun e w' => e = .returned (.tuple #[.agg #[.int .i64 0, .int .i64 0, .int .i64 0, .int .i64 0, .bool false, .int .i64 0, .int .i64 0, .int .i64 0, .int .i64 0], .bool false]) ∧ Since w w' := by
  go_enter Try.func15, Try.ntmps15
  go_upto_region 1 with fail
  obtain ⟨w1, hw1⟩ : ∃ w1, w1 = (w.alloc (.cells #[.int .i64 0, .int .i64 0, .int .i64 0, .int .i64 0, .bool false, .int .i64 0, .int .i64 0, .int .i64 0, .int .i64 0] 38)) := ⟨_, rfl⟩
  rw [← hw1]
  have HBR1 := Lib.hid (show Blk w1 (w.heap.size) 38 #[.int .i64 0, .int .i64 0, .int .i64 0, .int .i64 0, .bool false, .int .i64 0, .int .i64 0, .int .i64 0, .int .i64 0] by rw [hw1]; exact Blk.at_ (by (try simp only [size_alloc])) _ _)
  have HS1 := Lib.hid (show Since w w1 by rw [hw1]; exact Since.alloc (Since.refl w) _)
  have hNE : w.heap.size ≤ w.heap.size := by omega
  have HNE := Lib.hid hNE
  clear hNE hw1
  have HNE3 := Lib.hid (show w.heap.size ≤ w.heap.size from HNE.out)
  clear HNE
  refine wp_region_lit ?_
  refine tkL (.pointer none) (h := ?_)
  (try simp only [Act.put, sA, sB, sC])
  refine tkL (.bool true) (h := ?_)
  (try simp only [Act.put, sA, sB, sC])
  refine wpList_nil ?_
  go_upto_region 2 with fail
  refine wp_region_lit ?_
  refine wpList_q (by rfl) (.agg #[.int .i64 0, .int .i64 0, .int .i64 0, .int .i64 0, .bool false, .int .i64 0, .int .i64 0, .int .i64 0, .int .i64 0]) ?he ?_
  case he => kernel_rfl
  (try simp only [Act.put, sA, sB, sC])
  refine wpList_wp (by rfl) (fun K hK => ?_)
  refine wp_st_row 38 _ _ rfl #[.int .i64 0, .int .i64 0, .int .i64 0, .int .i64 0, .bool false, .int .i64 0, .int .i64 0, .int .i64 0, .int .i64 0] rfl rfl (HasRow.of HBR1.out rfl) rfl (by simp [Value.oneCell']) (by kernel_rfl) ?_
  intro w2 hw
  refine hK.out _ _ ?_
  clear hK K
  (try simp only [Act.put, sA, sB, sC])
  have HS2 := Lib.hid (show Since w w2 by rw [hw]; exact Since.setRow HS1.out (by have := HNE3.out; omega) _)
  have HBR2 := Lib.hid (show Blk w2 w.heap.size 38 #[.int .i64 0, .int .i64 0, .int .i64 0, .int .i64 0, .bool false, .int .i64 0, .int .i64 0, .int .i64 0, .int .i64 0] by rw [hw]; exact Blk.row HBR1.out _)
  clear hw HS1 HBR1
  refine tkL (.bool false) (h := ?_)
  (try simp only [Act.put, sA, sB, sC])
  refine wpList_nil ?_
  (try go_wp2_with fail)
  exact bodyPost_ret (results_row2 rfl _ _ w.heap.size 38 #[.int .i64 0, .int .i64 0, .int .i64 0, .int .i64 0, .bool false, .int .i64 0, .int .i64 0, .int .i64 0, .int .i64 0] _ (.bool false) rfl rfl HBR2.out Try.underlying38 rfl (by kernel_rfl)) rfl ⟨rfl, HS2.out⟩
set_option maxHeartbeats 4000000 in
theorem recvNil (p : PkV) (now : Int) (w : World) : Calls Try.prog 16 #[.pointer none, .agg #[.int .i64 p.se, .int .i64 p.ep, .int .i64 p.sq, .int .i64 p.ak, .bool p.ha, .int .i64 p.m.ki, .int .i64 p.m.a, .int .i64 p.m.b, .int .i64 p.m.c], .int .i64 now] w fun e w' => e = .returned (.tuple #[.agg #[.int .i64 0, .int .i64 0, .int .i64 0, .int .i64 0], .bool false]) ∧ Since w w' := by
  go_enter Try.func16, Try.ntmps16
  go_upto_region 1 with fail
  obtain ⟨w1, hw1⟩ : ∃ w1, w1 = ((w.alloc (.cells #[.int .i64 p.se, .int .i64 p.ep, .int .i64 p.sq, .int .i64 p.ak, .bool p.ha, .int .i64 p.m.ki, .int .i64 p.m.a, .int .i64 p.m.b, .int .i64 p.m.c] 38)).alloc (.cells #[.int .i64 0, .int .i64 0, .int .i64 0, .int .i64 0] 36)) := ⟨_, rfl⟩
  rw [← hw1]
  have HBP1 := Lib.hid (show Blk w1 (w.heap.size) 38 #[.int .i64 p.se, .int .i64 p.ep, .int .i64 p.sq, .int .i64 p.ak, .bool p.ha, .int .i64 p.m.ki, .int .i64 p.m.a, .int .i64 p.m.b, .int .i64 p.m.c] by rw [hw1]; exact Blk.alloc (Blk.at_ (by (try simp only [size_alloc])) _ _) _)
  have HBR1 := Lib.hid (show Blk w1 (w.heap.size + 1) 36 #[.int .i64 0, .int .i64 0, .int .i64 0, .int .i64 0] by rw [hw1]; exact Blk.at_ (by (try simp only [size_alloc])) _ _)
  have HS1 := Lib.hid (show Since w w1 by rw [hw1]; exact Since.alloc (Since.alloc (Since.refl w) _) _)
  have hNE : w.heap.size ≤ w.heap.size ∧ w.heap.size < w.heap.size + 1 := by omega
  have HNE := Lib.hid hNE
  clear hNE hw1
  generalize w.heap.size + 1 = bR at *
  have HNE3 := Lib.hid (show w.heap.size ≤ w.heap.size ∧ w.heap.size < bR from HNE.out)
  clear HNE
  have HKS : Hid (KeepS (fun W : World => Since w W ∧ Blk W w.heap.size 38 #[.int .i64 p.se, .int .i64 p.ep, .int .i64 p.sq, .int .i64 p.ak, .bool p.ha, .int .i64 p.m.ki, .int .i64 p.m.a, .int .i64 p.m.b, .int .i64 p.m.c] ∧ Blk W bR 36 #[.int .i64 0, .int .i64 0, .int .i64 0, .int .i64 0]) w1) := Lib.hid ⟨fun W W' k ⟨h, h0, h1⟩ => ⟨h.trans k, keep_blk k h0, keep_blk k h1⟩, ⟨HS1.out, HBP1.out, HBR1.out⟩⟩
  have HRK := Lib.hid HKS.out.1
  refine wp_held HKS.out (by kernel_rfl) (fun hHeld => ?_)
  refine tkQ 0 (.pointer none) hHeld (h := ?_)
  (try simp only [Act.put, sA, sB, sC])
  refine tkQ 1 (.bool true) hHeld (h := ?_)
  (try simp only [Act.put, sA, sB, sC])
  refine tkQ 2 (.bool true) hHeld (h := ?_)
  (try simp only [Act.put, sA, sB, sC])
  refine tkU 3 hHeld (h := ?_)
  (try simp only [Act.put, sA, sB, sC])
  refine tkU 4 hHeld (h := ?_)
  (try simp only [Act.put, sA, sB, sC])
  refine tkU 5 hHeld (h := ?_)
  (try simp only [Act.put, sA, sB, sC])
  refine tkU 6 hHeld (h := ?_)
  (try simp only [Act.put, sA, sB, sC])
  refine tkU 7 hHeld (h := ?_)
  (try simp only [Act.put, sA, sB, sC])
  refine tkU 8 hHeld (h := ?_)
  (try simp only [Act.put, sA, sB, sC])
  refine tkU 9 hHeld (h := ?_)
  (try simp only [Act.put, sA, sB, sC])
  refine tkQ 10 (.bool true) hHeld (h := ?_)
  (try simp only [Act.put, sA, sB, sC])
  refine tkQ 11 (.bool true) hHeld (h := ?_)
  (try simp only [Act.put, sA, sB, sC])
  refine tkU 12 hHeld (h := ?_)
  (try simp only [Act.put, sA, sB, sC])
  refine tkU 13 hHeld (h := ?_)
  (try simp only [Act.put, sA, sB, sC])
  refine tkU 14 hHeld (h := ?_)
  (try simp only [Act.put, sA, sB, sC])
  refine tkU 15 hHeld (h := ?_)
  (try simp only [Act.put, sA, sB, sC])
  refine tkU 16 hHeld (h := ?_)
  (try simp only [Act.put, sA, sB, sC])
  refine tkU 17 hHeld (h := ?_)
  (try simp only [Act.put, sA, sB, sC])
  refine tkU 18 hHeld (h := ?_)
  (try simp only [Act.put, sA, sB, sC])
  refine tkQ 19 (.bool true) hHeld (h := ?_)
  (try simp only [Act.put, sA, sB, sC])
  refine wpAnyH_done (by kernel_rfl) ?_ _
  have HSd1 := Lib.hid hHeld.1
  have HBPd1 := Lib.hid (hHeld.2.1)
  have HBRd1 := Lib.hid (hHeld.2.2)
  clear hHeld HRK HKS HS1 HBP1 HBR1
  go_upto_region 2 with fail
  refine wp_region_lit ?_
  refine wpList_q (by rfl) (.agg #[.int .i64 0, .int .i64 0, .int .i64 0, .int .i64 0]) ?he ?_
  case he => kernel_rfl
  (try simp only [Act.put, sA, sB, sC])
  refine wpList_wp (by rfl) (fun K hK => ?_)
  refine wp_st_row 36 _ _ rfl #[.int .i64 0, .int .i64 0, .int .i64 0, .int .i64 0] rfl rfl (HasRow.of HBRd1.out rfl) rfl (by simp [Value.oneCell']) (by kernel_rfl) ?_
  intro w2 hw
  refine hK.out _ _ ?_
  clear hK K
  (try simp only [Act.put, sA, sB, sC])
  have HS2 := Lib.hid (show Since w w2 by rw [hw]; exact Since.setRow HSd1.out (by have := HNE3.out; omega) _)
  have HBP2 := Lib.hid (show Blk w2 w.heap.size 38 #[.int .i64 p.se, .int .i64 p.ep, .int .i64 p.sq, .int .i64 p.ak, .bool p.ha, .int .i64 p.m.ki, .int .i64 p.m.a, .int .i64 p.m.b, .int .i64 p.m.c] by rw [hw]; exact Blk.row_far HBPd1.out (by have := HNE3.out; omega) _)
  have HBR2 := Lib.hid (show Blk w2 bR 36 #[.int .i64 0, .int .i64 0, .int .i64 0, .int .i64 0] by rw [hw]; exact Blk.row HBRd1.out _)
  clear hw HSd1 HBPd1 HBRd1
  refine tkL (.bool false) (h := ?_)
  (try simp only [Act.put, sA, sB, sC])
  refine wpList_nil ?_
  (try go_wp2_with fail)
  exact bodyPost_ret (results_row2 rfl _ _ bR 36 #[.int .i64 0, .int .i64 0, .int .i64 0, .int .i64 0] _ (.bool false) rfl rfl HBR2.out Try.underlying36 rfl (by kernel_rfl)) rfl ⟨rfl, HS2.out⟩
set_option maxHeartbeats 4000000 in
theorem epochT (q : Nat) (k : LkV) (A : Option Addr) (n c : Nat) (w : World) (hb : Blk w q 88 (lkC k (.slice A n c))) : Calls Try.prog 20 #[.pointer (some ⟨q, 0, none⟩)] w fun e w' => e = .returned (.int .i64 k.ep) ∧ Since w w' := by
  have HB := Lib.hid (show Blk w q 88 #[.int .i64 k.c.ca, .int .i64 k.c.fl, .int .i64 k.c.ft, .int .i64 k.c.se, .int .i64 k.c.dr, .int .i64 k.c.dw, .int .i64 k.c.ho, .int .i64 k.c.re, .int .i64 k.c.yi, .int .i64 k.c.qu, .int .i64 k.c.qo, .int .i64 k.c.lo, .int .i64 k.c.sl, .int .i64 k.c.rt, .int .i64 k.c.cp, .int .i64 k.c.tr, .int .i64 k.c.de, .int .i64 k.c.wi, .int .i64 k.se, .int .i64 k.ep, .slice A n c, .int .i64 k.sq, .int .i64 k.st, .int .i64 k.du, .int .i64 k.ak, .bool k.an, .int .i64 k.he] from hb)
  clear hb
  go_enter Try.func20, Try.ntmps20
  go_upto_region 1 with fail
  have HS1 := Lib.hid (Since.refl w)
  refine wp_region_lit ?_
  refine tkL (.pointer (some ⟨q, 0, none⟩)) (h := ?_)
  (try simp only [Act.put, sA, sB, sC])
  refine tkL (.bool false) (h := ?_)
  (try simp only [Act.put, sA, sB, sC])
  refine wpList_nil ?_
  go_upto_region 3 with fail
  refine wp_region_lit ?_
  refine tkL (.pointer (some ⟨q, 0, none⟩)) (h := ?_)
  (try simp only [Act.put, sA, sB, sC])
  refine tkL (.pointer (some ⟨q, 0, none⟩)) (h := ?_)
  (try simp only [Act.put, sA, sB, sC])
  refine tkL (.pointer (some ⟨q, 19, none⟩)) (h := ?_)
  (try simp only [Act.put, sA, sB, sC])
  refine wpList_q (by rfl) (.int .i64 k.ep) ?he ?_
  case he => exact exec_cell 3 _ _ HB.out rfl rfl rfl Try.underlying3 rfl
  (try simp only [Act.put, sA, sB, sC])
  refine tkL (.int .i64 k.ep) (h := ?_)
  (try simp only [Act.put, sA, sB, sC])
  refine wpList_nil ?_
  (try go_wp2_with fail)
  go_ret
  exact ⟨rfl, HS1.out⟩
set_option maxHeartbeats 4000000 in
theorem waitsT (q : Nat) (k : LkV) (A : Option Addr) (n c : Nat) (w : World) (hb : Blk w q 88 (lkC k (.slice A n c))) : Calls Try.prog 17 #[.pointer (some ⟨q, 0, none⟩)] w fun e w' => e = .returned (.int .i64 (n : Int)) ∧ Since w w' := by
  have HB := Lib.hid (show Blk w q 88 #[.int .i64 k.c.ca, .int .i64 k.c.fl, .int .i64 k.c.ft, .int .i64 k.c.se, .int .i64 k.c.dr, .int .i64 k.c.dw, .int .i64 k.c.ho, .int .i64 k.c.re, .int .i64 k.c.yi, .int .i64 k.c.qu, .int .i64 k.c.qo, .int .i64 k.c.lo, .int .i64 k.c.sl, .int .i64 k.c.rt, .int .i64 k.c.cp, .int .i64 k.c.tr, .int .i64 k.c.de, .int .i64 k.c.wi, .int .i64 k.se, .int .i64 k.ep, .slice A n c, .int .i64 k.sq, .int .i64 k.st, .int .i64 k.du, .int .i64 k.ak, .bool k.an, .int .i64 k.he] from hb)
  clear hb
  go_enter Try.func17, Try.ntmps17
  go_upto_region 1 with fail
  have HS1 := Lib.hid (Since.refl w)
  refine wp_region_lit ?_
  refine tkL (.pointer (some ⟨q, 0, none⟩)) (h := ?_)
  (try simp only [Act.put, sA, sB, sC])
  refine tkL (.bool false) (h := ?_)
  (try simp only [Act.put, sA, sB, sC])
  refine wpList_nil ?_
  go_upto_region 3 with fail
  refine wp_region_lit ?_
  refine tkL (.pointer (some ⟨q, 0, none⟩)) (h := ?_)
  (try simp only [Act.put, sA, sB, sC])
  refine tkL (.pointer (some ⟨q, 0, none⟩)) (h := ?_)
  (try simp only [Act.put, sA, sB, sC])
  refine tkL (.pointer (some ⟨q, 20, none⟩)) (h := ?_)
  (try simp only [Act.put, sA, sB, sC])
  refine wpList_q (by rfl) (.slice A n c) ?he ?_
  case he => exact exec_cell 86 _ _ HB.out rfl rfl rfl Try.underlying86 rfl
  (try simp only [Act.put, sA, sB, sC])
  refine tkL (.int .i64 (n : Int)) (h := ?_)
  (try simp only [Act.put, sA, sB, sC])
  refine tkL (.int .i64 (n : Int)) (h := ?_)
  (try simp only [Act.put, sA, sB, sC])
  refine wpList_nil ?_
  (try go_wp2_with fail)
  go_ret
  exact ⟨rfl, HS1.out⟩
set_option maxHeartbeats 4000000 in
theorem winT (q : Nat) (k : LkV) (A : Option Addr) (n c : Nat) (w : World) (hb : Blk w q 88 (lkC k (.slice A n c))) : Calls Try.prog 36 #[.pointer (some ⟨q, 0, none⟩)] w fun e w' => e = .returned (.int .i64 (winV k.c)) ∧ Since w w' := by
  have HB := Lib.hid (show Blk w q 88 #[.int .i64 k.c.ca, .int .i64 k.c.fl, .int .i64 k.c.ft, .int .i64 k.c.se, .int .i64 k.c.dr, .int .i64 k.c.dw, .int .i64 k.c.ho, .int .i64 k.c.re, .int .i64 k.c.yi, .int .i64 k.c.qu, .int .i64 k.c.qo, .int .i64 k.c.lo, .int .i64 k.c.sl, .int .i64 k.c.rt, .int .i64 k.c.cp, .int .i64 k.c.tr, .int .i64 k.c.de, .int .i64 k.c.wi, .int .i64 k.se, .int .i64 k.ep, .slice A n c, .int .i64 k.sq, .int .i64 k.st, .int .i64 k.du, .int .i64 k.ak, .bool k.an, .int .i64 k.he] from hb)
  clear hb
  go_enter Try.func36, Try.ntmps36
  go_upto_region 1 with fail
  have HS1 := Lib.hid (Since.refl w)
  refine wp_region_lit ?_
  refine tkL (.pointer (some ⟨q, 0, none⟩)) (h := ?_)
  (try simp only [Act.put, sA, sB, sC])
  refine tkL (.pointer (some ⟨q, 0, none⟩)) (h := ?_)
  (try simp only [Act.put, sA, sB, sC])
  refine tkL (.pointer (some ⟨q, 0, none⟩)) (h := ?_)
  (try simp only [Act.put, sA, sB, sC])
  refine tkL (.pointer (some ⟨q, 17, none⟩)) (h := ?_)
  (try simp only [Act.put, sA, sB, sC])
  refine wpList_q (by rfl) (.int .i64 k.c.wi) ?he ?_
  case he => exact exec_cell 3 _ _ HB.out rfl rfl rfl Try.underlying3 rfl
  (try simp only [Act.put, sA, sB, sC])
  refine wpList_q (by rfl) (.int .i64 (mx1 k.c.wi)) ?he ?_
  case he => (unfold mx1; go_simp; (first | done | rfl))
  (try simp only [Act.put, sA, sB, sC])
  refine wpList_q (by rfl) (.int .i64 (winV k.c)) ?he ?_
  case he => (unfold winV; go_simp; (first | done | rfl))
  (try simp only [Act.put, sA, sB, sC])
  refine tkL (.int .i64 (winV k.c)) (h := ?_)
  (try simp only [Act.put, sA, sB, sC])
  refine wpList_nil ?_
  (try go_wp2_with fail)
  go_ret
  exact ⟨rfl, HS1.out⟩
set_option maxHeartbeats 4000000 in
theorem due0 (q : Nat) (k : LkV) (A : Option Addr) (n c : Nat) (now : Int) (w : World) (hb : Blk w q 88 (lkC k (.slice A n c))) (h0 : n = 0) : Calls Try.prog 37 #[.pointer (some ⟨q, 0, none⟩), .int .i64 now] w fun e w' => e = .returned (.bool false) ∧ Since w w' := by
  have HB := Lib.hid (show Blk w q 88 #[.int .i64 k.c.ca, .int .i64 k.c.fl, .int .i64 k.c.ft, .int .i64 k.c.se, .int .i64 k.c.dr, .int .i64 k.c.dw, .int .i64 k.c.ho, .int .i64 k.c.re, .int .i64 k.c.yi, .int .i64 k.c.qu, .int .i64 k.c.qo, .int .i64 k.c.lo, .int .i64 k.c.sl, .int .i64 k.c.rt, .int .i64 k.c.cp, .int .i64 k.c.tr, .int .i64 k.c.de, .int .i64 k.c.wi, .int .i64 k.se, .int .i64 k.ep, .slice A n c, .int .i64 k.sq, .int .i64 k.st, .int .i64 k.du, .int .i64 k.ak, .bool k.an, .int .i64 k.he] from hb)
  clear hb
  have H0 := Lib.hid h0
  clear h0
  go_enter Try.func37, Try.ntmps37
  go_upto_region 1 with fail
  have HS1 := Lib.hid (Since.refl w)
  refine wp_region_lit ?_
  refine tkL (.pointer (some ⟨q, 0, none⟩)) (h := ?_)
  (try simp only [Act.put, sA, sB, sC])
  refine tkL (.pointer (some ⟨q, 0, none⟩)) (h := ?_)
  (try simp only [Act.put, sA, sB, sC])
  refine tkL (.pointer (some ⟨q, 20, none⟩)) (h := ?_)
  (try simp only [Act.put, sA, sB, sC])
  refine wpList_q (by rfl) (.slice A n c) ?he ?_
  case he => exact exec_cell 86 _ _ HB.out rfl rfl rfl Try.underlying86 rfl
  (try simp only [Act.put, sA, sB, sC])
  refine tkL (.int .i64 (n : Int)) (h := ?_)
  (try simp only [Act.put, sA, sB, sC])
  refine wpList_q (by rfl) (.bool false) ?he ?_
  case he => (have q0 := H0.out; go_simp; (first | done | rfl | omega))
  (try simp only [Act.put, sA, sB, sC])
  refine tkL (.bool false) (h := ?_)
  (try simp only [Act.put, sA, sB, sC])
  refine wpList_no (by rfl) ?_
  (try simp only [Act.put, sA, sB, sC])
  refine wpList_no (by rfl) ?_
  (try simp only [Act.put, sA, sB, sC])
  refine wpList_no (by rfl) ?_
  (try simp only [Act.put, sA, sB, sC])
  refine wpList_no (by rfl) ?_
  (try simp only [Act.put, sA, sB, sC])
  refine wpList_no (by rfl) ?_
  (try simp only [Act.put, sA, sB, sC])
  refine wpList_no (by rfl) ?_
  (try simp only [Act.put, sA, sB, sC])
  refine tkL (.bool false) (h := ?_)
  (try simp only [Act.put, sA, sB, sC])
  refine tkL (.bool false) (h := ?_)
  (try simp only [Act.put, sA, sB, sC])
  refine wpList_nil ?_
  (try go_wp2_with fail)
  go_ret
  exact ⟨rfl, HS1.out⟩
set_option maxHeartbeats 4000000 in
theorem due1 (q : Nat) (k : LkV) (A : Option Addr) (n c : Nat) (now : Int) (w : World) (hb : Blk w q 88 (lkC k (.slice A n c))) (h0 : 0 < n) : Calls Try.prog 37 #[.pointer (some ⟨q, 0, none⟩), .int .i64 now] w fun e w' => e = .returned (.bool (decide (cl k.du ≤ cl now))) ∧ Since w w' := by
  have HB := Lib.hid (show Blk w q 88 #[.int .i64 k.c.ca, .int .i64 k.c.fl, .int .i64 k.c.ft, .int .i64 k.c.se, .int .i64 k.c.dr, .int .i64 k.c.dw, .int .i64 k.c.ho, .int .i64 k.c.re, .int .i64 k.c.yi, .int .i64 k.c.qu, .int .i64 k.c.qo, .int .i64 k.c.lo, .int .i64 k.c.sl, .int .i64 k.c.rt, .int .i64 k.c.cp, .int .i64 k.c.tr, .int .i64 k.c.de, .int .i64 k.c.wi, .int .i64 k.se, .int .i64 k.ep, .slice A n c, .int .i64 k.sq, .int .i64 k.st, .int .i64 k.du, .int .i64 k.ak, .bool k.an, .int .i64 k.he] from hb)
  clear hb
  have H0 := Lib.hid h0
  clear h0
  go_enter Try.func37, Try.ntmps37
  go_upto_region 1 with fail
  have HS1 := Lib.hid (Since.refl w)
  refine wp_region_lit ?_
  refine tkL (.pointer (some ⟨q, 0, none⟩)) (h := ?_)
  (try simp only [Act.put, sA, sB, sC])
  refine tkL (.pointer (some ⟨q, 0, none⟩)) (h := ?_)
  (try simp only [Act.put, sA, sB, sC])
  refine tkL (.pointer (some ⟨q, 20, none⟩)) (h := ?_)
  (try simp only [Act.put, sA, sB, sC])
  refine wpList_q (by rfl) (.slice A n c) ?he ?_
  case he => exact exec_cell 86 _ _ HB.out rfl rfl rfl Try.underlying86 rfl
  (try simp only [Act.put, sA, sB, sC])
  refine tkL (.int .i64 (n : Int)) (h := ?_)
  (try simp only [Act.put, sA, sB, sC])
  refine wpList_q (by rfl) (.bool true) ?he ?_
  case he => (have q0 := H0.out; go_simp; (first | done | rfl | omega))
  (try simp only [Act.put, sA, sB, sC])
  refine tkL (.bool true) (h := ?_)
  (try simp only [Act.put, sA, sB, sC])
  refine tkL (.int .i64 now) (h := ?_)
  (try simp only [Act.put, sA, sB, sC])
  refine tkL (.pointer (some ⟨q, 0, none⟩)) (h := ?_)
  (try simp only [Act.put, sA, sB, sC])
  refine tkL (.pointer (some ⟨q, 0, none⟩)) (h := ?_)
  (try simp only [Act.put, sA, sB, sC])
  refine tkL (.pointer (some ⟨q, 23, none⟩)) (h := ?_)
  (try simp only [Act.put, sA, sB, sC])
  refine wpList_q (by rfl) (.int .i64 k.du) ?he ?_
  case he => exact exec_cell 3 _ _ HB.out rfl rfl rfl Try.underlying3 rfl
  (try simp only [Act.put, sA, sB, sC])
  refine wpList_wp (by rfl) (fun K hK => ?_)
  (try go_simp)
  refine (lateT _ _ _).mono ?_
  rintro e w' ⟨rfl, rfl⟩
  (try go_wp2_with fail)
  refine hK.out _ _ ?_
  clear hK K
  (try simp only [Act.put, sA, sB, sC])
  refine tkL (.bool (decide (cl k.du ≤ cl now))) (h := ?_)
  (try simp only [Act.put, sA, sB, sC])
  refine tkL (.bool (decide (cl k.du ≤ cl now))) (h := ?_)
  (try simp only [Act.put, sA, sB, sC])
  refine wpList_nil ?_
  (try go_wp2_with fail)
  go_ret
  exact ⟨rfl, HS1.out⟩
theorem dueV (q : Nat) (k : LkV) (A : Option Addr) (n c : Nat) (now : Int) (b : Bool) (w : World) (hb : Blk w q 88 (lkC k (.slice A n c))) (hd : dueB k n now = b) : Calls Try.prog 37 #[.pointer (some ⟨q, 0, none⟩), .int .i64 now] w fun e w' => e = .returned (.bool b) ∧ Since w w' := by
  subst hd
  by_cases h0 : n = 0
  · rw [show dueB k n now = false by simp [dueB, h0]]; exact due0 q k A n c now w hb h0
  · rw [show dueB k n now = decide (cl k.du ≤ cl now) by simp [dueB]; omega]; exact due1 q k A n c now w hb (by omega)
end Go.Proofs.Ytlihhjcneedgnaa.Ln
