/-
  What is wanted by the last of these texts, part 17.
  No condition.
-/
import Derived.Test.YtpacieocmogjeaaProg
import Derived.Test.YtpacieocmogjeaaKGv0
import Derived.Test.YtpacieocmogjeaaKGv16
namespace Go.Proofs.Ytpacieocmogjeaa.Gr
set_option linter.unusedVariables false
set_option linter.unusedSimpArgs false
open Go.RowKit Go.Proofs.Ytpacieocmogjeaa.Ba Go.Proofs.Ytpacieocmogjeaa.Mem Go.Proofs.Ytpacieocmogjeaa.Ty Go.Proofs.Ytpacieocmogjeaa.Mo Go.Proofs.Ytpacieocmogjeaa.St Go.Proofs.Ytpacieocmogjeaa.Sc Go.Proofs.Ytpacieocmogjeaa.Pl
open Go.Proofs.Ytpacieocmogjeaa.Ct (cfgA carA m1 dwV bdX tkV tkF tkW tkS tickT)
set_option maxRecDepth 100000
attribute [local irreducible] Go.wpList
set_option maxHeartbeats 4000000 in
theorem loadL (q : Nat) (G : GrV) (A : Option Addr) (n c1 : Nat) (v2 : Value) (i : Int) (v : Int) (w : World) (hq : Blk w q 67 (grpA G (.slice A n c1) v2)) (hi : i < 0) : Calls Try.prog 37 #[.pointer (some ⟨q, 0, none⟩), .int .i64 i, .int .i64 v] w fun e w' => e = .returned (.int .i64 1) ∧ Since w w' := by
 have HQ := Lib.hid hq
 clear hq
 have HI := Lib.hid hi
 clear hi
 go_enter Try.func37, Try.ntmps37
 go_upto_region 1 with fail
 obtain ⟨w1, hw1⟩ : ∃ w1, w1 = (w.alloc (.cells #[.int .i64 v] 3)) := ⟨_, rfl⟩
 rw [← hw1]
 have HBV1 := Lib.hid (show Blk w1 (w.heap.size) 3 #[.int .i64 v] by rw [hw1]; exact Blk.at_ (by (try simp only [size_alloc])) _ _)
 have HS1 := Lib.hid (show Since w w1 by rw [hw1]; exact Since.alloc (Since.refl w) _)
 have hNE : w.heap.size ≤ w.heap.size := by omega
 have HNE := Lib.hid hNE
 clear hNE hw1
 have HNE3 := Lib.hid (show w.heap.size ≤ w.heap.size from HNE.out)
 clear HNE
 have HQ1 := Lib.hid (keep_blk HS1.out HQ.out)
 refine wp_region_lit ?_
 refine tkL (.pointer (some ⟨q, 0, none⟩)) (h := ?_)
 (try simp only [Act.put, sA, sB, sC])
 refine tkL (.int .i64 i) (h := ?_)
 (try simp only [Act.put, sA, sB, sC])
 refine wpList_q (by rfl) (.func (.func 60) #[] #[.pointer (some ⟨w.heap.size, 0, none⟩)]) ?he ?_
 case he => (first | rfl | (go_simp; (try rfl)))
 (try simp only [Act.put, sA, sB, sC])
 refine wpList_wp (by rfl) (fun K hK => ?_)
 (try go_simp)
 refine (changeL q G A n c1 v2 i _ _ HQ1.out HI.out).mono ?_
 rintro e w' ⟨rfl, rfl⟩
 (try go_wp2_with fail)
 refine hK.out _ _ ?_
 clear hK K
 (try simp only [Act.put, sA, sB, sC])
 refine tkL (.int .i64 1) (h := ?_)
 (try simp only [Act.put, sA, sB, sC])
 refine wpList_nil ?_
 (try go_wp2_with fail)
 go_ret
 exact ⟨rfl, HS1.out⟩
set_option maxHeartbeats 4000000 in
theorem loadH (q : Nat) (G : GrV) (A : Option Addr) (n c1 : Nat) (v2 : Value) (i : Int) (v : Int) (w : World) (hq : Blk w q 67 (grpA G (.slice A n c1) v2)) (hi : 0 ≤ i) (hj : (n : Int) ≤ i) : Calls Try.prog 37 #[.pointer (some ⟨q, 0, none⟩), .int .i64 i, .int .i64 v] w fun e w' => e = .returned (.int .i64 1) ∧ Since w w' := by
 have HQ := Lib.hid hq
 clear hq
 have HI := Lib.hid hi
 clear hi
 have HJ := Lib.hid hj
 clear hj
 go_enter Try.func37, Try.ntmps37
 go_upto_region 1 with fail
 obtain ⟨w1, hw1⟩ : ∃ w1, w1 = (w.alloc (.cells #[.int .i64 v] 3)) := ⟨_, rfl⟩
 rw [← hw1]
 have HBV1 := Lib.hid (show Blk w1 (w.heap.size) 3 #[.int .i64 v] by rw [hw1]; exact Blk.at_ (by (try simp only [size_alloc])) _ _)
 have HS1 := Lib.hid (show Since w w1 by rw [hw1]; exact Since.alloc (Since.refl w) _)
 have hNE : w.heap.size ≤ w.heap.size := by omega
 have HNE := Lib.hid hNE
 clear hNE hw1
 have HNE3 := Lib.hid (show w.heap.size ≤ w.heap.size from HNE.out)
 clear HNE
 have HQ1 := Lib.hid (keep_blk HS1.out HQ.out)
 refine wp_region_lit ?_
 refine tkL (.pointer (some ⟨q, 0, none⟩)) (h := ?_)
 (try simp only [Act.put, sA, sB, sC])
 refine tkL (.int .i64 i) (h := ?_)
 (try simp only [Act.put, sA, sB, sC])
 refine wpList_q (by rfl) (.func (.func 60) #[] #[.pointer (some ⟨w.heap.size, 0, none⟩)]) ?he ?_
 case he => (first | rfl | (go_simp; (try rfl)))
 (try simp only [Act.put, sA, sB, sC])
 refine wpList_wp (by rfl) (fun K hK => ?_)
 (try go_simp)
 refine (changeH q G A n c1 v2 i _ _ HQ1.out HI.out HJ.out).mono ?_
 rintro e w' ⟨rfl, rfl⟩
 (try go_wp2_with fail)
 refine hK.out _ _ ?_
 clear hK K
 (try simp only [Act.put, sA, sB, sC])
 refine tkL (.int .i64 1) (h := ?_)
 (try simp only [Act.put, sA, sB, sC])
 refine wpList_nil ?_
 (try go_wp2_with fail)
 go_ret
 exact ⟨rfl, HS1.out⟩
set_option maxHeartbeats 4000000 in
theorem curtainL (q : Nat) (G : GrV) (A : Option Addr) (n c1 : Nat) (v2 : Value) (i : Int) (v : Bool) (w : World) (hq : Blk w q 67 (grpA G (.slice A n c1) v2)) (hi : i < 0) : Calls Try.prog 38 #[.pointer (some ⟨q, 0, none⟩), .int .i64 i, .bool v] w fun e w' => e = .returned (.int .i64 1) ∧ Since w w' := by
 have HQ := Lib.hid hq
 clear hq
 have HI := Lib.hid hi
 clear hi
 go_enter Try.func38, Try.ntmps38
 go_upto_region 1 with fail
 obtain ⟨w1, hw1⟩ : ∃ w1, w1 = (w.alloc (.cells #[.bool v] 4)) := ⟨_, rfl⟩
 rw [← hw1]
 have HBV1 := Lib.hid (show Blk w1 (w.heap.size) 4 #[.bool v] by rw [hw1]; exact Blk.at_ (by (try simp only [size_alloc])) _ _)
 have HS1 := Lib.hid (show Since w w1 by rw [hw1]; exact Since.alloc (Since.refl w) _)
 have hNE : w.heap.size ≤ w.heap.size := by omega
 have HNE := Lib.hid hNE
 clear hNE hw1
 have HNE3 := Lib.hid (show w.heap.size ≤ w.heap.size from HNE.out)
 clear HNE
 have HQ1 := Lib.hid (keep_blk HS1.out HQ.out)
 refine wp_region_lit ?_
 refine tkL (.pointer (some ⟨q, 0, none⟩)) (h := ?_)
 (try simp only [Act.put, sA, sB, sC])
 refine tkL (.int .i64 i) (h := ?_)
 (try simp only [Act.put, sA, sB, sC])
 refine wpList_q (by rfl) (.func (.func 61) #[] #[.pointer (some ⟨w.heap.size, 0, none⟩)]) ?he ?_
 case he => (first | rfl | (go_simp; (try rfl)))
 (try simp only [Act.put, sA, sB, sC])
 refine wpList_wp (by rfl) (fun K hK => ?_)
 (try go_simp)
 refine (changeL q G A n c1 v2 i _ _ HQ1.out HI.out).mono ?_
 rintro e w' ⟨rfl, rfl⟩
 (try go_wp2_with fail)
 refine hK.out _ _ ?_
 clear hK K
 (try simp only [Act.put, sA, sB, sC])
 refine tkL (.int .i64 1) (h := ?_)
 (try simp only [Act.put, sA, sB, sC])
 refine wpList_nil ?_
 (try go_wp2_with fail)
 go_ret
 exact ⟨rfl, HS1.out⟩
set_option maxHeartbeats 4000000 in
theorem curtainH (q : Nat) (G : GrV) (A : Option Addr) (n c1 : Nat) (v2 : Value) (i : Int) (v : Bool) (w : World) (hq : Blk w q 67 (grpA G (.slice A n c1) v2)) (hi : 0 ≤ i) (hj : (n : Int) ≤ i) : Calls Try.prog 38 #[.pointer (some ⟨q, 0, none⟩), .int .i64 i, .bool v] w fun e w' => e = .returned (.int .i64 1) ∧ Since w w' := by
 have HQ := Lib.hid hq
 clear hq
 have HI := Lib.hid hi
 clear hi
 have HJ := Lib.hid hj
 clear hj
 go_enter Try.func38, Try.ntmps38
 go_upto_region 1 with fail
 obtain ⟨w1, hw1⟩ : ∃ w1, w1 = (w.alloc (.cells #[.bool v] 4)) := ⟨_, rfl⟩
 rw [← hw1]
 have HBV1 := Lib.hid (show Blk w1 (w.heap.size) 4 #[.bool v] by rw [hw1]; exact Blk.at_ (by (try simp only [size_alloc])) _ _)
 have HS1 := Lib.hid (show Since w w1 by rw [hw1]; exact Since.alloc (Since.refl w) _)
 have hNE : w.heap.size ≤ w.heap.size := by omega
 have HNE := Lib.hid hNE
 clear hNE hw1
 have HNE3 := Lib.hid (show w.heap.size ≤ w.heap.size from HNE.out)
 clear HNE
 have HQ1 := Lib.hid (keep_blk HS1.out HQ.out)
 refine wp_region_lit ?_
 refine tkL (.pointer (some ⟨q, 0, none⟩)) (h := ?_)
 (try simp only [Act.put, sA, sB, sC])
 refine tkL (.int .i64 i) (h := ?_)
 (try simp only [Act.put, sA, sB, sC])
 refine wpList_q (by rfl) (.func (.func 61) #[] #[.pointer (some ⟨w.heap.size, 0, none⟩)]) ?he ?_
 case he => (first | rfl | (go_simp; (try rfl)))
 (try simp only [Act.put, sA, sB, sC])
 refine wpList_wp (by rfl) (fun K hK => ?_)
 (try go_simp)
 refine (changeH q G A n c1 v2 i _ _ HQ1.out HI.out HJ.out).mono ?_
 rintro e w' ⟨rfl, rfl⟩
 (try go_wp2_with fail)
 refine hK.out _ _ ?_
 clear hK K
 (try simp only [Act.put, sA, sB, sC])
 refine tkL (.int .i64 1) (h := ?_)
 (try simp only [Act.put, sA, sB, sC])
 refine wpList_nil ?_
 (try go_wp2_with fail)
 go_ret
 exact ⟨rfl, HS1.out⟩
set_option maxHeartbeats 4000000 in
theorem pressF (q : Nat) (G : GrV) (v1 : Value) (v2 : Value) (i : Int) (v : Int) (w : World) (hq : Blk w q 67 (grpA G v1 v2)) (hf : hasF G.c v = false) : Calls Try.prog 36 #[.pointer (some ⟨q, 0, none⟩), .int .i64 i, .int .i64 v] w fun e w' => e = .returned (.int .i64 1) ∧ Since w w' := by
 have HQ := Lib.hid hq
 clear hq
 have HF := Lib.hid hf
 clear hf
 go_enter Try.func36, Try.ntmps36
 go_upto_region 1 with fail
 obtain ⟨w1, hw1⟩ : ∃ w1, w1 = (w.alloc (.cells #[.int .i64 v] 3)) := ⟨_, rfl⟩
 rw [← hw1]
 have HBV1 := Lib.hid (show Blk w1 (w.heap.size) 3 #[.int .i64 v] by rw [hw1]; exact Blk.at_ (by (try simp only [size_alloc])) _ _)
 have HS1 := Lib.hid (show Since w w1 by rw [hw1]; exact Since.alloc (Since.refl w) _)
 have hNE : w.heap.size ≤ w.heap.size := by omega
 have HNE := Lib.hid hNE
 clear hNE hw1
 have HNE3 := Lib.hid (show w.heap.size ≤ w.heap.size from HNE.out)
 clear HNE
 have HQ1 := Lib.hid (keep_blk HS1.out HQ.out)
 refine wp_region_lit ?_
 refine tkL (.pointer (some ⟨q, 0, none⟩)) (h := ?_)
 (try simp only [Act.put, sA, sB, sC])
 refine wpList_q (by rfl) (.int .i64 v) ?he ?_
 case he => exact exec_cell 3 _ _ HBV1.out rfl rfl rfl Try.underlying3 rfl
 (try simp only [Act.put, sA, sB, sC])
 refine wpList_wp (by rfl) (fun K hK => ?_)
 (try go_simp)
 refine (hasFT q G _ v2 v false _ HQ1.out HF.out).mono ?_
 rintro e w' ⟨rfl, rfl⟩
 (try go_wp2_with fail)
 refine hK.out _ _ ?_
 clear hK K
 (try simp only [Act.put, sA, sB, sC])
 refine wpList_q (by rfl) (.bool true) ?he ?_
 case he => (go_simp; (try with_reducible rfl))
 (try simp only [Act.put, sA, sB, sC])
 refine wpList_nil ?_
 go_upto_region 2 with fail
 refine wp_region_lit ?_
 refine tkL (.int .i64 1) (h := ?_)
 (try simp only [Act.put, sA, sB, sC])
 refine wpList_nil ?_
 (try go_wp2_with fail)
 go_ret
 exact ⟨rfl, HS1.out⟩
set_option maxHeartbeats 4000000 in
theorem pressL (q : Nat) (G : GrV) (A : Option Addr) (n c1 : Nat) (v2 : Value) (i : Int) (v : Int) (w : World) (hq : Blk w q 67 (grpA G (.slice A n c1) v2)) (hf : hasF G.c v = true) (hi : i < 0) : Calls Try.prog 36 #[.pointer (some ⟨q, 0, none⟩), .int .i64 i, .int .i64 v] w fun e w' => e = .returned (.int .i64 1) ∧ Since w w' := by
 have HQ := Lib.hid hq
 clear hq
 have HF := Lib.hid hf
 clear hf
 have HI := Lib.hid hi
 clear hi
 go_enter Try.func36, Try.ntmps36
 go_upto_region 1 with fail
 obtain ⟨w1, hw1⟩ : ∃ w1, w1 = (w.alloc (.cells #[.int .i64 v] 3)) := ⟨_, rfl⟩
 rw [← hw1]
 have HBV1 := Lib.hid (show Blk w1 (w.heap.size) 3 #[.int .i64 v] by rw [hw1]; exact Blk.at_ (by (try simp only [size_alloc])) _ _)
 have HS1 := Lib.hid (show Since w w1 by rw [hw1]; exact Since.alloc (Since.refl w) _)
 have hNE : w.heap.size ≤ w.heap.size := by omega
 have HNE := Lib.hid hNE
 clear hNE hw1
 have HNE3 := Lib.hid (show w.heap.size ≤ w.heap.size from HNE.out)
 clear HNE
 have HQ1 := Lib.hid (keep_blk HS1.out HQ.out)
 refine wp_region_lit ?_
 refine tkL (.pointer (some ⟨q, 0, none⟩)) (h := ?_)
 (try simp only [Act.put, sA, sB, sC])
 refine wpList_q (by rfl) (.int .i64 v) ?he ?_
 case he => exact exec_cell 3 _ _ HBV1.out rfl rfl rfl Try.underlying3 rfl
 (try simp only [Act.put, sA, sB, sC])
 refine wpList_wp (by rfl) (fun K hK => ?_)
 (try go_simp)
 refine (hasFT q G _ v2 v true _ HQ1.out HF.out).mono ?_
 rintro e w' ⟨rfl, rfl⟩
 (try go_wp2_with fail)
 refine hK.out _ _ ?_
 clear hK K
 (try simp only [Act.put, sA, sB, sC])
 refine wpList_q (by rfl) (.bool false) ?he ?_
 case he => (go_simp; (try with_reducible rfl))
 (try simp only [Act.put, sA, sB, sC])
 refine wpList_nil ?_
 go_upto_region 3 with fail
 refine wp_region_lit ?_
 refine tkL (.pointer (some ⟨q, 0, none⟩)) (h := ?_)
 (try simp only [Act.put, sA, sB, sC])
 refine tkL (.int .i64 i) (h := ?_)
 (try simp only [Act.put, sA, sB, sC])
 refine wpList_q (by rfl) (.func (.func 58) #[] #[.pointer (some ⟨w.heap.size, 0, none⟩)]) ?he ?_
 case he => (first | rfl | (go_simp; (try rfl)))
 (try simp only [Act.put, sA, sB, sC])
 refine wpList_wp (by rfl) (fun K hK => ?_)
 (try go_simp)
 refine (changeL q G A n c1 v2 i _ _ HQ1.out HI.out).mono ?_
 rintro e w' ⟨rfl, rfl⟩
 (try go_wp2_with fail)
 refine hK.out _ _ ?_
 clear hK K
 (try simp only [Act.put, sA, sB, sC])
 refine tkL (.int .i64 1) (h := ?_)
 (try simp only [Act.put, sA, sB, sC])
 refine wpList_nil ?_
 (try go_wp2_with fail)
 go_ret
 exact ⟨rfl, HS1.out⟩
set_option maxHeartbeats 4000000 in
theorem pressH (q : Nat) (G : GrV) (A : Option Addr) (n c1 : Nat) (v2 : Value) (i : Int) (v : Int) (w : World) (hq : Blk w q 67 (grpA G (.slice A n c1) v2)) (hf : hasF G.c v = true) (hi : 0 ≤ i) (hj : (n : Int) ≤ i) : Calls Try.prog 36 #[.pointer (some ⟨q, 0, none⟩), .int .i64 i, .int .i64 v] w fun e w' => e = .returned (.int .i64 1) ∧ Since w w' := by
 have HQ := Lib.hid hq
 clear hq
 have HF := Lib.hid hf
 clear hf
 have HI := Lib.hid hi
 clear hi
 have HJ := Lib.hid hj
 clear hj
 go_enter Try.func36, Try.ntmps36
 go_upto_region 1 with fail
 obtain ⟨w1, hw1⟩ : ∃ w1, w1 = (w.alloc (.cells #[.int .i64 v] 3)) := ⟨_, rfl⟩
 rw [← hw1]
 have HBV1 := Lib.hid (show Blk w1 (w.heap.size) 3 #[.int .i64 v] by rw [hw1]; exact Blk.at_ (by (try simp only [size_alloc])) _ _)
 have HS1 := Lib.hid (show Since w w1 by rw [hw1]; exact Since.alloc (Since.refl w) _)
 have hNE : w.heap.size ≤ w.heap.size := by omega
 have HNE := Lib.hid hNE
 clear hNE hw1
 have HNE3 := Lib.hid (show w.heap.size ≤ w.heap.size from HNE.out)
 clear HNE
 have HQ1 := Lib.hid (keep_blk HS1.out HQ.out)
 refine wp_region_lit ?_
 refine tkL (.pointer (some ⟨q, 0, none⟩)) (h := ?_)
 (try simp only [Act.put, sA, sB, sC])
 refine wpList_q (by rfl) (.int .i64 v) ?he ?_
 case he => exact exec_cell 3 _ _ HBV1.out rfl rfl rfl Try.underlying3 rfl
 (try simp only [Act.put, sA, sB, sC])
 refine wpList_wp (by rfl) (fun K hK => ?_)
 (try go_simp)
 refine (hasFT q G _ v2 v true _ HQ1.out HF.out).mono ?_
 rintro e w' ⟨rfl, rfl⟩
 (try go_wp2_with fail)
 refine hK.out _ _ ?_
 clear hK K
 (try simp only [Act.put, sA, sB, sC])
 refine wpList_q (by rfl) (.bool false) ?he ?_
 case he => (go_simp; (try with_reducible rfl))
 (try simp only [Act.put, sA, sB, sC])
 refine wpList_nil ?_
 go_upto_region 3 with fail
 refine wp_region_lit ?_
 refine tkL (.pointer (some ⟨q, 0, none⟩)) (h := ?_)
 (try simp only [Act.put, sA, sB, sC])
 refine tkL (.int .i64 i) (h := ?_)
 (try simp only [Act.put, sA, sB, sC])
 refine wpList_q (by rfl) (.func (.func 58) #[] #[.pointer (some ⟨w.heap.size, 0, none⟩)]) ?he ?_
 case he => (first | rfl | (go_simp; (try rfl)))
 (try simp only [Act.put, sA, sB, sC])
 refine wpList_wp (by rfl) (fun K hK => ?_)
 (try go_simp)
 refine (changeH q G A n c1 v2 i _ _ HQ1.out HI.out HJ.out).mono ?_
 rintro e w' ⟨rfl, rfl⟩
 (try go_wp2_with fail)
 refine hK.out _ _ ?_
 clear hK K
 (try simp only [Act.put, sA, sB, sC])
 refine tkL (.int .i64 1) (h := ?_)
 (try simp only [Act.put, sA, sB, sC])
 refine wpList_nil ?_
 (try go_wp2_with fail)
 go_ret
 exact ⟨rfl, HS1.out⟩
set_option maxHeartbeats 4000000 in
theorem takeF (q : Nat) (G : GrV) (v1 : Value) (v2 : Value) (i : Int) (v : Int) (w : World) (hq : Blk w q 67 (grpA G v1 v2)) (hf : hasF G.c v = false) : Calls Try.prog 40 #[.pointer (some ⟨q, 0, none⟩), .int .i64 i, .int .i64 v] w fun e w' => e = .returned (.int .i64 1) ∧ Since w w' := by
 have HQ := Lib.hid hq
 clear hq
 have HF := Lib.hid hf
 clear hf
 go_enter Try.func40, Try.ntmps40
 go_upto_region 1 with fail
 obtain ⟨w1, hw1⟩ : ∃ w1, w1 = (w.alloc (.cells #[.int .i64 v] 3)) := ⟨_, rfl⟩
 rw [← hw1]
 have HBV1 := Lib.hid (show Blk w1 (w.heap.size) 3 #[.int .i64 v] by rw [hw1]; exact Blk.at_ (by (try simp only [size_alloc])) _ _)
 have HS1 := Lib.hid (show Since w w1 by rw [hw1]; exact Since.alloc (Since.refl w) _)
 have hNE : w.heap.size ≤ w.heap.size := by omega
 have HNE := Lib.hid hNE
 clear hNE hw1
 have HNE3 := Lib.hid (show w.heap.size ≤ w.heap.size from HNE.out)
 clear HNE
 have HQ1 := Lib.hid (keep_blk HS1.out HQ.out)
 refine wp_region_lit ?_
 refine tkL (.pointer (some ⟨q, 0, none⟩)) (h := ?_)
 (try simp only [Act.put, sA, sB, sC])
 refine wpList_q (by rfl) (.int .i64 v) ?he ?_
 case he => exact exec_cell 3 _ _ HBV1.out rfl rfl rfl Try.underlying3 rfl
 (try simp only [Act.put, sA, sB, sC])
 refine wpList_wp (by rfl) (fun K hK => ?_)
 (try go_simp)
 refine (hasFT q G _ v2 v false _ HQ1.out HF.out).mono ?_
 rintro e w' ⟨rfl, rfl⟩
 (try go_wp2_with fail)
 refine hK.out _ _ ?_
 clear hK K
 (try simp only [Act.put, sA, sB, sC])
 refine wpList_q (by rfl) (.bool true) ?he ?_
 case he => (go_simp; (try with_reducible rfl))
 (try simp only [Act.put, sA, sB, sC])
 refine wpList_nil ?_
 go_upto_region 2 with fail
 refine wp_region_lit ?_
 refine tkL (.int .i64 1) (h := ?_)
 (try simp only [Act.put, sA, sB, sC])
 refine wpList_nil ?_
 (try go_wp2_with fail)
 go_ret
 exact ⟨rfl, HS1.out⟩
set_option maxHeartbeats 4000000 in
theorem takeL (q : Nat) (G : GrV) (A : Option Addr) (n c1 : Nat) (v2 : Value) (i : Int) (v : Int) (w : World) (hq : Blk w q 67 (grpA G (.slice A n c1) v2)) (hf : hasF G.c v = true) (hi : i < 0) : Calls Try.prog 40 #[.pointer (some ⟨q, 0, none⟩), .int .i64 i, .int .i64 v] w fun e w' => e = .returned (.int .i64 1) ∧ Since w w' := by
 have HQ := Lib.hid hq
 clear hq
 have HF := Lib.hid hf
 clear hf
 have HI := Lib.hid hi
 clear hi
 go_enter Try.func40, Try.ntmps40
 go_upto_region 1 with fail
 obtain ⟨w1, hw1⟩ : ∃ w1, w1 = (w.alloc (.cells #[.int .i64 v] 3)) := ⟨_, rfl⟩
 rw [← hw1]
 have HBV1 := Lib.hid (show Blk w1 (w.heap.size) 3 #[.int .i64 v] by rw [hw1]; exact Blk.at_ (by (try simp only [size_alloc])) _ _)
 have HS1 := Lib.hid (show Since w w1 by rw [hw1]; exact Since.alloc (Since.refl w) _)
 have hNE : w.heap.size ≤ w.heap.size := by omega
 have HNE := Lib.hid hNE
 clear hNE hw1
 have HNE3 := Lib.hid (show w.heap.size ≤ w.heap.size from HNE.out)
 clear HNE
 have HQ1 := Lib.hid (keep_blk HS1.out HQ.out)
 refine wp_region_lit ?_
 refine tkL (.pointer (some ⟨q, 0, none⟩)) (h := ?_)
 (try simp only [Act.put, sA, sB, sC])
 refine wpList_q (by rfl) (.int .i64 v) ?he ?_
 case he => exact exec_cell 3 _ _ HBV1.out rfl rfl rfl Try.underlying3 rfl
 (try simp only [Act.put, sA, sB, sC])
 refine wpList_wp (by rfl) (fun K hK => ?_)
 (try go_simp)
 refine (hasFT q G _ v2 v true _ HQ1.out HF.out).mono ?_
 rintro e w' ⟨rfl, rfl⟩
 (try go_wp2_with fail)
 refine hK.out _ _ ?_
 clear hK K
 (try simp only [Act.put, sA, sB, sC])
 refine wpList_q (by rfl) (.bool false) ?he ?_
 case he => (go_simp; (try with_reducible rfl))
 (try simp only [Act.put, sA, sB, sC])
 refine wpList_nil ?_
 go_upto_region 3 with fail
 refine wp_region_lit ?_
 refine tkL (.pointer (some ⟨q, 0, none⟩)) (h := ?_)
 (try simp only [Act.put, sA, sB, sC])
 refine tkL (.int .i64 i) (h := ?_)
 (try simp only [Act.put, sA, sB, sC])
 refine wpList_q (by rfl) (.func (.func 64) #[] #[.pointer (some ⟨w.heap.size, 0, none⟩)]) ?he ?_
 case he => (first | rfl | (go_simp; (try rfl)))
 (try simp only [Act.put, sA, sB, sC])
 refine wpList_wp (by rfl) (fun K hK => ?_)
 (try go_simp)
 refine (changeL q G A n c1 v2 i _ _ HQ1.out HI.out).mono ?_
 rintro e w' ⟨rfl, rfl⟩
 (try go_wp2_with fail)
 refine hK.out _ _ ?_
 clear hK K
 (try simp only [Act.put, sA, sB, sC])
 refine tkL (.int .i64 1) (h := ?_)
 (try simp only [Act.put, sA, sB, sC])
 refine wpList_nil ?_
 (try go_wp2_with fail)
 go_ret
 exact ⟨rfl, HS1.out⟩
set_option maxHeartbeats 4000000 in
theorem takeH (q : Nat) (G : GrV) (A : Option Addr) (n c1 : Nat) (v2 : Value) (i : Int) (v : Int) (w : World) (hq : Blk w q 67 (grpA G (.slice A n c1) v2)) (hf : hasF G.c v = true) (hi : 0 ≤ i) (hj : (n : Int) ≤ i) : Calls Try.prog 40 #[.pointer (some ⟨q, 0, none⟩), .int .i64 i, .int .i64 v] w fun e w' => e = .returned (.int .i64 1) ∧ Since w w' := by
 have HQ := Lib.hid hq
 clear hq
 have HF := Lib.hid hf
 clear hf
 have HI := Lib.hid hi
 clear hi
 have HJ := Lib.hid hj
 clear hj
 go_enter Try.func40, Try.ntmps40
 go_upto_region 1 with fail
 obtain ⟨w1, hw1⟩ : ∃ w1, w1 = (w.alloc (.cells #[.int .i64 v] 3)) := ⟨_, rfl⟩
 rw [← hw1]
 have HBV1 := Lib.hid (show Blk w1 (w.heap.size) 3 #[.int .i64 v] by rw [hw1]; exact Blk.at_ (by (try simp only [size_alloc])) _ _)
 have HS1 := Lib.hid (show Since w w1 by rw [hw1]; exact Since.alloc (Since.refl w) _)
 have hNE : w.heap.size ≤ w.heap.size := by omega
 have HNE := Lib.hid hNE
 clear hNE hw1
 have HNE3 := Lib.hid (show w.heap.size ≤ w.heap.size from HNE.out)
 clear HNE
 have HQ1 := Lib.hid (keep_blk HS1.out HQ.out)
 refine wp_region_lit ?_
 refine tkL (.pointer (some ⟨q, 0, none⟩)) (h := ?_)
 (try simp only [Act.put, sA, sB, sC])
 refine wpList_q (by rfl) (.int .i64 v) ?he ?_
 case he => exact exec_cell 3 _ _ HBV1.out rfl rfl rfl Try.underlying3 rfl
 (try simp only [Act.put, sA, sB, sC])
 refine wpList_wp (by rfl) (fun K hK => ?_)
 (try go_simp)
 refine (hasFT q G _ v2 v true _ HQ1.out HF.out).mono ?_
 rintro e w' ⟨rfl, rfl⟩
 (try go_wp2_with fail)
 refine hK.out _ _ ?_
 clear hK K
 (try simp only [Act.put, sA, sB, sC])
 refine wpList_q (by rfl) (.bool false) ?he ?_
 case he => (go_simp; (try with_reducible rfl))
 (try simp only [Act.put, sA, sB, sC])
 refine wpList_nil ?_
 go_upto_region 3 with fail
 refine wp_region_lit ?_
 refine tkL (.pointer (some ⟨q, 0, none⟩)) (h := ?_)
 (try simp only [Act.put, sA, sB, sC])
 refine tkL (.int .i64 i) (h := ?_)
 (try simp only [Act.put, sA, sB, sC])
 refine wpList_q (by rfl) (.func (.func 64) #[] #[.pointer (some ⟨w.heap.size, 0, none⟩)]) ?he ?_
 case he => (first | rfl | (go_simp; (try rfl)))
 (try simp only [Act.put, sA, sB, sC])
 refine wpList_wp (by rfl) (fun K hK => ?_)
 (try go_simp)
 refine (changeH q G A n c1 v2 i _ _ HQ1.out HI.out HJ.out).mono ?_
 rintro e w' ⟨rfl, rfl⟩
 (try go_wp2_with fail)
 refine hK.out _ _ ?_
 clear hK K
 (try simp only [Act.put, sA, sB, sC])
 refine tkL (.int .i64 1) (h := ?_)
 (try simp only [Act.put, sA, sB, sC])
 refine wpList_nil ?_
 (try go_wp2_with fail)
 go_ret
 exact ⟨rfl, HS1.out⟩
set_option maxHeartbeats 4000000 in
theorem aimF (q : Nat) (G : GrV) (v1 : Value) (v2 : Value) (i : Int) (v : Int) (u : Bool) (w : World) (hq : Blk w q 67 (grpA G v1 v2)) (hf : hasF G.c v = false) : Calls Try.prog 41 #[.pointer (some ⟨q, 0, none⟩), .int .i64 i, .int .i64 v, .bool u] w fun e w' => e = .returned (.int .i64 1) ∧ Since w w' := by
 have HQ := Lib.hid hq
 clear hq
 have HF := Lib.hid hf
 clear hf
 go_enter Try.func41, Try.ntmps41
 go_upto_region 1 with fail
 obtain ⟨w1, hw1⟩ : ∃ w1, w1 = ((w.alloc (.cells #[.int .i64 v] 3)).alloc (.cells #[.bool u] 4)) := ⟨_, rfl⟩
 rw [← hw1]
 have HBV1 := Lib.hid (show Blk w1 (w.heap.size) 3 #[.int .i64 v] by rw [hw1]; exact Blk.alloc (Blk.at_ (by (try simp only [size_alloc])) _ _) _)
 have HBU1 := Lib.hid (show Blk w1 (w.heap.size + 1) 4 #[.bool u] by rw [hw1]; exact Blk.at_ (by (try simp only [size_alloc])) _ _)
 have HS1 := Lib.hid (show Since w w1 by rw [hw1]; exact Since.alloc (Since.alloc (Since.refl w) _) _)
 have hNE : w.heap.size ≤ w.heap.size ∧ w.heap.size < w.heap.size + 1 := by omega
 have HNE := Lib.hid hNE
 clear hNE hw1
 generalize w.heap.size + 1 = bU at *
 have HNE3 := Lib.hid (show w.heap.size ≤ w.heap.size ∧ w.heap.size < bU from HNE.out)
 clear HNE
 have HQ1 := Lib.hid (keep_blk HS1.out HQ.out)
 refine wp_region_lit ?_
 refine tkL (.pointer (some ⟨q, 0, none⟩)) (h := ?_)
 (try simp only [Act.put, sA, sB, sC])
 refine wpList_q (by rfl) (.int .i64 v) ?he ?_
 case he => exact exec_cell 3 _ _ HBV1.out rfl rfl rfl Try.underlying3 rfl
 (try simp only [Act.put, sA, sB, sC])
 refine wpList_wp (by rfl) (fun K hK => ?_)
 (try go_simp)
 refine (hasFT q G _ v2 v false _ HQ1.out HF.out).mono ?_
 rintro e w' ⟨rfl, rfl⟩
 (try go_wp2_with fail)
 refine hK.out _ _ ?_
 clear hK K
 (try simp only [Act.put, sA, sB, sC])
 refine wpList_q (by rfl) (.bool true) ?he ?_
 case he => (go_simp; (try with_reducible rfl))
 (try simp only [Act.put, sA, sB, sC])
 refine wpList_nil ?_
 go_upto_region 2 with fail
 refine wp_region_lit ?_
 refine tkL (.int .i64 1) (h := ?_)
 (try simp only [Act.put, sA, sB, sC])
 refine wpList_nil ?_
 (try go_wp2_with fail)
 go_ret
 exact ⟨rfl, HS1.out⟩
set_option maxHeartbeats 4000000 in
theorem aimL (q : Nat) (G : GrV) (A : Option Addr) (n c1 : Nat) (v2 : Value) (i : Int) (v : Int) (u : Bool) (w : World) (hq : Blk w q 67 (grpA G (.slice A n c1) v2)) (hf : hasF G.c v = true) (hi : i < 0) : Calls Try.prog 41 #[.pointer (some ⟨q, 0, none⟩), .int .i64 i, .int .i64 v, .bool u] w fun e w' => e = .returned (.int .i64 1) ∧ Since w w' := by
 have HQ := Lib.hid hq
 clear hq
 have HF := Lib.hid hf
 clear hf
 have HI := Lib.hid hi
 clear hi
 go_enter Try.func41, Try.ntmps41
 go_upto_region 1 with fail
 obtain ⟨w1, hw1⟩ : ∃ w1, w1 = ((w.alloc (.cells #[.int .i64 v] 3)).alloc (.cells #[.bool u] 4)) := ⟨_, rfl⟩
 rw [← hw1]
 have HBV1 := Lib.hid (show Blk w1 (w.heap.size) 3 #[.int .i64 v] by rw [hw1]; exact Blk.alloc (Blk.at_ (by (try simp only [size_alloc])) _ _) _)
 have HBU1 := Lib.hid (show Blk w1 (w.heap.size + 1) 4 #[.bool u] by rw [hw1]; exact Blk.at_ (by (try simp only [size_alloc])) _ _)
 have HS1 := Lib.hid (show Since w w1 by rw [hw1]; exact Since.alloc (Since.alloc (Since.refl w) _) _)
 have hNE : w.heap.size ≤ w.heap.size ∧ w.heap.size < w.heap.size + 1 := by omega
 have HNE := Lib.hid hNE
 clear hNE hw1
 generalize w.heap.size + 1 = bU at *
 have HNE3 := Lib.hid (show w.heap.size ≤ w.heap.size ∧ w.heap.size < bU from HNE.out)
 clear HNE
 have HQ1 := Lib.hid (keep_blk HS1.out HQ.out)
 refine wp_region_lit ?_
 refine tkL (.pointer (some ⟨q, 0, none⟩)) (h := ?_)
 (try simp only [Act.put, sA, sB, sC])
 refine wpList_q (by rfl) (.int .i64 v) ?he ?_
 case he => exact exec_cell 3 _ _ HBV1.out rfl rfl rfl Try.underlying3 rfl
 (try simp only [Act.put, sA, sB, sC])
 refine wpList_wp (by rfl) (fun K hK => ?_)
 (try go_simp)
 refine (hasFT q G _ v2 v true _ HQ1.out HF.out).mono ?_
 rintro e w' ⟨rfl, rfl⟩
 (try go_wp2_with fail)
 refine hK.out _ _ ?_
 clear hK K
 (try simp only [Act.put, sA, sB, sC])
 refine wpList_q (by rfl) (.bool false) ?he ?_
 case he => (go_simp; (try with_reducible rfl))
 (try simp only [Act.put, sA, sB, sC])
 refine wpList_nil ?_
 go_upto_region 3 with fail
 refine wp_region_lit ?_
 refine tkL (.pointer (some ⟨q, 0, none⟩)) (h := ?_)
 (try simp only [Act.put, sA, sB, sC])
 refine tkL (.int .i64 i) (h := ?_)
 (try simp only [Act.put, sA, sB, sC])
 refine wpList_q (by rfl) (.func (.func 66) #[] #[.pointer (some ⟨w.heap.size, 0, none⟩), .pointer (some ⟨bU, 0, none⟩)]) ?he ?_
 case he => (first | rfl | (go_simp; (try rfl)))
 (try simp only [Act.put, sA, sB, sC])
 refine wpList_wp (by rfl) (fun K hK => ?_)
 (try go_simp)
 refine (changeL q G A n c1 v2 i _ _ HQ1.out HI.out).mono ?_
 rintro e w' ⟨rfl, rfl⟩
 (try go_wp2_with fail)
 refine hK.out _ _ ?_
 clear hK K
 (try simp only [Act.put, sA, sB, sC])
 refine tkL (.int .i64 1) (h := ?_)
 (try simp only [Act.put, sA, sB, sC])
 refine wpList_nil ?_
 (try go_wp2_with fail)
 go_ret
 exact ⟨rfl, HS1.out⟩
set_option maxHeartbeats 4000000 in
theorem aimH (q : Nat) (G : GrV) (A : Option Addr) (n c1 : Nat) (v2 : Value) (i : Int) (v : Int) (u : Bool) (w : World) (hq : Blk w q 67 (grpA G (.slice A n c1) v2)) (hf : hasF G.c v = true) (hi : 0 ≤ i) (hj : (n : Int) ≤ i) : Calls Try.prog 41 #[.pointer (some ⟨q, 0, none⟩), .int .i64 i, .int .i64 v, .bool u] w fun e w' => e = .returned (.int .i64 1) ∧ Since w w' := by
 have HQ := Lib.hid hq
 clear hq
 have HF := Lib.hid hf
 clear hf
 have HI := Lib.hid hi
 clear hi
 have HJ := Lib.hid hj
 clear hj
 go_enter Try.func41, Try.ntmps41
 go_upto_region 1 with fail
 obtain ⟨w1, hw1⟩ : ∃ w1, w1 = ((w.alloc (.cells #[.int .i64 v] 3)).alloc (.cells #[.bool u] 4)) := ⟨_, rfl⟩
 rw [← hw1]
 have HBV1 := Lib.hid (show Blk w1 (w.heap.size) 3 #[.int .i64 v] by rw [hw1]; exact Blk.alloc (Blk.at_ (by (try simp only [size_alloc])) _ _) _)
 have HBU1 := Lib.hid (show Blk w1 (w.heap.size + 1) 4 #[.bool u] by rw [hw1]; exact Blk.at_ (by (try simp only [size_alloc])) _ _)
 have HS1 := Lib.hid (show Since w w1 by rw [hw1]; exact Since.alloc (Since.alloc (Since.refl w) _) _)
 have hNE : w.heap.size ≤ w.heap.size ∧ w.heap.size < w.heap.size + 1 := by omega
 have HNE := Lib.hid hNE
 clear hNE hw1
 generalize w.heap.size + 1 = bU at *
 have HNE3 := Lib.hid (show w.heap.size ≤ w.heap.size ∧ w.heap.size < bU from HNE.out)
 clear HNE
 have HQ1 := Lib.hid (keep_blk HS1.out HQ.out)
 refine wp_region_lit ?_
 refine tkL (.pointer (some ⟨q, 0, none⟩)) (h := ?_)
 (try simp only [Act.put, sA, sB, sC])
 refine wpList_q (by rfl) (.int .i64 v) ?he ?_
 case he => exact exec_cell 3 _ _ HBV1.out rfl rfl rfl Try.underlying3 rfl
 (try simp only [Act.put, sA, sB, sC])
 refine wpList_wp (by rfl) (fun K hK => ?_)
 (try go_simp)
 refine (hasFT q G _ v2 v true _ HQ1.out HF.out).mono ?_
 rintro e w' ⟨rfl, rfl⟩
 (try go_wp2_with fail)
 refine hK.out _ _ ?_
 clear hK K
 (try simp only [Act.put, sA, sB, sC])
 refine wpList_q (by rfl) (.bool false) ?he ?_
 case he => (go_simp; (try with_reducible rfl))
 (try simp only [Act.put, sA, sB, sC])
 refine wpList_nil ?_
 go_upto_region 3 with fail
 refine wp_region_lit ?_
 refine tkL (.pointer (some ⟨q, 0, none⟩)) (h := ?_)
 (try simp only [Act.put, sA, sB, sC])
 refine tkL (.int .i64 i) (h := ?_)
 (try simp only [Act.put, sA, sB, sC])
 refine wpList_q (by rfl) (.func (.func 66) #[] #[.pointer (some ⟨w.heap.size, 0, none⟩), .pointer (some ⟨bU, 0, none⟩)]) ?he ?_
 case he => (first | rfl | (go_simp; (try rfl)))
 (try simp only [Act.put, sA, sB, sC])
 refine wpList_wp (by rfl) (fun K hK => ?_)
 (try go_simp)
 refine (changeH q G A n c1 v2 i _ _ HQ1.out HI.out HJ.out).mono ?_
 rintro e w' ⟨rfl, rfl⟩
 (try go_wp2_with fail)
 refine hK.out _ _ ?_
 clear hK K
 (try simp only [Act.put, sA, sB, sC])
 refine tkL (.int .i64 1) (h := ?_)
 (try simp only [Act.put, sA, sB, sC])
 refine wpList_nil ?_
 (try go_wp2_with fail)
 go_ret
 exact ⟨rfl, HS1.out⟩
set_option maxHeartbeats 4000000 in
theorem giveL (q : Nat) (G : GrV) (A : Option Addr) (n c1 : Nat) (v2 : Value) (i : Int) (w : World) (hq : Blk w q 67 (grpA G (.slice A n c1) v2)) (hi : i < 0) : Calls Try.prog 42 #[.pointer (some ⟨q, 0, none⟩), .int .i64 i] w fun e w' => e = .returned (.int .i64 1) ∧ Since w w' := by
 have HQ := Lib.hid hq
 clear hq
 have HI := Lib.hid hi
 clear hi
 go_enter Try.func42, Try.ntmps42
 go_upto_region 1 with fail
 obtain ⟨w1, hw1⟩ : ∃ w1, w1 = (w.alloc (.cells #[.pointer (some ⟨q, 0, none⟩)] 43)) := ⟨_, rfl⟩
 rw [← hw1]
 have HBP1 := Lib.hid (show Blk w1 (w.heap.size) 43 #[.pointer (some ⟨q, 0, none⟩)] by rw [hw1]; exact Blk.at_ (by (try simp only [size_alloc])) _ _)
 have HS1 := Lib.hid (show Since w w1 by rw [hw1]; exact Since.alloc (Since.refl w) _)
 have hNE : w.heap.size ≤ w.heap.size := by omega
 have HNE := Lib.hid hNE
 clear hNE hw1
 have HNE3 := Lib.hid (show w.heap.size ≤ w.heap.size from HNE.out)
 clear HNE
 have HQ1 := Lib.hid (keep_blk HS1.out HQ.out)
 refine wp_region_lit ?_
 refine wpList_q (by rfl) (.pointer (some ⟨q, 0, none⟩)) ?he ?_
 case he => exact exec_cell 43 _ _ HBP1.out rfl rfl rfl Try.underlying43 rfl
 (try simp only [Act.put, sA, sB, sC])
 refine tkL (.int .i64 i) (h := ?_)
 (try simp only [Act.put, sA, sB, sC])
 refine wpList_q (by rfl) (.func (.func 67) #[] #[.pointer (some ⟨w.heap.size, 0, none⟩)]) ?he ?_
 case he => (first | rfl | (go_simp; (try rfl)))
 (try simp only [Act.put, sA, sB, sC])
 refine wpList_wp (by rfl) (fun K hK => ?_)
 (try go_simp)
 refine (changeL q G A n c1 v2 i _ _ HQ1.out HI.out).mono ?_
 rintro e w' ⟨rfl, rfl⟩
 (try go_wp2_with fail)
 refine hK.out _ _ ?_
 clear hK K
 (try simp only [Act.put, sA, sB, sC])
 refine tkL (.int .i64 1) (h := ?_)
 (try simp only [Act.put, sA, sB, sC])
 refine wpList_nil ?_
 (try go_wp2_with fail)
 go_ret
 exact ⟨rfl, HS1.out⟩
set_option maxHeartbeats 4000000 in
theorem giveH (q : Nat) (G : GrV) (A : Option Addr) (n c1 : Nat) (v2 : Value) (i : Int) (w : World) (hq : Blk w q 67 (grpA G (.slice A n c1) v2)) (hi : 0 ≤ i) (hj : (n : Int) ≤ i) : Calls Try.prog 42 #[.pointer (some ⟨q, 0, none⟩), .int .i64 i] w fun e w' => e = .returned (.int .i64 1) ∧ Since w w' := by
 have HQ := Lib.hid hq
 clear hq
 have HI := Lib.hid hi
 clear hi
 have HJ := Lib.hid hj
 clear hj
 go_enter Try.func42, Try.ntmps42
 go_upto_region 1 with fail
 obtain ⟨w1, hw1⟩ : ∃ w1, w1 = (w.alloc (.cells #[.pointer (some ⟨q, 0, none⟩)] 43)) := ⟨_, rfl⟩
 rw [← hw1]
 have HBP1 := Lib.hid (show Blk w1 (w.heap.size) 43 #[.pointer (some ⟨q, 0, none⟩)] by rw [hw1]; exact Blk.at_ (by (try simp only [size_alloc])) _ _)
 have HS1 := Lib.hid (show Since w w1 by rw [hw1]; exact Since.alloc (Since.refl w) _)
 have hNE : w.heap.size ≤ w.heap.size := by omega
 have HNE := Lib.hid hNE
 clear hNE hw1
 have HNE3 := Lib.hid (show w.heap.size ≤ w.heap.size from HNE.out)
 clear HNE
 have HQ1 := Lib.hid (keep_blk HS1.out HQ.out)
 refine wp_region_lit ?_
 refine wpList_q (by rfl) (.pointer (some ⟨q, 0, none⟩)) ?he ?_
 case he => exact exec_cell 43 _ _ HBP1.out rfl rfl rfl Try.underlying43 rfl
 (try simp only [Act.put, sA, sB, sC])
 refine tkL (.int .i64 i) (h := ?_)
 (try simp only [Act.put, sA, sB, sC])
 refine wpList_q (by rfl) (.func (.func 67) #[] #[.pointer (some ⟨w.heap.size, 0, none⟩)]) ?he ?_
 case he => (first | rfl | (go_simp; (try rfl)))
 (try simp only [Act.put, sA, sB, sC])
 refine wpList_wp (by rfl) (fun K hK => ?_)
 (try go_simp)
 refine (changeH q G A n c1 v2 i _ _ HQ1.out HI.out HJ.out).mono ?_
 rintro e w' ⟨rfl, rfl⟩
 (try go_wp2_with fail)
 refine hK.out _ _ ?_
 clear hK K
 (try simp only [Act.put, sA, sB, sC])
 refine tkL (.int .i64 1) (h := ?_)
 (try simp only [Act.put, sA, sB, sC])
 refine wpList_nil ?_
 (try go_wp2_with fail)
 go_ret
 exact ⟨rfl, HS1.out⟩
set_option maxHeartbeats 4000000 in
theorem loadI (lo q : Nat) (G : GrV) (S : List Nat) (i : Nat) (v : Int) (w : World) (hg : GO lo q G S w) (hi : i < G.cars.length) : Calls Try.prog 37 #[.pointer (some ⟨q, 0, none⟩), .int .i64 (i : Int), .int .i64 v] w fun e w' => e = .returned (.int .i64 0) ∧ GO lo q (G.car i { (G.cars[i]'hi) with lo := v }) S w' ∧ Upd S w w' := by
 obtain ⟨g, c1, v2, P, S1, hq, hP, hE, hput⟩ := hg.open_car hi
 have HQ := Lib.hid hq; have HP := Lib.hid hP; have HE := Lib.hid hE; have HPUT := Lib.hid hput; have HLE := Lib.hid (Blk.lt hE)
 clear hq hP hE hput hg
 have HI := Lib.hid hi
 go_enter Try.func37, Try.ntmps37
 go_upto_region 1 with fail
 obtain ⟨w1, hw1⟩ : ∃ w1, w1 = (w.alloc (.cells #[.int .i64 v] 3)) := ⟨_, rfl⟩
 rw [← hw1]
 have HBV1 := Lib.hid (show Blk w1 (w.heap.size) 3 #[.int .i64 v] by rw [hw1]; exact Blk.at_ (by (try simp only [size_alloc])) _ _)
 have HS1 := Lib.hid (show Since w w1 by rw [hw1]; exact Since.alloc (Since.refl w) _)
 have hNE : w.heap.size ≤ w.heap.size := by omega
 have HNE := Lib.hid hNE
 clear hNE hw1
 have HNE3 := Lib.hid (show w.heap.size ≤ w.heap.size from HNE.out)
 clear HNE
 have HQ1 := Lib.hid (keep_blk HS1.out HQ.out); have HE1 := Lib.hid (keep_blk HS1.out HE.out)
 refine wp_region_lit ?_
 refine tkL (.pointer (some ⟨q, 0, none⟩)) (h := ?_)
 (try simp only [Act.put, sA, sB, sC])
 refine tkL (.int .i64 (i : Int)) (h := ?_)
 (try simp only [Act.put, sA, sB, sC])
 refine wpList_q (by rfl) (.func (.func 60) #[] #[.pointer (some ⟨w.heap.size, 0, none⟩)]) ?he ?_
 case he => (first | rfl | (go_simp; (try rfl)))
 (try simp only [Act.put, sA, sB, sC])
 refine wpList_wp (by rfl) (fun K hK => ?_)
 (try go_simp)
 refine (change1 q g G G.cars.length c1 v2 i 60 (.pointer (some ⟨w.heap.size, 0, none⟩)) 0 _ _ HQ1.out HI.out (fun args w1 => enterF Try.func60 (by kernel_rfl) rfl args w1) (load1T g (i * 15) P S1 (G.cars[i]'HI.out) (w.heap.size) v _ HE1.out HP.out HBV1.out)).mono ?_
 rintro e w9 ⟨rfl, hB, hU⟩
 (try go_wp2_with fail)
 refine hK.out _ _ ?_
 clear hK K
 (try simp only [Act.put, sA, sB, sC])
 refine tkL (.int .i64 0) (h := ?_)
 (try simp only [Act.put, sA, sB, sC])
 refine wpList_nil ?_
 (try go_wp2_with fail)
 go_ret
 exact ⟨rfl, HPUT.out _ w1 _ HS1.out hB hU⟩
set_option maxHeartbeats 4000000 in
theorem curtainI (lo q : Nat) (G : GrV) (S : List Nat) (i : Nat) (v : Bool) (w : World) (hg : GO lo q G S w) (hi : i < G.cars.length) : Calls Try.prog 38 #[.pointer (some ⟨q, 0, none⟩), .int .i64 (i : Int), .bool v] w fun e w' => e = .returned (.int .i64 0) ∧ GO lo q (G.car i { (G.cars[i]'hi) with bl := v }) S w' ∧ Upd S w w' := by
 obtain ⟨g, c1, v2, P, S1, hq, hP, hE, hput⟩ := hg.open_car hi
 have HQ := Lib.hid hq; have HP := Lib.hid hP; have HE := Lib.hid hE; have HPUT := Lib.hid hput; have HLE := Lib.hid (Blk.lt hE)
 clear hq hP hE hput hg
 have HI := Lib.hid hi
 go_enter Try.func38, Try.ntmps38
 go_upto_region 1 with fail
 obtain ⟨w1, hw1⟩ : ∃ w1, w1 = (w.alloc (.cells #[.bool v] 4)) := ⟨_, rfl⟩
 rw [← hw1]
 have HBV1 := Lib.hid (show Blk w1 (w.heap.size) 4 #[.bool v] by rw [hw1]; exact Blk.at_ (by (try simp only [size_alloc])) _ _)
 have HS1 := Lib.hid (show Since w w1 by rw [hw1]; exact Since.alloc (Since.refl w) _)
 have hNE : w.heap.size ≤ w.heap.size := by omega
 have HNE := Lib.hid hNE
 clear hNE hw1
 have HNE3 := Lib.hid (show w.heap.size ≤ w.heap.size from HNE.out)
 clear HNE
 have HQ1 := Lib.hid (keep_blk HS1.out HQ.out); have HE1 := Lib.hid (keep_blk HS1.out HE.out)
 refine wp_region_lit ?_
 refine tkL (.pointer (some ⟨q, 0, none⟩)) (h := ?_)
 (try simp only [Act.put, sA, sB, sC])
 refine tkL (.int .i64 (i : Int)) (h := ?_)
 (try simp only [Act.put, sA, sB, sC])
 refine wpList_q (by rfl) (.func (.func 61) #[] #[.pointer (some ⟨w.heap.size, 0, none⟩)]) ?he ?_
 case he => (first | rfl | (go_simp; (try rfl)))
 (try simp only [Act.put, sA, sB, sC])
 refine wpList_wp (by rfl) (fun K hK => ?_)
 (try go_simp)
 refine (change1 q g G G.cars.length c1 v2 i 61 (.pointer (some ⟨w.heap.size, 0, none⟩)) 0 _ _ HQ1.out HI.out (fun args w1 => enterF Try.func61 (by kernel_rfl) rfl args w1) (curt1T g (i * 15) P S1 (G.cars[i]'HI.out) (w.heap.size) v _ HE1.out HP.out HBV1.out)).mono ?_
 rintro e w9 ⟨rfl, hB, hU⟩
 (try go_wp2_with fail)
 refine hK.out _ _ ?_
 clear hK K
 (try simp only [Act.put, sA, sB, sC])
 refine tkL (.int .i64 0) (h := ?_)
 (try simp only [Act.put, sA, sB, sC])
 refine wpList_nil ?_
 (try go_wp2_with fail)
 go_ret
 exact ⟨rfl, HPUT.out _ w1 _ HS1.out hB hU⟩
set_option maxHeartbeats 4000000 in
theorem pressI (lo q : Nat) (G : GrV) (S : List Nat) (i : Nat) (v : Int) (w : World) (hg : GO lo q G S w) (hi : i < G.cars.length) (hf : hasF G.c v = true) : Calls Try.prog 36 #[.pointer (some ⟨q, 0, none⟩), .int .i64 (i : Int), .int .i64 v] w fun e w' => e = .returned (.int .i64 (pressE (G.cars[i]'hi))) ∧ GO lo q (G.car i (pressX v (G.cars[i]'hi))) S w' ∧ Upd S w w' := by
 obtain ⟨g, c1, v2, P, S1, hq, hP, hE, hput⟩ := hg.open_car hi
 have HQ := Lib.hid hq; have HP := Lib.hid hP; have HE := Lib.hid hE; have HPUT := Lib.hid hput; have HLE := Lib.hid (Blk.lt hE)
 clear hq hP hE hput hg
 have HI := Lib.hid hi
 have HF := Lib.hid hf
 clear hf
 go_enter Try.func36, Try.ntmps36
 go_upto_region 1 with fail
 obtain ⟨w1, hw1⟩ : ∃ w1, w1 = (w.alloc (.cells #[.int .i64 v] 3)) := ⟨_, rfl⟩
 rw [← hw1]
 have HBV1 := Lib.hid (show Blk w1 (w.heap.size) 3 #[.int .i64 v] by rw [hw1]; exact Blk.at_ (by (try simp only [size_alloc])) _ _)
 have HS1 := Lib.hid (show Since w w1 by rw [hw1]; exact Since.alloc (Since.refl w) _)
 have hNE : w.heap.size ≤ w.heap.size := by omega
 have HNE := Lib.hid hNE
 clear hNE hw1
 have HNE3 := Lib.hid (show w.heap.size ≤ w.heap.size from HNE.out)
 clear HNE
 have HQ1 := Lib.hid (keep_blk HS1.out HQ.out); have HE1 := Lib.hid (keep_blk HS1.out HE.out)
 refine wp_region_lit ?_
 refine tkL (.pointer (some ⟨q, 0, none⟩)) (h := ?_)
 (try simp only [Act.put, sA, sB, sC])
 refine wpList_q (by rfl) (.int .i64 v) ?he ?_
 case he => exact exec_cell 3 _ _ HBV1.out rfl rfl rfl Try.underlying3 rfl
 (try simp only [Act.put, sA, sB, sC])
 refine wpList_wp (by rfl) (fun K hK => ?_)
 (try go_simp)
 refine (hasFT q G _ v2 v true _ HQ1.out HF.out).mono ?_
 rintro e w' ⟨rfl, rfl⟩
 (try go_wp2_with fail)
 refine hK.out _ _ ?_
 clear hK K
 (try simp only [Act.put, sA, sB, sC])
 refine wpList_q (by rfl) (.bool false) ?he ?_
 case he => (go_simp; (try with_reducible rfl))
 (try simp only [Act.put, sA, sB, sC])
 refine wpList_nil ?_
 go_upto_region 3 with fail
 refine wp_region_lit ?_
 refine tkL (.pointer (some ⟨q, 0, none⟩)) (h := ?_)
 (try simp only [Act.put, sA, sB, sC])
 refine tkL (.int .i64 (i : Int)) (h := ?_)
 (try simp only [Act.put, sA, sB, sC])
 refine wpList_q (by rfl) (.func (.func 58) #[] #[.pointer (some ⟨w.heap.size, 0, none⟩)]) ?he ?_
 case he => (first | rfl | (go_simp; (try rfl)))
 (try simp only [Act.put, sA, sB, sC])
 refine wpList_wp (by rfl) (fun K hK => ?_)
 (try go_simp)
 refine (change1 q g G G.cars.length c1 v2 i 58 (.pointer (some ⟨w.heap.size, 0, none⟩)) (pressE (G.cars[i]'HI.out)) _ _ HQ1.out HI.out (fun args w1 => enterF Try.func58 (by kernel_rfl) rfl args w1) (press1T g (i * 15) P S1 (G.cars[i]'HI.out) (w.heap.size) v _ HE1.out HP.out HBV1.out)).mono ?_
 rintro e w9 ⟨rfl, hB, hU⟩
 (try go_wp2_with fail)
 refine hK.out _ _ ?_
 clear hK K
 (try simp only [Act.put, sA, sB, sC])
 refine tkL (.int .i64 (pressE (G.cars[i]'HI.out))) (h := ?_)
 (try simp only [Act.put, sA, sB, sC])
 refine wpList_nil ?_
 (try go_wp2_with fail)
 go_ret
 exact ⟨rfl, HPUT.out _ w1 _ HS1.out hB hU⟩
set_option maxHeartbeats 4000000 in
theorem takeIA (lo q : Nat) (G : GrV) (S : List Nat) (i : Nat) (v : Int) (w : World) (hg : GO lo q G S w) (hi : i < G.cars.length) (hf : hasF G.c v = true) (hr : R (G.cars[i]'hi).sp ∧ R (G.cars[i]'hi).su ∧ R (G.cars[i]'hi).sd) (hb : idB (G.cars[i]'hi) = true) : Calls Try.prog 40 #[.pointer (some ⟨q, 0, none⟩), .int .i64 (i : Int), .int .i64 v] w fun e w' => e = .returned (.int .i64 0) ∧ GO lo q (G.car i { (G.cars[i]'hi) with mo := 1, ta := v, ho := true }) S w' ∧ Upd S w w' := by
 obtain ⟨g, c1, v2, P, S1, hq, hP, hE, hput⟩ := hg.open_car hi
 have HQ := Lib.hid hq; have HP := Lib.hid hP; have HE := Lib.hid hE; have HPUT := Lib.hid hput; have HLE := Lib.hid (Blk.lt hE)
 clear hq hP hE hput hg
 have HI := Lib.hid hi
 have HF := Lib.hid hf
 clear hf
 have HR := Lib.hid hr
 clear hr
 have HB := Lib.hid hb
 clear hb
 go_enter Try.func40, Try.ntmps40
 go_upto_region 1 with fail
 obtain ⟨w1, hw1⟩ : ∃ w1, w1 = (w.alloc (.cells #[.int .i64 v] 3)) := ⟨_, rfl⟩
 rw [← hw1]
 have HBV1 := Lib.hid (show Blk w1 (w.heap.size) 3 #[.int .i64 v] by rw [hw1]; exact Blk.at_ (by (try simp only [size_alloc])) _ _)
 have HS1 := Lib.hid (show Since w w1 by rw [hw1]; exact Since.alloc (Since.refl w) _)
 have hNE : w.heap.size ≤ w.heap.size := by omega
 have HNE := Lib.hid hNE
 clear hNE hw1
 have HNE3 := Lib.hid (show w.heap.size ≤ w.heap.size from HNE.out)
 clear HNE
 have HQ1 := Lib.hid (keep_blk HS1.out HQ.out); have HE1 := Lib.hid (keep_blk HS1.out HE.out)
 refine wp_region_lit ?_
 refine tkL (.pointer (some ⟨q, 0, none⟩)) (h := ?_)
 (try simp only [Act.put, sA, sB, sC])
 refine wpList_q (by rfl) (.int .i64 v) ?he ?_
 case he => exact exec_cell 3 _ _ HBV1.out rfl rfl rfl Try.underlying3 rfl
 (try simp only [Act.put, sA, sB, sC])
 refine wpList_wp (by rfl) (fun K hK => ?_)
 (try go_simp)
 refine (hasFT q G _ v2 v true _ HQ1.out HF.out).mono ?_
 rintro e w' ⟨rfl, rfl⟩
 (try go_wp2_with fail)
 refine hK.out _ _ ?_
 clear hK K
 (try simp only [Act.put, sA, sB, sC])
 refine wpList_q (by rfl) (.bool false) ?he ?_
 case he => (go_simp; (try with_reducible rfl))
 (try simp only [Act.put, sA, sB, sC])
 refine wpList_nil ?_
 go_upto_region 3 with fail
 refine wp_region_lit ?_
 refine tkL (.pointer (some ⟨q, 0, none⟩)) (h := ?_)
 (try simp only [Act.put, sA, sB, sC])
 refine tkL (.int .i64 (i : Int)) (h := ?_)
 (try simp only [Act.put, sA, sB, sC])
 refine wpList_q (by rfl) (.func (.func 64) #[] #[.pointer (some ⟨w.heap.size, 0, none⟩)]) ?he ?_
 case he => (first | rfl | (go_simp; (try rfl)))
 (try simp only [Act.put, sA, sB, sC])
 refine wpList_wp (by rfl) (fun K hK => ?_)
 (try go_simp)
 refine (change1 q g G G.cars.length c1 v2 i 64 (.pointer (some ⟨w.heap.size, 0, none⟩)) 0 _ _ HQ1.out HI.out (fun args w1 => enterF Try.func64 (by kernel_rfl) rfl args w1) (take1A g (i * 15) P S1 (G.cars[i]'HI.out) (w.heap.size) v _ HE1.out HP.out HBV1.out (by have q := idlT (G.cars[i]'HI.out) w1 HR.out.1 HR.out.2.1 HR.out.2.2; rw [HB.out] at q; exact q))).mono ?_
 rintro e w9 ⟨rfl, hB, hU⟩
 (try go_wp2_with fail)
 refine hK.out _ _ ?_
 clear hK K
 (try simp only [Act.put, sA, sB, sC])
 refine tkL (.int .i64 0) (h := ?_)
 (try simp only [Act.put, sA, sB, sC])
 refine wpList_nil ?_
 (try go_wp2_with fail)
 go_ret
 exact ⟨rfl, HPUT.out _ w1 _ HS1.out hB hU⟩
set_option maxHeartbeats 4000000 in
theorem takeIB (lo q : Nat) (G : GrV) (S : List Nat) (i : Nat) (v : Int) (w : World) (hg : GO lo q G S w) (hi : i < G.cars.length) (hf : hasF G.c v = true) (hr : R (G.cars[i]'hi).sp ∧ R (G.cars[i]'hi).su ∧ R (G.cars[i]'hi).sd) (hb : idB (G.cars[i]'hi) = false) : Calls Try.prog 40 #[.pointer (some ⟨q, 0, none⟩), .int .i64 (i : Int), .int .i64 v] w fun e w' => e = .returned (.int .i64 7) ∧ GO lo q (G.car i (G.cars[i]'hi)) S w' ∧ Upd S w w' := by
 obtain ⟨g, c1, v2, P, S1, hq, hP, hE, hput⟩ := hg.open_car hi
 have HQ := Lib.hid hq; have HP := Lib.hid hP; have HE := Lib.hid hE; have HPUT := Lib.hid hput; have HLE := Lib.hid (Blk.lt hE)
 clear hq hP hE hput hg
 have HI := Lib.hid hi
 have HF := Lib.hid hf
 clear hf
 have HR := Lib.hid hr
 clear hr
 have HB := Lib.hid hb
 clear hb
 go_enter Try.func40, Try.ntmps40
 go_upto_region 1 with fail
 obtain ⟨w1, hw1⟩ : ∃ w1, w1 = (w.alloc (.cells #[.int .i64 v] 3)) := ⟨_, rfl⟩
 rw [← hw1]
 have HBV1 := Lib.hid (show Blk w1 (w.heap.size) 3 #[.int .i64 v] by rw [hw1]; exact Blk.at_ (by (try simp only [size_alloc])) _ _)
 have HS1 := Lib.hid (show Since w w1 by rw [hw1]; exact Since.alloc (Since.refl w) _)
 have hNE : w.heap.size ≤ w.heap.size := by omega
 have HNE := Lib.hid hNE
 clear hNE hw1
 have HNE3 := Lib.hid (show w.heap.size ≤ w.heap.size from HNE.out)
 clear HNE
 have HQ1 := Lib.hid (keep_blk HS1.out HQ.out); have HE1 := Lib.hid (keep_blk HS1.out HE.out)
 refine wp_region_lit ?_
 refine tkL (.pointer (some ⟨q, 0, none⟩)) (h := ?_)
 (try simp only [Act.put, sA, sB, sC])
 refine wpList_q (by rfl) (.int .i64 v) ?he ?_
 case he => exact exec_cell 3 _ _ HBV1.out rfl rfl rfl Try.underlying3 rfl
 (try simp only [Act.put, sA, sB, sC])
 refine wpList_wp (by rfl) (fun K hK => ?_)
 (try go_simp)
 refine (hasFT q G _ v2 v true _ HQ1.out HF.out).mono ?_
 rintro e w' ⟨rfl, rfl⟩
 (try go_wp2_with fail)
 refine hK.out _ _ ?_
 clear hK K
 (try simp only [Act.put, sA, sB, sC])
 refine wpList_q (by rfl) (.bool false) ?he ?_
 case he => (go_simp; (try with_reducible rfl))
 (try simp only [Act.put, sA, sB, sC])
 refine wpList_nil ?_
 go_upto_region 3 with fail
 refine wp_region_lit ?_
 refine tkL (.pointer (some ⟨q, 0, none⟩)) (h := ?_)
 (try simp only [Act.put, sA, sB, sC])
 refine tkL (.int .i64 (i : Int)) (h := ?_)
 (try simp only [Act.put, sA, sB, sC])
 refine wpList_q (by rfl) (.func (.func 64) #[] #[.pointer (some ⟨w.heap.size, 0, none⟩)]) ?he ?_
 case he => (first | rfl | (go_simp; (try rfl)))
 (try simp only [Act.put, sA, sB, sC])
 refine wpList_wp (by rfl) (fun K hK => ?_)
 (try go_simp)
 refine (change1 q g G G.cars.length c1 v2 i 64 (.pointer (some ⟨w.heap.size, 0, none⟩)) 7 _ _ HQ1.out HI.out (fun args w1 => enterF Try.func64 (by kernel_rfl) rfl args w1) (take1B g (i * 15) P S1 (G.cars[i]'HI.out) (w.heap.size) v _ HE1.out HP.out HBV1.out (by have q := idlT (G.cars[i]'HI.out) w1 HR.out.1 HR.out.2.1 HR.out.2.2; rw [HB.out] at q; exact q))).mono ?_
 rintro e w9 ⟨rfl, hB, hU⟩
 (try go_wp2_with fail)
 refine hK.out _ _ ?_
 clear hK K
 (try simp only [Act.put, sA, sB, sC])
 refine tkL (.int .i64 7) (h := ?_)
 (try simp only [Act.put, sA, sB, sC])
 refine wpList_nil ?_
 (try go_wp2_with fail)
 go_ret
 exact ⟨rfl, HPUT.out _ w1 _ HS1.out hB hU⟩
set_option maxHeartbeats 4000000 in
theorem aimIA (lo q : Nat) (G : GrV) (S : List Nat) (i : Nat) (v : Int) (u : Bool) (w : World) (hg : GO lo q G S w) (hi : i < G.cars.length) (hf : hasF G.c v = true) (hm : (G.cars[i]'hi).mo = 1) : Calls Try.prog 41 #[.pointer (some ⟨q, 0, none⟩), .int .i64 (i : Int), .int .i64 v, .bool u] w fun e w' => e = .returned (.int .i64 0) ∧ GO lo q (G.car i { (G.cars[i]'hi) with ta := v, ho := u }) S w' ∧ Upd S w w' := by
 obtain ⟨g, c1, v2, P, S1, hq, hP, hE, hput⟩ := hg.open_car hi
 have HQ := Lib.hid hq; have HP := Lib.hid hP; have HE := Lib.hid hE; have HPUT := Lib.hid hput; have HLE := Lib.hid (Blk.lt hE)
 clear hq hP hE hput hg
 have HI := Lib.hid hi
 have HF := Lib.hid hf
 clear hf
 have HM := Lib.hid hm
 clear hm
 go_enter Try.func41, Try.ntmps41
 go_upto_region 1 with fail
 obtain ⟨w1, hw1⟩ : ∃ w1, w1 = ((w.alloc (.cells #[.int .i64 v] 3)).alloc (.cells #[.bool u] 4)) := ⟨_, rfl⟩
 rw [← hw1]
 have HBV1 := Lib.hid (show Blk w1 (w.heap.size) 3 #[.int .i64 v] by rw [hw1]; exact Blk.alloc (Blk.at_ (by (try simp only [size_alloc])) _ _) _)
 have HBU1 := Lib.hid (show Blk w1 (w.heap.size + 1) 4 #[.bool u] by rw [hw1]; exact Blk.at_ (by (try simp only [size_alloc])) _ _)
 have HS1 := Lib.hid (show Since w w1 by rw [hw1]; exact Since.alloc (Since.alloc (Since.refl w) _) _)
 have hNE : w.heap.size ≤ w.heap.size ∧ w.heap.size < w.heap.size + 1 := by omega
 have HNE := Lib.hid hNE
 clear hNE hw1
 generalize w.heap.size + 1 = bU at *
 have HNE3 := Lib.hid (show w.heap.size ≤ w.heap.size ∧ w.heap.size < bU from HNE.out)
 clear HNE
 have HQ1 := Lib.hid (keep_blk HS1.out HQ.out); have HE1 := Lib.hid (keep_blk HS1.out HE.out)
 refine wp_region_lit ?_
 refine tkL (.pointer (some ⟨q, 0, none⟩)) (h := ?_)
 (try simp only [Act.put, sA, sB, sC])
 refine wpList_q (by rfl) (.int .i64 v) ?he ?_
 case he => exact exec_cell 3 _ _ HBV1.out rfl rfl rfl Try.underlying3 rfl
 (try simp only [Act.put, sA, sB, sC])
 refine wpList_wp (by rfl) (fun K hK => ?_)
 (try go_simp)
 refine (hasFT q G _ v2 v true _ HQ1.out HF.out).mono ?_
 rintro e w' ⟨rfl, rfl⟩
 (try go_wp2_with fail)
 refine hK.out _ _ ?_
 clear hK K
 (try simp only [Act.put, sA, sB, sC])
 refine wpList_q (by rfl) (.bool false) ?he ?_
 case he => (go_simp; (try with_reducible rfl))
 (try simp only [Act.put, sA, sB, sC])
 refine wpList_nil ?_
 go_upto_region 3 with fail
 refine wp_region_lit ?_
 refine tkL (.pointer (some ⟨q, 0, none⟩)) (h := ?_)
 (try simp only [Act.put, sA, sB, sC])
 refine tkL (.int .i64 (i : Int)) (h := ?_)
 (try simp only [Act.put, sA, sB, sC])
 refine wpList_q (by rfl) (.func (.func 66) #[] #[.pointer (some ⟨w.heap.size, 0, none⟩), .pointer (some ⟨bU, 0, none⟩)]) ?he ?_
 case he => (first | rfl | (go_simp; (try rfl)))
 (try simp only [Act.put, sA, sB, sC])
 refine wpList_wp (by rfl) (fun K hK => ?_)
 (try go_simp)
 refine (change2 q g G G.cars.length c1 v2 i 66 (.pointer (some ⟨w.heap.size, 0, none⟩)) (.pointer (some ⟨bU, 0, none⟩)) 0 _ _ HQ1.out HI.out (fun args w1 => enterF Try.func66 (by kernel_rfl) rfl args w1) (aim1A g (i * 15) P S1 (G.cars[i]'HI.out) (w.heap.size) bU v u _ HE1.out HP.out HBV1.out HBU1.out HM.out)).mono ?_
 rintro e w9 ⟨rfl, hB, hU⟩
 (try go_wp2_with fail)
 refine hK.out _ _ ?_
 clear hK K
 (try simp only [Act.put, sA, sB, sC])
 refine tkL (.int .i64 0) (h := ?_)
 (try simp only [Act.put, sA, sB, sC])
 refine wpList_nil ?_
 (try go_wp2_with fail)
 go_ret
 exact ⟨rfl, HPUT.out _ w1 _ HS1.out hB hU⟩
set_option maxHeartbeats 4000000 in
theorem aimIB (lo q : Nat) (G : GrV) (S : List Nat) (i : Nat) (v : Int) (u : Bool) (w : World) (hg : GO lo q G S w) (hi : i < G.cars.length) (hf : hasF G.c v = true) (hm : ¬ (G.cars[i]'hi).mo = 1) : Calls Try.prog 41 #[.pointer (some ⟨q, 0, none⟩), .int .i64 (i : Int), .int .i64 v, .bool u] w fun e w' => e = .returned (.int .i64 7) ∧ GO lo q (G.car i (G.cars[i]'hi)) S w' ∧ Upd S w w' := by
 obtain ⟨g, c1, v2, P, S1, hq, hP, hE, hput⟩ := hg.open_car hi
 have HQ := Lib.hid hq; have HP := Lib.hid hP; have HE := Lib.hid hE; have HPUT := Lib.hid hput; have HLE := Lib.hid (Blk.lt hE)
 clear hq hP hE hput hg
 have HI := Lib.hid hi
 have HF := Lib.hid hf
 clear hf
 have HM := Lib.hid hm
 clear hm
 go_enter Try.func41, Try.ntmps41
 go_upto_region 1 with fail
 obtain ⟨w1, hw1⟩ : ∃ w1, w1 = ((w.alloc (.cells #[.int .i64 v] 3)).alloc (.cells #[.bool u] 4)) := ⟨_, rfl⟩
 rw [← hw1]
 have HBV1 := Lib.hid (show Blk w1 (w.heap.size) 3 #[.int .i64 v] by rw [hw1]; exact Blk.alloc (Blk.at_ (by (try simp only [size_alloc])) _ _) _)
 have HBU1 := Lib.hid (show Blk w1 (w.heap.size + 1) 4 #[.bool u] by rw [hw1]; exact Blk.at_ (by (try simp only [size_alloc])) _ _)
 have HS1 := Lib.hid (show Since w w1 by rw [hw1]; exact Since.alloc (Since.alloc (Since.refl w) _) _)
 have hNE : w.heap.size ≤ w.heap.size ∧ w.heap.size < w.heap.size + 1 := by omega
 have HNE := Lib.hid hNE
 clear hNE hw1
 generalize w.heap.size + 1 = bU at *
 have HNE3 := Lib.hid (show w.heap.size ≤ w.heap.size ∧ w.heap.size < bU from HNE.out)
 clear HNE
 have HQ1 := Lib.hid (keep_blk HS1.out HQ.out); have HE1 := Lib.hid (keep_blk HS1.out HE.out)
 refine wp_region_lit ?_
 refine tkL (.pointer (some ⟨q, 0, none⟩)) (h := ?_)
 (try simp only [Act.put, sA, sB, sC])
 refine wpList_q (by rfl) (.int .i64 v) ?he ?_
 case he => exact exec_cell 3 _ _ HBV1.out rfl rfl rfl Try.underlying3 rfl
 (try simp only [Act.put, sA, sB, sC])
 refine wpList_wp (by rfl) (fun K hK => ?_)
 (try go_simp)
 refine (hasFT q G _ v2 v true _ HQ1.out HF.out).mono ?_
 rintro e w' ⟨rfl, rfl⟩
 (try go_wp2_with fail)
 refine hK.out _ _ ?_
 clear hK K
 (try simp only [Act.put, sA, sB, sC])
 refine wpList_q (by rfl) (.bool false) ?he ?_
 case he => (go_simp; (try with_reducible rfl))
 (try simp only [Act.put, sA, sB, sC])
 refine wpList_nil ?_
 go_upto_region 3 with fail
 refine wp_region_lit ?_
 refine tkL (.pointer (some ⟨q, 0, none⟩)) (h := ?_)
 (try simp only [Act.put, sA, sB, sC])
 refine tkL (.int .i64 (i : Int)) (h := ?_)
 (try simp only [Act.put, sA, sB, sC])
 refine wpList_q (by rfl) (.func (.func 66) #[] #[.pointer (some ⟨w.heap.size, 0, none⟩), .pointer (some ⟨bU, 0, none⟩)]) ?he ?_
 case he => (first | rfl | (go_simp; (try rfl)))
 (try simp only [Act.put, sA, sB, sC])
 refine wpList_wp (by rfl) (fun K hK => ?_)
 (try go_simp)
 refine (change2 q g G G.cars.length c1 v2 i 66 (.pointer (some ⟨w.heap.size, 0, none⟩)) (.pointer (some ⟨bU, 0, none⟩)) 7 _ _ HQ1.out HI.out (fun args w1 => enterF Try.func66 (by kernel_rfl) rfl args w1) (aim1B g (i * 15) P S1 (G.cars[i]'HI.out) (w.heap.size) bU v u _ HE1.out HP.out HBV1.out HBU1.out HM.out)).mono ?_
 rintro e w9 ⟨rfl, hB, hU⟩
 (try go_wp2_with fail)
 refine hK.out _ _ ?_
 clear hK K
 (try simp only [Act.put, sA, sB, sC])
 refine tkL (.int .i64 7) (h := ?_)
 (try simp only [Act.put, sA, sB, sC])
 refine wpList_nil ?_
 (try go_wp2_with fail)
 go_ret
 exact ⟨rfl, HPUT.out _ w1 _ HS1.out hB hU⟩
set_option maxHeartbeats 4000000 in
theorem giveIA (lo q : Nat) (G : GrV) (S : List Nat) (i : Nat) (w : World) (hg : GO lo q G S w) (hi : i < G.cars.length) (hm : (G.cars[i]'hi).mo = 1) (hl : lvB (G.cars[i]'hi).un = true) : Calls Try.prog 42 #[.pointer (some ⟨q, 0, none⟩), .int .i64 (i : Int)] w fun e w' => e = .returned (.int .i64 0) ∧ GO lo q (G.car i { (G.cars[i]'hi) with mo := 0, ta := 0, ho := false, ju := -1, ti := dwV G.c.dw, wy := 0 }) S w' ∧ Upd S w w' := by
 obtain ⟨g, c1, v2, P, S1, hq, hP, hE, hput⟩ := hg.open_car hi
 have HQ := Lib.hid hq; have HP := Lib.hid hP; have HE := Lib.hid hE; have HPUT := Lib.hid hput; have HLE := Lib.hid (Blk.lt hE)
 clear hq hP hE hput hg
 have HI := Lib.hid hi
 have HM := Lib.hid hm
 clear hm
 have HL := Lib.hid hl
 clear hl
 go_enter Try.func42, Try.ntmps42
 go_upto_region 1 with fail
 obtain ⟨w1, hw1⟩ : ∃ w1, w1 = (w.alloc (.cells #[.pointer (some ⟨q, 0, none⟩)] 43)) := ⟨_, rfl⟩
 rw [← hw1]
 have HBP1 := Lib.hid (show Blk w1 (w.heap.size) 43 #[.pointer (some ⟨q, 0, none⟩)] by rw [hw1]; exact Blk.at_ (by (try simp only [size_alloc])) _ _)
 have HS1 := Lib.hid (show Since w w1 by rw [hw1]; exact Since.alloc (Since.refl w) _)
 have hNE : w.heap.size ≤ w.heap.size := by omega
 have HNE := Lib.hid hNE
 clear hNE hw1
 have HNE3 := Lib.hid (show w.heap.size ≤ w.heap.size from HNE.out)
 clear HNE
 have HQ1 := Lib.hid (keep_blk HS1.out HQ.out); have HE1 := Lib.hid (keep_blk HS1.out HE.out)
 refine wp_region_lit ?_
 refine wpList_q (by rfl) (.pointer (some ⟨q, 0, none⟩)) ?he ?_
 case he => exact exec_cell 43 _ _ HBP1.out rfl rfl rfl Try.underlying43 rfl
 (try simp only [Act.put, sA, sB, sC])
 refine tkL (.int .i64 (i : Int)) (h := ?_)
 (try simp only [Act.put, sA, sB, sC])
 refine wpList_q (by rfl) (.func (.func 67) #[] #[.pointer (some ⟨w.heap.size, 0, none⟩)]) ?he ?_
 case he => (first | rfl | (go_simp; (try rfl)))
 (try simp only [Act.put, sA, sB, sC])
 refine wpList_wp (by rfl) (fun K hK => ?_)
 (try go_simp)
 refine (change1 q g G G.cars.length c1 v2 i 67 (.pointer (some ⟨w.heap.size, 0, none⟩)) 0 _ _ HQ1.out HI.out (fun args w1 => enterF Try.func67 (by kernel_rfl) rfl args w1) (give1A g (i * 15) P S1 (G.cars[i]'HI.out) (w.heap.size) q G (.slice (some ⟨g, 0, none⟩) G.cars.length c1) v2 _ HE1.out HP.out HBP1.out HM.out HL.out HQ1.out)).mono ?_
 rintro e w9 ⟨rfl, hB, hU⟩
 (try go_wp2_with fail)
 refine hK.out _ _ ?_
 clear hK K
 (try simp only [Act.put, sA, sB, sC])
 refine tkL (.int .i64 0) (h := ?_)
 (try simp only [Act.put, sA, sB, sC])
 refine wpList_nil ?_
 (try go_wp2_with fail)
 go_ret
 exact ⟨rfl, HPUT.out _ w1 _ HS1.out hB hU⟩
set_option maxHeartbeats 4000000 in
theorem giveIC (lo q : Nat) (G : GrV) (S : List Nat) (i : Nat) (w : World) (hg : GO lo q G S w) (hi : i < G.cars.length) (hm : (G.cars[i]'hi).mo = 1) (hl : lvB (G.cars[i]'hi).un = false) : Calls Try.prog 42 #[.pointer (some ⟨q, 0, none⟩), .int .i64 (i : Int)] w fun e w' => e = .returned (.int .i64 0) ∧ GO lo q (G.car i { (G.cars[i]'hi) with mo := 0, ta := 0, ho := false, ju := -1, ti := dwV G.c.dw }) S w' ∧ Upd S w w' := by
 obtain ⟨g, c1, v2, P, S1, hq, hP, hE, hput⟩ := hg.open_car hi
 have HQ := Lib.hid hq; have HP := Lib.hid hP; have HE := Lib.hid hE; have HPUT := Lib.hid hput; have HLE := Lib.hid (Blk.lt hE)
 clear hq hP hE hput hg
 have HI := Lib.hid hi
 have HM := Lib.hid hm
 clear hm
 have HL := Lib.hid hl
 clear hl
 go_enter Try.func42, Try.ntmps42
 go_upto_region 1 with fail
 obtain ⟨w1, hw1⟩ : ∃ w1, w1 = (w.alloc (.cells #[.pointer (some ⟨q, 0, none⟩)] 43)) := ⟨_, rfl⟩
 rw [← hw1]
 have HBP1 := Lib.hid (show Blk w1 (w.heap.size) 43 #[.pointer (some ⟨q, 0, none⟩)] by rw [hw1]; exact Blk.at_ (by (try simp only [size_alloc])) _ _)
 have HS1 := Lib.hid (show Since w w1 by rw [hw1]; exact Since.alloc (Since.refl w) _)
 have hNE : w.heap.size ≤ w.heap.size := by omega
 have HNE := Lib.hid hNE
 clear hNE hw1
 have HNE3 := Lib.hid (show w.heap.size ≤ w.heap.size from HNE.out)
 clear HNE
 have HQ1 := Lib.hid (keep_blk HS1.out HQ.out); have HE1 := Lib.hid (keep_blk HS1.out HE.out)
 refine wp_region_lit ?_
 refine wpList_q (by rfl) (.pointer (some ⟨q, 0, none⟩)) ?he ?_
 case he => exact exec_cell 43 _ _ HBP1.out rfl rfl rfl Try.underlying43 rfl
 (try simp only [Act.put, sA, sB, sC])
 refine tkL (.int .i64 (i : Int)) (h := ?_)
 (try simp only [Act.put, sA, sB, sC])
 refine wpList_q (by rfl) (.func (.func 67) #[] #[.pointer (some ⟨w.heap.size, 0, none⟩)]) ?he ?_
 case he => (first | rfl | (go_simp; (try rfl)))
 (try simp only [Act.put, sA, sB, sC])
 refine wpList_wp (by rfl) (fun K hK => ?_)
 (try go_simp)
 refine (change1 q g G G.cars.length c1 v2 i 67 (.pointer (some ⟨w.heap.size, 0, none⟩)) 0 _ _ HQ1.out HI.out (fun args w1 => enterF Try.func67 (by kernel_rfl) rfl args w1) (give1C g (i * 15) P S1 (G.cars[i]'HI.out) (w.heap.size) q G (.slice (some ⟨g, 0, none⟩) G.cars.length c1) v2 _ HE1.out HP.out HBP1.out HM.out HL.out HQ1.out)).mono ?_
 rintro e w9 ⟨rfl, hB, hU⟩
 (try go_wp2_with fail)
 refine hK.out _ _ ?_
 clear hK K
 (try simp only [Act.put, sA, sB, sC])
 refine tkL (.int .i64 0) (h := ?_)
 (try simp only [Act.put, sA, sB, sC])
 refine wpList_nil ?_
 (try go_wp2_with fail)
 go_ret
 exact ⟨rfl, HPUT.out _ w1 _ HS1.out hB hU⟩
set_option maxHeartbeats 4000000 in
theorem giveIB (lo q : Nat) (G : GrV) (S : List Nat) (i : Nat) (w : World) (hg : GO lo q G S w) (hi : i < G.cars.length) (hm : ¬ (G.cars[i]'hi).mo = 1) : Calls Try.prog 42 #[.pointer (some ⟨q, 0, none⟩), .int .i64 (i : Int)] w fun e w' => e = .returned (.int .i64 7) ∧ GO lo q (G.car i (G.cars[i]'hi)) S w' ∧ Upd S w w' := by
 obtain ⟨g, c1, v2, P, S1, hq, hP, hE, hput⟩ := hg.open_car hi
 have HQ := Lib.hid hq; have HP := Lib.hid hP; have HE := Lib.hid hE; have HPUT := Lib.hid hput; have HLE := Lib.hid (Blk.lt hE)
 clear hq hP hE hput hg
 have HI := Lib.hid hi
 have HM := Lib.hid hm
 clear hm
 go_enter Try.func42, Try.ntmps42
 go_upto_region 1 with fail
 obtain ⟨w1, hw1⟩ : ∃ w1, w1 = (w.alloc (.cells #[.pointer (some ⟨q, 0, none⟩)] 43)) := ⟨_, rfl⟩
 rw [← hw1]
 have HBP1 := Lib.hid (show Blk w1 (w.heap.size) 43 #[.pointer (some ⟨q, 0, none⟩)] by rw [hw1]; exact Blk.at_ (by (try simp only [size_alloc])) _ _)
 have HS1 := Lib.hid (show Since w w1 by rw [hw1]; exact Since.alloc (Since.refl w) _)
 have hNE : w.heap.size ≤ w.heap.size := by omega
 have HNE := Lib.hid hNE
 clear hNE hw1
 have HNE3 := Lib.hid (show w.heap.size ≤ w.heap.size from HNE.out)
 clear HNE
 have HQ1 := Lib.hid (keep_blk HS1.out HQ.out); have HE1 := Lib.hid (keep_blk HS1.out HE.out)
 refine wp_region_lit ?_
 refine wpList_q (by rfl) (.pointer (some ⟨q, 0, none⟩)) ?he ?_
 case he => exact exec_cell 43 _ _ HBP1.out rfl rfl rfl Try.underlying43 rfl
 (try simp only [Act.put, sA, sB, sC])
 refine tkL (.int .i64 (i : Int)) (h := ?_)
 (try simp only [Act.put, sA, sB, sC])
 refine wpList_q (by rfl) (.func (.func 67) #[] #[.pointer (some ⟨w.heap.size, 0, none⟩)]) ?he ?_
 case he => (first | rfl | (go_simp; (try rfl)))
 (try simp only [Act.put, sA, sB, sC])
 refine wpList_wp (by rfl) (fun K hK => ?_)
 (try go_simp)
 refine (change1 q g G G.cars.length c1 v2 i 67 (.pointer (some ⟨w.heap.size, 0, none⟩)) 7 _ _ HQ1.out HI.out (fun args w1 => enterF Try.func67 (by kernel_rfl) rfl args w1) (give1B g (i * 15) P S1 (G.cars[i]'HI.out) (w.heap.size) q G (.slice (some ⟨g, 0, none⟩) G.cars.length c1) v2 _ HE1.out HP.out HBP1.out HM.out HQ1.out)).mono ?_
 rintro e w9 ⟨rfl, hB, hU⟩
 (try go_wp2_with fail)
 refine hK.out _ _ ?_
 clear hK K
 (try simp only [Act.put, sA, sB, sC])
 refine tkL (.int .i64 7) (h := ?_)
 (try simp only [Act.put, sA, sB, sC])
 refine wpList_nil ?_
 (try go_wp2_with fail)
 go_ret
 exact ⟨rfl, HPUT.out _ w1 _ HS1.out hB hU⟩
end Go.Proofs.Ytpacieocmogjeaa.Gr
