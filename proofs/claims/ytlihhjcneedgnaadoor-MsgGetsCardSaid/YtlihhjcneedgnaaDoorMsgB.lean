/-
  msg.Good; the reference's MayMsg and MayPacket: walked.
  Conditions: what stands ahead of each.
-/
import Derived.Test.YtlihhjcneedgnaaDoorMsgA
namespace Go.Proofs.YtlihhjcneedgnaaDoor.Mg
set_option linter.unusedVariables false
set_option linter.unusedSimpArgs false
open Go.RowKit Go.Proofs.YtlihhjcneedgnaaDoor.Ba Go.Proofs.YtlihhjcneedgnaaDoor.Mem
open Go.Proofs.YtlihhjcneedgnaaDoor.Byt (BV isB cells)
set_option maxRecDepth 100000
attribute [local irreducible] Go.wpList
def pktC (p : PktV) : Array Value := #[.int .i64 p.se, .int .i64 p.ep, .int .i64 p.sq, .int .i64 p.ak, .bool p.has, .int .i64 p.ki, .int .i64 p.a, .int .i64 p.b, .int .i64 p.c]
def msgC (p : PktV) : Array Value := #[.int .i64 p.ki, .int .i64 p.a, .int .i64 p.b, .int .i64 p.c]
theorem withinB (most : Int) (g n : Nat) (ns : List Int) (b : Bool) (w : World) (hB : Blk w g 3 (ns.map (Value.int .i64)).toArray) (hl : ns.length = n) (hn : n ≤ 1000) (hb : inB most ns = b) :
    Calls Tryd.prog 19 #[.int .i64 most, .slice (some ⟨g, 0, none⟩) n n] w fun e w' => e = .returned (.bool b) ∧ w = w' := by
  subst hb; exact withinT most g n ns w hB hl hn
theorem knownB (n : Int) (b : Bool) (w : World) (hb : decide (1 ≤ n ∧ n ≤ 16) = b) : Calls Tryd.prog 20 #[.int .i64 n] w fun e w' => e = .returned (.bool b) ∧ w = w' := by
  subst hb; exact knownT n w
theorem head_in (p : PktV) : headB p = (inB 255 [p.se] && inB 65535 [p.ep, p.sq, p.ak]) := by
  unfold headB inB
  rw [Bool.eq_iff_iff, decide_eq_true_iff]
  simp only [List.all_cons, List.all_nil, Bool.and_true, Bool.and_eq_true, decide_eq_true_iff]
  omega
theorem msg_in (p : PktV) : msgB p = (decide (1 ≤ p.ki ∧ p.ki ≤ 16) && inB 2147483647 [p.a, p.b, p.c]) := by
  unfold msgB inB
  rw [Bool.eq_iff_iff, decide_eq_true_iff]
  simp only [List.all_cons, List.all_nil, Bool.and_true, Bool.and_eq_true, decide_eq_true_iff]
  omega
set_option maxHeartbeats 4000000 in
theorem goodA (p : PktV) (h0 : inB 255 [p.se] = false) (w : World) : Calls Tryd.prog 10 #[.agg (pktC p)] w fun e w' => e = .returned (.bool false) ∧ Since w w' := by
  have H0 := Lib.hid h0
  clear h0
  go_enter Tryd.func10, Tryd.ntmps10
  go_upto_region 1 with fail
  obtain ⟨w1, hw1⟩ : ∃ w1, w1 = (w.alloc (.cells (pktC p) 25)) := ⟨_, rfl⟩
  rw [← hw1]
  have HBP1 := Lib.hid (show Blk w1 (w.heap.size) 25 (pktC p) by rw [hw1]; exact Blk.at_ (by (try simp only [size_alloc])) _ _)
  have HS1 := Lib.hid (show Since w w1 by rw [hw1]; exact Since.alloc (Since.refl w) _)
  have hNE : w.heap.size ≤ w.heap.size := by omega
  have HNE := Lib.hid hNE
  clear hNE hw1
  have HNE3 := Lib.hid (show w.heap.size ≤ w.heap.size from HNE.out)
  clear HNE
  refine wp_region_lit ?_
  refine wpList_q (by rfl) (.pointer (some ⟨w.heap.size, 0, none⟩)) ?he ?_
  case he => (first | rfl | (go_simp; (try with_reducible rfl)))
  (try simp only [Act.put, sA, sB, sC])
  refine wpList_q (by rfl) (.int .i64 p.se) ?he ?_
  case he => exact exec_cell 3 _ _ HBP1.out rfl rfl rfl Tryd.underlying3 rfl
  (try simp only [Act.put, sA, sB, sC])
  refine wpList_wp (by rfl) (fun K hK => ?_)
  refine wp_new (fun b => .slice (some ⟨b, 0, none⟩) 1 1) 3 #[.int .i64 p.se] (by rintro b rfl; first | rfl | kernel_rfl) ?_
  intro bn5 w2 hge hB hb
  refine hK.out _ _ ?_
  clear hK K
  (try simp only [Act.put, sA, sB, sC])
  have HNn5P := Lib.hid (show bn5 ≠ w.heap.size by have := Blk.lt HBP1.out; omega)
  have HGn5 := Lib.hid (show w.heap.size ≤ bn5 by have := Since.size HS1.out; omega)
  have HS2 := Lib.hid (Since.trans HS1.out hb)
  have HBP2 := Lib.hid (keep_blk hb HBP1.out)
  clear HS1 HBP1
  clear hb hge
  have HBn52 := Lib.hid hB
  clear hB
  refine wpList_wp (by rfl) (fun K hK => ?_)
  (try go_simp)
  refine (withinB 255 bn5 1 [p.se] false _ HBn52.out rfl (by omega) H0.out).mono ?_
  rintro e w' ⟨rfl, rfl⟩
  (try go_wp2_with fail)
  refine hK.out _ _ ?_
  clear hK K
  (try simp only [Act.put, sA, sB, sC])
  refine wpList_q (by rfl) (.bool true) ?he ?_
  case he => (go_simp; (try with_reducible rfl))
  (try simp only [Act.put, sA, sB, sC])
  refine wpList_q (by rfl) (.bool true) ?he ?_
  case he => (first | rfl | (go_simp; (try with_reducible rfl)))
  (try simp only [Act.put, sA, sB, sC])
  refine wpList_no (by rfl) ?_
  (try simp only [Act.put, sA, sB, sC])
  refine wpList_no (by rfl) ?_
  (try simp only [Act.put, sA, sB, sC])
  refine wpList_no (by rfl) ?_
  (try simp only [Act.put, sA, sB, sC])
  refine wpList_no (by rfl) ?_
  (try simp only [Act.put, sA, sB, sC])
  refine wpList_no (by rfl) ?_
  (try simp only [Act.put, sA, sB, sC])
  refine wpList_no (by rfl) ?_
  (try simp only [Act.put, sA, sB, sC])
  refine wpList_no (by rfl) ?_
  (try simp only [Act.put, sA, sB, sC])
  refine wpList_no (by rfl) ?_
  (try simp only [Act.put, sA, sB, sC])
  refine wpList_no (by rfl) ?_
  (try simp only [Act.put, sA, sB, sC])
  refine wpList_q (by rfl) (.bool true) ?he ?_
  case he => (first | rfl | (go_simp; (try with_reducible rfl)))
  (try simp only [Act.put, sA, sB, sC])
  refine wpList_nil ?_
  go_upto_region 2 with fail
  refine wp_region_lit ?_
  refine wpList_q (by rfl) (.bool false) ?he ?_
  case he => (first | rfl | (go_simp; (try with_reducible rfl)))
  (try simp only [Act.put, sA, sB, sC])
  refine wpList_nil ?_
  (try go_wp2_with fail)
  go_ret
  exact ⟨rfl, HS2.out⟩
set_option maxHeartbeats 4000000 in
theorem goodB_ (p : PktV) (h0 : inB 255 [p.se] = true) (h1 : inB 65535 [p.ep, p.sq, p.ak] = false) (w : World) : Calls Tryd.prog 10 #[.agg (pktC p)] w fun e w' => e = .returned (.bool false) ∧ Since w w' := by
  have H0 := Lib.hid h0
  clear h0
  have H1 := Lib.hid h1
  clear h1
  go_enter Tryd.func10, Tryd.ntmps10
  go_upto_region 1 with fail
  obtain ⟨w1, hw1⟩ : ∃ w1, w1 = (w.alloc (.cells (pktC p) 25)) := ⟨_, rfl⟩
  rw [← hw1]
  have HBP1 := Lib.hid (show Blk w1 (w.heap.size) 25 (pktC p) by rw [hw1]; exact Blk.at_ (by (try simp only [size_alloc])) _ _)
  have HS1 := Lib.hid (show Since w w1 by rw [hw1]; exact Since.alloc (Since.refl w) _)
  have hNE : w.heap.size ≤ w.heap.size := by omega
  have HNE := Lib.hid hNE
  clear hNE hw1
  have HNE3 := Lib.hid (show w.heap.size ≤ w.heap.size from HNE.out)
  clear HNE
  refine wp_region_lit ?_
  refine wpList_q (by rfl) (.pointer (some ⟨w.heap.size, 0, none⟩)) ?he ?_
  case he => (first | rfl | (go_simp; (try with_reducible rfl)))
  (try simp only [Act.put, sA, sB, sC])
  refine wpList_q (by rfl) (.int .i64 p.se) ?he ?_
  case he => exact exec_cell 3 _ _ HBP1.out rfl rfl rfl Tryd.underlying3 rfl
  (try simp only [Act.put, sA, sB, sC])
  refine wpList_wp (by rfl) (fun K hK => ?_)
  refine wp_new (fun b => .slice (some ⟨b, 0, none⟩) 1 1) 3 #[.int .i64 p.se] (by rintro b rfl; first | rfl | kernel_rfl) ?_
  intro bn5 w2 hge hB hb
  refine hK.out _ _ ?_
  clear hK K
  (try simp only [Act.put, sA, sB, sC])
  have HNn5P := Lib.hid (show bn5 ≠ w.heap.size by have := Blk.lt HBP1.out; omega)
  have HGn5 := Lib.hid (show w.heap.size ≤ bn5 by have := Since.size HS1.out; omega)
  have HS2 := Lib.hid (Since.trans HS1.out hb)
  have HBP2 := Lib.hid (keep_blk hb HBP1.out)
  clear HS1 HBP1
  clear hb hge
  have HBn52 := Lib.hid hB
  clear hB
  refine wpList_wp (by rfl) (fun K hK => ?_)
  (try go_simp)
  refine (withinB 255 bn5 1 [p.se] true _ HBn52.out rfl (by omega) H0.out).mono ?_
  rintro e w' ⟨rfl, rfl⟩
  (try go_wp2_with fail)
  refine hK.out _ _ ?_
  clear hK K
  (try simp only [Act.put, sA, sB, sC])
  refine wpList_q (by rfl) (.bool false) ?he ?_
  case he => (go_simp; (try with_reducible rfl))
  (try simp only [Act.put, sA, sB, sC])
  refine wpList_q (by rfl) (.bool false) ?he ?_
  case he => (first | rfl | (go_simp; (try with_reducible rfl)))
  (try simp only [Act.put, sA, sB, sC])
  refine wpList_q (by rfl) (.pointer (some ⟨w.heap.size, 1, none⟩)) ?he ?_
  case he => (first | rfl | (go_simp; (try with_reducible rfl)))
  (try simp only [Act.put, sA, sB, sC])
  refine wpList_q (by rfl) (.int .i64 p.ep) ?he ?_
  case he => exact exec_cell 3 _ _ HBP2.out rfl rfl rfl Tryd.underlying3 rfl
  (try simp only [Act.put, sA, sB, sC])
  refine wpList_q (by rfl) (.pointer (some ⟨w.heap.size, 2, none⟩)) ?he ?_
  case he => (first | rfl | (go_simp; (try with_reducible rfl)))
  (try simp only [Act.put, sA, sB, sC])
  refine wpList_q (by rfl) (.int .i64 p.sq) ?he ?_
  case he => exact exec_cell 3 _ _ HBP2.out rfl rfl rfl Tryd.underlying3 rfl
  (try simp only [Act.put, sA, sB, sC])
  refine wpList_q (by rfl) (.pointer (some ⟨w.heap.size, 3, none⟩)) ?he ?_
  case he => (first | rfl | (go_simp; (try with_reducible rfl)))
  (try simp only [Act.put, sA, sB, sC])
  refine wpList_q (by rfl) (.int .i64 p.ak) ?he ?_
  case he => exact exec_cell 3 _ _ HBP2.out rfl rfl rfl Tryd.underlying3 rfl
  (try simp only [Act.put, sA, sB, sC])
  refine wpList_wp (by rfl) (fun K hK => ?_)
  refine wp_new (fun b => .slice (some ⟨b, 0, none⟩) 3 3) 3 #[.int .i64 p.ep, .int .i64 p.sq, .int .i64 p.ak] (by rintro b rfl; first | rfl | kernel_rfl) ?_
  intro bn15 w3 hge hB hb
  refine hK.out _ _ ?_
  clear hK K
  (try simp only [Act.put, sA, sB, sC])
  have HNn15P := Lib.hid (show bn15 ≠ w.heap.size by have := Blk.lt HBP2.out; omega)
  have HNn15n5 := Lib.hid (show bn15 ≠ bn5 by have := Blk.lt HBn52.out; omega)
  have HGn15 := Lib.hid (show w.heap.size ≤ bn15 by have := Since.size HS2.out; omega)
  have HS3 := Lib.hid (Since.trans HS2.out hb)
  have HBP3 := Lib.hid (keep_blk hb HBP2.out)
  have HBn53 := Lib.hid (keep_blk hb HBn52.out)
  clear HS2 HBP2 HBn52
  clear hb hge
  have HBn153 := Lib.hid hB
  clear hB
  refine wpList_wp (by rfl) (fun K hK => ?_)
  (try go_simp)
  refine (withinB 65535 bn15 3 [p.ep, p.sq, p.ak] false _ HBn153.out rfl (by omega) H1.out).mono ?_
  rintro e w' ⟨rfl, rfl⟩
  (try go_wp2_with fail)
  refine hK.out _ _ ?_
  clear hK K
  (try simp only [Act.put, sA, sB, sC])
  refine wpList_q (by rfl) (.bool true) ?he ?_
  case he => (go_simp; (try with_reducible rfl))
  (try simp only [Act.put, sA, sB, sC])
  refine wpList_q (by rfl) (.bool true) ?he ?_
  case he => (first | rfl | (go_simp; (try with_reducible rfl)))
  (try simp only [Act.put, sA, sB, sC])
  refine wpList_nil ?_
  go_upto_region 2 with fail
  refine wp_region_lit ?_
  refine wpList_q (by rfl) (.bool false) ?he ?_
  case he => (first | rfl | (go_simp; (try with_reducible rfl)))
  (try simp only [Act.put, sA, sB, sC])
  refine wpList_nil ?_
  (try go_wp2_with fail)
  go_ret
  exact ⟨rfl, HS3.out⟩
set_option maxHeartbeats 4000000 in
theorem goodC (p : PktV) (h0 : inB 255 [p.se] = true) (h1 : inB 65535 [p.ep, p.sq, p.ak] = true) (h2 : p.has = false) (w : World) : Calls Tryd.prog 10 #[.agg (pktC p)] w fun e w' => e = .returned (.bool (noMsg p)) ∧ Since w w' := by
  have H0 := Lib.hid h0
  clear h0
  have H1 := Lib.hid h1
  clear h1
  have H2 := Lib.hid h2
  clear h2
  go_enter Tryd.func10, Tryd.ntmps10
  go_upto_region 1 with fail
  obtain ⟨w1, hw1⟩ : ∃ w1, w1 = (w.alloc (.cells (pktC p) 25)) := ⟨_, rfl⟩
  rw [← hw1]
  have HBP1 := Lib.hid (show Blk w1 (w.heap.size) 25 (pktC p) by rw [hw1]; exact Blk.at_ (by (try simp only [size_alloc])) _ _)
  have HS1 := Lib.hid (show Since w w1 by rw [hw1]; exact Since.alloc (Since.refl w) _)
  have hNE : w.heap.size ≤ w.heap.size := by omega
  have HNE := Lib.hid hNE
  clear hNE hw1
  have HNE3 := Lib.hid (show w.heap.size ≤ w.heap.size from HNE.out)
  clear HNE
  refine wp_region_lit ?_
  refine wpList_q (by rfl) (.pointer (some ⟨w.heap.size, 0, none⟩)) ?he ?_
  case he => (first | rfl | (go_simp; (try with_reducible rfl)))
  (try simp only [Act.put, sA, sB, sC])
  refine wpList_q (by rfl) (.int .i64 p.se) ?he ?_
  case he => exact exec_cell 3 _ _ HBP1.out rfl rfl rfl Tryd.underlying3 rfl
  (try simp only [Act.put, sA, sB, sC])
  refine wpList_wp (by rfl) (fun K hK => ?_)
  refine wp_new (fun b => .slice (some ⟨b, 0, none⟩) 1 1) 3 #[.int .i64 p.se] (by rintro b rfl; first | rfl | kernel_rfl) ?_
  intro bn5 w2 hge hB hb
  refine hK.out _ _ ?_
  clear hK K
  (try simp only [Act.put, sA, sB, sC])
  have HNn5P := Lib.hid (show bn5 ≠ w.heap.size by have := Blk.lt HBP1.out; omega)
  have HGn5 := Lib.hid (show w.heap.size ≤ bn5 by have := Since.size HS1.out; omega)
  have HS2 := Lib.hid (Since.trans HS1.out hb)
  have HBP2 := Lib.hid (keep_blk hb HBP1.out)
  clear HS1 HBP1
  clear hb hge
  have HBn52 := Lib.hid hB
  clear hB
  refine wpList_wp (by rfl) (fun K hK => ?_)
  (try go_simp)
  refine (withinB 255 bn5 1 [p.se] true _ HBn52.out rfl (by omega) H0.out).mono ?_
  rintro e w' ⟨rfl, rfl⟩
  (try go_wp2_with fail)
  refine hK.out _ _ ?_
  clear hK K
  (try simp only [Act.put, sA, sB, sC])
  refine wpList_q (by rfl) (.bool false) ?he ?_
  case he => (go_simp; (try with_reducible rfl))
  (try simp only [Act.put, sA, sB, sC])
  refine wpList_q (by rfl) (.bool false) ?he ?_
  case he => (first | rfl | (go_simp; (try with_reducible rfl)))
  (try simp only [Act.put, sA, sB, sC])
  refine wpList_q (by rfl) (.pointer (some ⟨w.heap.size, 1, none⟩)) ?he ?_
  case he => (first | rfl | (go_simp; (try with_reducible rfl)))
  (try simp only [Act.put, sA, sB, sC])
  refine wpList_q (by rfl) (.int .i64 p.ep) ?he ?_
  case he => exact exec_cell 3 _ _ HBP2.out rfl rfl rfl Tryd.underlying3 rfl
  (try simp only [Act.put, sA, sB, sC])
  refine wpList_q (by rfl) (.pointer (some ⟨w.heap.size, 2, none⟩)) ?he ?_
  case he => (first | rfl | (go_simp; (try with_reducible rfl)))
  (try simp only [Act.put, sA, sB, sC])
  refine wpList_q (by rfl) (.int .i64 p.sq) ?he ?_
  case he => exact exec_cell 3 _ _ HBP2.out rfl rfl rfl Tryd.underlying3 rfl
  (try simp only [Act.put, sA, sB, sC])
  refine wpList_q (by rfl) (.pointer (some ⟨w.heap.size, 3, none⟩)) ?he ?_
  case he => (first | rfl | (go_simp; (try with_reducible rfl)))
  (try simp only [Act.put, sA, sB, sC])
  refine wpList_q (by rfl) (.int .i64 p.ak) ?he ?_
  case he => exact exec_cell 3 _ _ HBP2.out rfl rfl rfl Tryd.underlying3 rfl
  (try simp only [Act.put, sA, sB, sC])
  refine wpList_wp (by rfl) (fun K hK => ?_)
  refine wp_new (fun b => .slice (some ⟨b, 0, none⟩) 3 3) 3 #[.int .i64 p.ep, .int .i64 p.sq, .int .i64 p.ak] (by rintro b rfl; first | rfl | kernel_rfl) ?_
  intro bn15 w3 hge hB hb
  refine hK.out _ _ ?_
  clear hK K
  (try simp only [Act.put, sA, sB, sC])
  have HNn15P := Lib.hid (show bn15 ≠ w.heap.size by have := Blk.lt HBP2.out; omega)
  have HNn15n5 := Lib.hid (show bn15 ≠ bn5 by have := Blk.lt HBn52.out; omega)
  have HGn15 := Lib.hid (show w.heap.size ≤ bn15 by have := Since.size HS2.out; omega)
  have HS3 := Lib.hid (Since.trans HS2.out hb)
  have HBP3 := Lib.hid (keep_blk hb HBP2.out)
  have HBn53 := Lib.hid (keep_blk hb HBn52.out)
  clear HS2 HBP2 HBn52
  clear hb hge
  have HBn153 := Lib.hid hB
  clear hB
  refine wpList_wp (by rfl) (fun K hK => ?_)
  (try go_simp)
  refine (withinB 65535 bn15 3 [p.ep, p.sq, p.ak] true _ HBn153.out rfl (by omega) H1.out).mono ?_
  rintro e w' ⟨rfl, rfl⟩
  (try go_wp2_with fail)
  refine hK.out _ _ ?_
  clear hK K
  (try simp only [Act.put, sA, sB, sC])
  refine wpList_q (by rfl) (.bool false) ?he ?_
  case he => (go_simp; (try with_reducible rfl))
  (try simp only [Act.put, sA, sB, sC])
  refine wpList_q (by rfl) (.bool false) ?he ?_
  case he => (first | rfl | (go_simp; (try with_reducible rfl)))
  (try simp only [Act.put, sA, sB, sC])
  refine wpList_nil ?_
  go_upto_region 3 with fail
  refine wp_region_lit ?_
  refine wpList_q (by rfl) (.pointer (some ⟨w.heap.size, 4, none⟩)) ?he ?_
  case he => (first | rfl | (go_simp; (try with_reducible rfl)))
  (try simp only [Act.put, sA, sB, sC])
  refine wpList_q (by rfl) (.bool p.has) ?he ?_
  case he => exact exec_cell 4 _ _ HBP3.out rfl rfl rfl Tryd.underlying4 rfl
  (try simp only [Act.put, sA, sB, sC])
  refine wpList_q (by rfl) (.bool true) ?he ?_
  case he => (have hq := H2.out; go_simp; (try with_reducible rfl))
  (try simp only [Act.put, sA, sB, sC])
  refine wpList_nil ?_
  go_upto_region 4 with fail
  refine wp_region_lit ?_
  refine wpList_q (by rfl) (.pointer (some ⟨w.heap.size, 5, none⟩)) ?he ?_
  case he => (first | rfl | (go_simp; (try with_reducible rfl)))
  (try simp only [Act.put, sA, sB, sC])
  refine wpList_q (by rfl) (.agg (msgC p)) ?he ?_
  case he => exact exec_part (n := 4) 23 _ _ HBP3.out rfl rfl rfl rfl Tryd.underlying23 rfl (by kernel_rfl)
  (try simp only [Act.put, sA, sB, sC])
  refine wpList_q (by rfl) (.agg #[.int .i64 0, .int .i64 0, .int .i64 0, .int .i64 0]) ?he ?_
  case he => kernel_rfl
  (try simp only [Act.put, sA, sB, sC])
  refine wpList_q (by rfl) (.bool (noMsg p)) ?he ?_
  case he => (simp only [msgC]; go_simp; by_cases q1 : p.ki = 0 <;> by_cases q2 : p.a = 0 <;> by_cases q3 : p.b = 0 <;> by_cases q4 : p.c = 0 <;> simp [q1, q2, q3, q4, noMsg])
  (try simp only [Act.put, sA, sB, sC])
  refine wpList_q (by rfl) (.bool (noMsg p)) ?he ?_
  case he => (first | rfl | (go_simp; (try with_reducible rfl)))
  (try simp only [Act.put, sA, sB, sC])
  refine wpList_nil ?_
  (try go_wp2_with fail)
  go_ret
  exact ⟨rfl, HS3.out⟩
set_option maxHeartbeats 4000000 in
theorem goodD (p : PktV) (h0 : inB 255 [p.se] = true) (h1 : inB 65535 [p.ep, p.sq, p.ak] = true) (h2 : p.has = true) (h3 : decide (1 ≤ p.ki ∧ p.ki ≤ 16) = false) (w : World) : Calls Tryd.prog 10 #[.agg (pktC p)] w fun e w' => e = .returned (.bool false) ∧ Since w w' := by
  have H0 := Lib.hid h0
  clear h0
  have H1 := Lib.hid h1
  clear h1
  have H2 := Lib.hid h2
  clear h2
  have H3 := Lib.hid h3
  clear h3
  go_enter Tryd.func10, Tryd.ntmps10
  go_upto_region 1 with fail
  obtain ⟨w1, hw1⟩ : ∃ w1, w1 = (w.alloc (.cells (pktC p) 25)) := ⟨_, rfl⟩
  rw [← hw1]
  have HBP1 := Lib.hid (show Blk w1 (w.heap.size) 25 (pktC p) by rw [hw1]; exact Blk.at_ (by (try simp only [size_alloc])) _ _)
  have HS1 := Lib.hid (show Since w w1 by rw [hw1]; exact Since.alloc (Since.refl w) _)
  have hNE : w.heap.size ≤ w.heap.size := by omega
  have HNE := Lib.hid hNE
  clear hNE hw1
  have HNE3 := Lib.hid (show w.heap.size ≤ w.heap.size from HNE.out)
  clear HNE
  refine wp_region_lit ?_
  refine wpList_q (by rfl) (.pointer (some ⟨w.heap.size, 0, none⟩)) ?he ?_
  case he => (first | rfl | (go_simp; (try with_reducible rfl)))
  (try simp only [Act.put, sA, sB, sC])
  refine wpList_q (by rfl) (.int .i64 p.se) ?he ?_
  case he => exact exec_cell 3 _ _ HBP1.out rfl rfl rfl Tryd.underlying3 rfl
  (try simp only [Act.put, sA, sB, sC])
  refine wpList_wp (by rfl) (fun K hK => ?_)
  refine wp_new (fun b => .slice (some ⟨b, 0, none⟩) 1 1) 3 #[.int .i64 p.se] (by rintro b rfl; first | rfl | kernel_rfl) ?_
  intro bn5 w2 hge hB hb
  refine hK.out _ _ ?_
  clear hK K
  (try simp only [Act.put, sA, sB, sC])
  have HNn5P := Lib.hid (show bn5 ≠ w.heap.size by have := Blk.lt HBP1.out; omega)
  have HGn5 := Lib.hid (show w.heap.size ≤ bn5 by have := Since.size HS1.out; omega)
  have HS2 := Lib.hid (Since.trans HS1.out hb)
  have HBP2 := Lib.hid (keep_blk hb HBP1.out)
  clear HS1 HBP1
  clear hb hge
  have HBn52 := Lib.hid hB
  clear hB
  refine wpList_wp (by rfl) (fun K hK => ?_)
  (try go_simp)
  refine (withinB 255 bn5 1 [p.se] true _ HBn52.out rfl (by omega) H0.out).mono ?_
  rintro e w' ⟨rfl, rfl⟩
  (try go_wp2_with fail)
  refine hK.out _ _ ?_
  clear hK K
  (try simp only [Act.put, sA, sB, sC])
  refine wpList_q (by rfl) (.bool false) ?he ?_
  case he => (go_simp; (try with_reducible rfl))
  (try simp only [Act.put, sA, sB, sC])
  refine wpList_q (by rfl) (.bool false) ?he ?_
  case he => (first | rfl | (go_simp; (try with_reducible rfl)))
  (try simp only [Act.put, sA, sB, sC])
  refine wpList_q (by rfl) (.pointer (some ⟨w.heap.size, 1, none⟩)) ?he ?_
  case he => (first | rfl | (go_simp; (try with_reducible rfl)))
  (try simp only [Act.put, sA, sB, sC])
  refine wpList_q (by rfl) (.int .i64 p.ep) ?he ?_
  case he => exact exec_cell 3 _ _ HBP2.out rfl rfl rfl Tryd.underlying3 rfl
  (try simp only [Act.put, sA, sB, sC])
  refine wpList_q (by rfl) (.pointer (some ⟨w.heap.size, 2, none⟩)) ?he ?_
  case he => (first | rfl | (go_simp; (try with_reducible rfl)))
  (try simp only [Act.put, sA, sB, sC])
  refine wpList_q (by rfl) (.int .i64 p.sq) ?he ?_
  case he => exact exec_cell 3 _ _ HBP2.out rfl rfl rfl Tryd.underlying3 rfl
  (try simp only [Act.put, sA, sB, sC])
  refine wpList_q (by rfl) (.pointer (some ⟨w.heap.size, 3, none⟩)) ?he ?_
  case he => (first | rfl | (go_simp; (try with_reducible rfl)))
  (try simp only [Act.put, sA, sB, sC])
  refine wpList_q (by rfl) (.int .i64 p.ak) ?he ?_
  case he => exact exec_cell 3 _ _ HBP2.out rfl rfl rfl Tryd.underlying3 rfl
  (try simp only [Act.put, sA, sB, sC])
  refine wpList_wp (by rfl) (fun K hK => ?_)
  refine wp_new (fun b => .slice (some ⟨b, 0, none⟩) 3 3) 3 #[.int .i64 p.ep, .int .i64 p.sq, .int .i64 p.ak] (by rintro b rfl; first | rfl | kernel_rfl) ?_
  intro bn15 w3 hge hB hb
  refine hK.out _ _ ?_
  clear hK K
  (try simp only [Act.put, sA, sB, sC])
  have HNn15P := Lib.hid (show bn15 ≠ w.heap.size by have := Blk.lt HBP2.out; omega)
  have HNn15n5 := Lib.hid (show bn15 ≠ bn5 by have := Blk.lt HBn52.out; omega)
  have HGn15 := Lib.hid (show w.heap.size ≤ bn15 by have := Since.size HS2.out; omega)
  have HS3 := Lib.hid (Since.trans HS2.out hb)
  have HBP3 := Lib.hid (keep_blk hb HBP2.out)
  have HBn53 := Lib.hid (keep_blk hb HBn52.out)
  clear HS2 HBP2 HBn52
  clear hb hge
  have HBn153 := Lib.hid hB
  clear hB
  refine wpList_wp (by rfl) (fun K hK => ?_)
  (try go_simp)
  refine (withinB 65535 bn15 3 [p.ep, p.sq, p.ak] true _ HBn153.out rfl (by omega) H1.out).mono ?_
  rintro e w' ⟨rfl, rfl⟩
  (try go_wp2_with fail)
  refine hK.out _ _ ?_
  clear hK K
  (try simp only [Act.put, sA, sB, sC])
  refine wpList_q (by rfl) (.bool false) ?he ?_
  case he => (go_simp; (try with_reducible rfl))
  (try simp only [Act.put, sA, sB, sC])
  refine wpList_q (by rfl) (.bool false) ?he ?_
  case he => (first | rfl | (go_simp; (try with_reducible rfl)))
  (try simp only [Act.put, sA, sB, sC])
  refine wpList_nil ?_
  go_upto_region 3 with fail
  refine wp_region_lit ?_
  refine wpList_q (by rfl) (.pointer (some ⟨w.heap.size, 4, none⟩)) ?he ?_
  case he => (first | rfl | (go_simp; (try with_reducible rfl)))
  (try simp only [Act.put, sA, sB, sC])
  refine wpList_q (by rfl) (.bool p.has) ?he ?_
  case he => exact exec_cell 4 _ _ HBP3.out rfl rfl rfl Tryd.underlying4 rfl
  (try simp only [Act.put, sA, sB, sC])
  refine wpList_q (by rfl) (.bool false) ?he ?_
  case he => (have hq := H2.out; go_simp; (try with_reducible rfl))
  (try simp only [Act.put, sA, sB, sC])
  refine wpList_nil ?_
  go_upto_region 5 with fail
  refine wp_region_lit ?_
  refine wpList_q (by rfl) (.pointer (some ⟨w.heap.size, 5, none⟩)) ?he ?_
  case he => (first | rfl | (go_simp; (try with_reducible rfl)))
  (try simp only [Act.put, sA, sB, sC])
  refine wpList_q (by rfl) (.pointer (some ⟨w.heap.size, 5, none⟩)) ?he ?_
  case he => (first | rfl | (go_simp; (try with_reducible rfl)))
  (try simp only [Act.put, sA, sB, sC])
  refine wpList_q (by rfl) (.int .i64 p.ki) ?he ?_
  case he => exact exec_cell 3 _ _ HBP3.out rfl rfl rfl Tryd.underlying3 rfl
  (try simp only [Act.put, sA, sB, sC])
  refine wpList_wp (by rfl) (fun K hK => ?_)
  (try go_simp)
  refine (knownB p.ki false _ H3.out).mono ?_
  rintro e w' ⟨rfl, rfl⟩
  (try go_wp2_with fail)
  refine hK.out _ _ ?_
  clear hK K
  (try simp only [Act.put, sA, sB, sC])
  refine wpList_q (by rfl) (.bool false) ?he ?_
  case he => (first | rfl | (go_simp; (try with_reducible rfl)))
  (try simp only [Act.put, sA, sB, sC])
  refine wpList_no (by rfl) ?_
  (try simp only [Act.put, sA, sB, sC])
  refine wpList_no (by rfl) ?_
  (try simp only [Act.put, sA, sB, sC])
  refine wpList_no (by rfl) ?_
  (try simp only [Act.put, sA, sB, sC])
  refine wpList_no (by rfl) ?_
  (try simp only [Act.put, sA, sB, sC])
  refine wpList_no (by rfl) ?_
  (try simp only [Act.put, sA, sB, sC])
  refine wpList_no (by rfl) ?_
  (try simp only [Act.put, sA, sB, sC])
  refine wpList_no (by rfl) ?_
  (try simp only [Act.put, sA, sB, sC])
  refine wpList_no (by rfl) ?_
  (try simp only [Act.put, sA, sB, sC])
  refine wpList_no (by rfl) ?_
  (try simp only [Act.put, sA, sB, sC])
  refine wpList_no (by rfl) ?_
  (try simp only [Act.put, sA, sB, sC])
  refine wpList_no (by rfl) ?_
  (try simp only [Act.put, sA, sB, sC])
  refine wpList_q (by rfl) (.bool false) ?he ?_
  case he => (first | rfl | (go_simp; (try with_reducible rfl)))
  (try simp only [Act.put, sA, sB, sC])
  refine wpList_q (by rfl) (.bool false) ?he ?_
  case he => (first | rfl | (go_simp; (try with_reducible rfl)))
  (try simp only [Act.put, sA, sB, sC])
  refine wpList_nil ?_
  (try go_wp2_with fail)
  go_ret
  exact ⟨rfl, HS3.out⟩
set_option maxHeartbeats 4000000 in
theorem goodE (p : PktV) (h0 : inB 255 [p.se] = true) (h1 : inB 65535 [p.ep, p.sq, p.ak] = true) (h2 : p.has = true) (h3 : decide (1 ≤ p.ki ∧ p.ki ≤ 16) = true) (h4 : inB 2147483647 [p.a, p.b, p.c] = true) (w : World) : Calls Tryd.prog 10 #[.agg (pktC p)] w fun e w' => e = .returned (.bool true) ∧ Since w w' := by
  have H0 := Lib.hid h0
  clear h0
  have H1 := Lib.hid h1
  clear h1
  have H2 := Lib.hid h2
  clear h2
  have H3 := Lib.hid h3
  clear h3
  have H4 := Lib.hid h4
  clear h4
  go_enter Tryd.func10, Tryd.ntmps10
  go_upto_region 1 with fail
  obtain ⟨w1, hw1⟩ : ∃ w1, w1 = (w.alloc (.cells (pktC p) 25)) := ⟨_, rfl⟩
  rw [← hw1]
  have HBP1 := Lib.hid (show Blk w1 (w.heap.size) 25 (pktC p) by rw [hw1]; exact Blk.at_ (by (try simp only [size_alloc])) _ _)
  have HS1 := Lib.hid (show Since w w1 by rw [hw1]; exact Since.alloc (Since.refl w) _)
  have hNE : w.heap.size ≤ w.heap.size := by omega
  have HNE := Lib.hid hNE
  clear hNE hw1
  have HNE3 := Lib.hid (show w.heap.size ≤ w.heap.size from HNE.out)
  clear HNE
  refine wp_region_lit ?_
  refine wpList_q (by rfl) (.pointer (some ⟨w.heap.size, 0, none⟩)) ?he ?_
  case he => (first | rfl | (go_simp; (try with_reducible rfl)))
  (try simp only [Act.put, sA, sB, sC])
  refine wpList_q (by rfl) (.int .i64 p.se) ?he ?_
  case he => exact exec_cell 3 _ _ HBP1.out rfl rfl rfl Tryd.underlying3 rfl
  (try simp only [Act.put, sA, sB, sC])
  refine wpList_wp (by rfl) (fun K hK => ?_)
  refine wp_new (fun b => .slice (some ⟨b, 0, none⟩) 1 1) 3 #[.int .i64 p.se] (by rintro b rfl; first | rfl | kernel_rfl) ?_
  intro bn5 w2 hge hB hb
  refine hK.out _ _ ?_
  clear hK K
  (try simp only [Act.put, sA, sB, sC])
  have HNn5P := Lib.hid (show bn5 ≠ w.heap.size by have := Blk.lt HBP1.out; omega)
  have HGn5 := Lib.hid (show w.heap.size ≤ bn5 by have := Since.size HS1.out; omega)
  have HS2 := Lib.hid (Since.trans HS1.out hb)
  have HBP2 := Lib.hid (keep_blk hb HBP1.out)
  clear HS1 HBP1
  clear hb hge
  have HBn52 := Lib.hid hB
  clear hB
  refine wpList_wp (by rfl) (fun K hK => ?_)
  (try go_simp)
  refine (withinB 255 bn5 1 [p.se] true _ HBn52.out rfl (by omega) H0.out).mono ?_
  rintro e w' ⟨rfl, rfl⟩
  (try go_wp2_with fail)
  refine hK.out _ _ ?_
  clear hK K
  (try simp only [Act.put, sA, sB, sC])
  refine wpList_q (by rfl) (.bool false) ?he ?_
  case he => (go_simp; (try with_reducible rfl))
  (try simp only [Act.put, sA, sB, sC])
  refine wpList_q (by rfl) (.bool false) ?he ?_
  case he => (first | rfl | (go_simp; (try with_reducible rfl)))
  (try simp only [Act.put, sA, sB, sC])
  refine wpList_q (by rfl) (.pointer (some ⟨w.heap.size, 1, none⟩)) ?he ?_
  case he => (first | rfl | (go_simp; (try with_reducible rfl)))
  (try simp only [Act.put, sA, sB, sC])
  refine wpList_q (by rfl) (.int .i64 p.ep) ?he ?_
  case he => exact exec_cell 3 _ _ HBP2.out rfl rfl rfl Tryd.underlying3 rfl
  (try simp only [Act.put, sA, sB, sC])
  refine wpList_q (by rfl) (.pointer (some ⟨w.heap.size, 2, none⟩)) ?he ?_
  case he => (first | rfl | (go_simp; (try with_reducible rfl)))
  (try simp only [Act.put, sA, sB, sC])
  refine wpList_q (by rfl) (.int .i64 p.sq) ?he ?_
  case he => exact exec_cell 3 _ _ HBP2.out rfl rfl rfl Tryd.underlying3 rfl
  (try simp only [Act.put, sA, sB, sC])
  refine wpList_q (by rfl) (.pointer (some ⟨w.heap.size, 3, none⟩)) ?he ?_
  case he => (first | rfl | (go_simp; (try with_reducible rfl)))
  (try simp only [Act.put, sA, sB, sC])
  refine wpList_q (by rfl) (.int .i64 p.ak) ?he ?_
  case he => exact exec_cell 3 _ _ HBP2.out rfl rfl rfl Tryd.underlying3 rfl
  (try simp only [Act.put, sA, sB, sC])
  refine wpList_wp (by rfl) (fun K hK => ?_)
  refine wp_new (fun b => .slice (some ⟨b, 0, none⟩) 3 3) 3 #[.int .i64 p.ep, .int .i64 p.sq, .int .i64 p.ak] (by rintro b rfl; first | rfl | kernel_rfl) ?_
  intro bn15 w3 hge hB hb
  refine hK.out _ _ ?_
  clear hK K
  (try simp only [Act.put, sA, sB, sC])
  have HNn15P := Lib.hid (show bn15 ≠ w.heap.size by have := Blk.lt HBP2.out; omega)
  have HNn15n5 := Lib.hid (show bn15 ≠ bn5 by have := Blk.lt HBn52.out; omega)
  have HGn15 := Lib.hid (show w.heap.size ≤ bn15 by have := Since.size HS2.out; omega)
  have HS3 := Lib.hid (Since.trans HS2.out hb)
  have HBP3 := Lib.hid (keep_blk hb HBP2.out)
  have HBn53 := Lib.hid (keep_blk hb HBn52.out)
  clear HS2 HBP2 HBn52
  clear hb hge
  have HBn153 := Lib.hid hB
  clear hB
  refine wpList_wp (by rfl) (fun K hK => ?_)
  (try go_simp)
  refine (withinB 65535 bn15 3 [p.ep, p.sq, p.ak] true _ HBn153.out rfl (by omega) H1.out).mono ?_
  rintro e w' ⟨rfl, rfl⟩
  (try go_wp2_with fail)
  refine hK.out _ _ ?_
  clear hK K
  (try simp only [Act.put, sA, sB, sC])
  refine wpList_q (by rfl) (.bool false) ?he ?_
  case he => (go_simp; (try with_reducible rfl))
  (try simp only [Act.put, sA, sB, sC])
  refine wpList_q (by rfl) (.bool false) ?he ?_
  case he => (first | rfl | (go_simp; (try with_reducible rfl)))
  (try simp only [Act.put, sA, sB, sC])
  refine wpList_nil ?_
  go_upto_region 3 with fail
  refine wp_region_lit ?_
  refine wpList_q (by rfl) (.pointer (some ⟨w.heap.size, 4, none⟩)) ?he ?_
  case he => (first | rfl | (go_simp; (try with_reducible rfl)))
  (try simp only [Act.put, sA, sB, sC])
  refine wpList_q (by rfl) (.bool p.has) ?he ?_
  case he => exact exec_cell 4 _ _ HBP3.out rfl rfl rfl Tryd.underlying4 rfl
  (try simp only [Act.put, sA, sB, sC])
  refine wpList_q (by rfl) (.bool false) ?he ?_
  case he => (have hq := H2.out; go_simp; (try with_reducible rfl))
  (try simp only [Act.put, sA, sB, sC])
  refine wpList_nil ?_
  go_upto_region 5 with fail
  refine wp_region_lit ?_
  refine wpList_q (by rfl) (.pointer (some ⟨w.heap.size, 5, none⟩)) ?he ?_
  case he => (first | rfl | (go_simp; (try with_reducible rfl)))
  (try simp only [Act.put, sA, sB, sC])
  refine wpList_q (by rfl) (.pointer (some ⟨w.heap.size, 5, none⟩)) ?he ?_
  case he => (first | rfl | (go_simp; (try with_reducible rfl)))
  (try simp only [Act.put, sA, sB, sC])
  refine wpList_q (by rfl) (.int .i64 p.ki) ?he ?_
  case he => exact exec_cell 3 _ _ HBP3.out rfl rfl rfl Tryd.underlying3 rfl
  (try simp only [Act.put, sA, sB, sC])
  refine wpList_wp (by rfl) (fun K hK => ?_)
  (try go_simp)
  refine (knownB p.ki true _ H3.out).mono ?_
  rintro e w' ⟨rfl, rfl⟩
  (try go_wp2_with fail)
  refine hK.out _ _ ?_
  clear hK K
  (try simp only [Act.put, sA, sB, sC])
  refine wpList_q (by rfl) (.bool true) ?he ?_
  case he => (first | rfl | (go_simp; (try with_reducible rfl)))
  (try simp only [Act.put, sA, sB, sC])
  refine wpList_q (by rfl) (.pointer (some ⟨w.heap.size, 5, none⟩)) ?he ?_
  case he => (first | rfl | (go_simp; (try with_reducible rfl)))
  (try simp only [Act.put, sA, sB, sC])
  refine wpList_q (by rfl) (.pointer (some ⟨w.heap.size, 6, none⟩)) ?he ?_
  case he => (first | rfl | (go_simp; (try with_reducible rfl)))
  (try simp only [Act.put, sA, sB, sC])
  refine wpList_q (by rfl) (.int .i64 p.a) ?he ?_
  case he => exact exec_cell 3 _ _ HBP3.out rfl rfl rfl Tryd.underlying3 rfl
  (try simp only [Act.put, sA, sB, sC])
  refine wpList_q (by rfl) (.pointer (some ⟨w.heap.size, 5, none⟩)) ?he ?_
  case he => (first | rfl | (go_simp; (try with_reducible rfl)))
  (try simp only [Act.put, sA, sB, sC])
  refine wpList_q (by rfl) (.pointer (some ⟨w.heap.size, 7, none⟩)) ?he ?_
  case he => (first | rfl | (go_simp; (try with_reducible rfl)))
  (try simp only [Act.put, sA, sB, sC])
  refine wpList_q (by rfl) (.int .i64 p.b) ?he ?_
  case he => exact exec_cell 3 _ _ HBP3.out rfl rfl rfl Tryd.underlying3 rfl
  (try simp only [Act.put, sA, sB, sC])
  refine wpList_q (by rfl) (.pointer (some ⟨w.heap.size, 5, none⟩)) ?he ?_
  case he => (first | rfl | (go_simp; (try with_reducible rfl)))
  (try simp only [Act.put, sA, sB, sC])
  refine wpList_q (by rfl) (.pointer (some ⟨w.heap.size, 8, none⟩)) ?he ?_
  case he => (first | rfl | (go_simp; (try with_reducible rfl)))
  (try simp only [Act.put, sA, sB, sC])
  refine wpList_q (by rfl) (.int .i64 p.c) ?he ?_
  case he => exact exec_cell 3 _ _ HBP3.out rfl rfl rfl Tryd.underlying3 rfl
  (try simp only [Act.put, sA, sB, sC])
  refine wpList_wp (by rfl) (fun K hK => ?_)
  refine wp_new (fun b => .slice (some ⟨b, 0, none⟩) 3 3) 3 #[.int .i64 p.a, .int .i64 p.b, .int .i64 p.c] (by rintro b rfl; first | rfl | kernel_rfl) ?_
  intro bn40 w4 hge hB hb
  refine hK.out _ _ ?_
  clear hK K
  (try simp only [Act.put, sA, sB, sC])
  have HNn40P := Lib.hid (show bn40 ≠ w.heap.size by have := Blk.lt HBP3.out; omega)
  have HNn40n5 := Lib.hid (show bn40 ≠ bn5 by have := Blk.lt HBn53.out; omega)
  have HNn40n15 := Lib.hid (show bn40 ≠ bn15 by have := Blk.lt HBn153.out; omega)
  have HGn40 := Lib.hid (show w.heap.size ≤ bn40 by have := Since.size HS3.out; omega)
  have HS4 := Lib.hid (Since.trans HS3.out hb)
  have HBP4 := Lib.hid (keep_blk hb HBP3.out)
  have HBn54 := Lib.hid (keep_blk hb HBn53.out)
  have HBn154 := Lib.hid (keep_blk hb HBn153.out)
  clear HS3 HBP3 HBn53 HBn153
  clear hb hge
  have HBn404 := Lib.hid hB
  clear hB
  refine wpList_wp (by rfl) (fun K hK => ?_)
  (try go_simp)
  refine (withinB 2147483647 bn40 3 [p.a, p.b, p.c] true _ HBn404.out rfl (by omega) H4.out).mono ?_
  rintro e w' ⟨rfl, rfl⟩
  (try go_wp2_with fail)
  refine hK.out _ _ ?_
  clear hK K
  (try simp only [Act.put, sA, sB, sC])
  refine wpList_q (by rfl) (.bool true) ?he ?_
  case he => (first | rfl | (go_simp; (try with_reducible rfl)))
  (try simp only [Act.put, sA, sB, sC])
  refine wpList_q (by rfl) (.bool true) ?he ?_
  case he => (first | rfl | (go_simp; (try with_reducible rfl)))
  (try simp only [Act.put, sA, sB, sC])
  refine wpList_nil ?_
  (try go_wp2_with fail)
  go_ret
  exact ⟨rfl, HS4.out⟩
set_option maxHeartbeats 4000000 in
theorem goodF (p : PktV) (h0 : inB 255 [p.se] = true) (h1 : inB 65535 [p.ep, p.sq, p.ak] = true) (h2 : p.has = true) (h3 : decide (1 ≤ p.ki ∧ p.ki ≤ 16) = true) (h4 : inB 2147483647 [p.a, p.b, p.c] = false) (w : World) : Calls Tryd.prog 10 #[.agg (pktC p)] w fun e w' => e = .returned (.bool false) ∧ Since w w' := by
  have H0 := Lib.hid h0
  clear h0
  have H1 := Lib.hid h1
  clear h1
  have H2 := Lib.hid h2
  clear h2
  have H3 := Lib.hid h3
  clear h3
  have H4 := Lib.hid h4
  clear h4
  go_enter Tryd.func10, Tryd.ntmps10
  go_upto_region 1 with fail
  obtain ⟨w1, hw1⟩ : ∃ w1, w1 = (w.alloc (.cells (pktC p) 25)) := ⟨_, rfl⟩
  rw [← hw1]
  have HBP1 := Lib.hid (show Blk w1 (w.heap.size) 25 (pktC p) by rw [hw1]; exact Blk.at_ (by (try simp only [size_alloc])) _ _)
  have HS1 := Lib.hid (show Since w w1 by rw [hw1]; exact Since.alloc (Since.refl w) _)
  have hNE : w.heap.size ≤ w.heap.size := by omega
  have HNE := Lib.hid hNE
  clear hNE hw1
  have HNE3 := Lib.hid (show w.heap.size ≤ w.heap.size from HNE.out)
  clear HNE
  refine wp_region_lit ?_
  refine wpList_q (by rfl) (.pointer (some ⟨w.heap.size, 0, none⟩)) ?he ?_
  case he => (first | rfl | (go_simp; (try with_reducible rfl)))
  (try simp only [Act.put, sA, sB, sC])
  refine wpList_q (by rfl) (.int .i64 p.se) ?he ?_
  case he => exact exec_cell 3 _ _ HBP1.out rfl rfl rfl Tryd.underlying3 rfl
  (try simp only [Act.put, sA, sB, sC])
  refine wpList_wp (by rfl) (fun K hK => ?_)
  refine wp_new (fun b => .slice (some ⟨b, 0, none⟩) 1 1) 3 #[.int .i64 p.se] (by rintro b rfl; first | rfl | kernel_rfl) ?_
  intro bn5 w2 hge hB hb
  refine hK.out _ _ ?_
  clear hK K
  (try simp only [Act.put, sA, sB, sC])
  have HNn5P := Lib.hid (show bn5 ≠ w.heap.size by have := Blk.lt HBP1.out; omega)
  have HGn5 := Lib.hid (show w.heap.size ≤ bn5 by have := Since.size HS1.out; omega)
  have HS2 := Lib.hid (Since.trans HS1.out hb)
  have HBP2 := Lib.hid (keep_blk hb HBP1.out)
  clear HS1 HBP1
  clear hb hge
  have HBn52 := Lib.hid hB
  clear hB
  refine wpList_wp (by rfl) (fun K hK => ?_)
  (try go_simp)
  refine (withinB 255 bn5 1 [p.se] true _ HBn52.out rfl (by omega) H0.out).mono ?_
  rintro e w' ⟨rfl, rfl⟩
  (try go_wp2_with fail)
  refine hK.out _ _ ?_
  clear hK K
  (try simp only [Act.put, sA, sB, sC])
  refine wpList_q (by rfl) (.bool false) ?he ?_
  case he => (go_simp; (try with_reducible rfl))
  (try simp only [Act.put, sA, sB, sC])
  refine wpList_q (by rfl) (.bool false) ?he ?_
  case he => (first | rfl | (go_simp; (try with_reducible rfl)))
  (try simp only [Act.put, sA, sB, sC])
  refine wpList_q (by rfl) (.pointer (some ⟨w.heap.size, 1, none⟩)) ?he ?_
  case he => (first | rfl | (go_simp; (try with_reducible rfl)))
  (try simp only [Act.put, sA, sB, sC])
  refine wpList_q (by rfl) (.int .i64 p.ep) ?he ?_
  case he => exact exec_cell 3 _ _ HBP2.out rfl rfl rfl Tryd.underlying3 rfl
  (try simp only [Act.put, sA, sB, sC])
  refine wpList_q (by rfl) (.pointer (some ⟨w.heap.size, 2, none⟩)) ?he ?_
  case he => (first | rfl | (go_simp; (try with_reducible rfl)))
  (try simp only [Act.put, sA, sB, sC])
  refine wpList_q (by rfl) (.int .i64 p.sq) ?he ?_
  case he => exact exec_cell 3 _ _ HBP2.out rfl rfl rfl Tryd.underlying3 rfl
  (try simp only [Act.put, sA, sB, sC])
  refine wpList_q (by rfl) (.pointer (some ⟨w.heap.size, 3, none⟩)) ?he ?_
  case he => (first | rfl | (go_simp; (try with_reducible rfl)))
  (try simp only [Act.put, sA, sB, sC])
  refine wpList_q (by rfl) (.int .i64 p.ak) ?he ?_
  case he => exact exec_cell 3 _ _ HBP2.out rfl rfl rfl Tryd.underlying3 rfl
  (try simp only [Act.put, sA, sB, sC])
  refine wpList_wp (by rfl) (fun K hK => ?_)
  refine wp_new (fun b => .slice (some ⟨b, 0, none⟩) 3 3) 3 #[.int .i64 p.ep, .int .i64 p.sq, .int .i64 p.ak] (by rintro b rfl; first | rfl | kernel_rfl) ?_
  intro bn15 w3 hge hB hb
  refine hK.out _ _ ?_
  clear hK K
  (try simp only [Act.put, sA, sB, sC])
  have HNn15P := Lib.hid (show bn15 ≠ w.heap.size by have := Blk.lt HBP2.out; omega)
  have HNn15n5 := Lib.hid (show bn15 ≠ bn5 by have := Blk.lt HBn52.out; omega)
  have HGn15 := Lib.hid (show w.heap.size ≤ bn15 by have := Since.size HS2.out; omega)
  have HS3 := Lib.hid (Since.trans HS2.out hb)
  have HBP3 := Lib.hid (keep_blk hb HBP2.out)
  have HBn53 := Lib.hid (keep_blk hb HBn52.out)
  clear HS2 HBP2 HBn52
  clear hb hge
  have HBn153 := Lib.hid hB
  clear hB
  refine wpList_wp (by rfl) (fun K hK => ?_)
  (try go_simp)
  refine (withinB 65535 bn15 3 [p.ep, p.sq, p.ak] true _ HBn153.out rfl (by omega) H1.out).mono ?_
  rintro e w' ⟨rfl, rfl⟩
  (try go_wp2_with fail)
  refine hK.out _ _ ?_
  clear hK K
  (try simp only [Act.put, sA, sB, sC])
  refine wpList_q (by rfl) (.bool false) ?he ?_
  case he => (go_simp; (try with_reducible rfl))
  (try simp only [Act.put, sA, sB, sC])
  refine wpList_q (by rfl) (.bool false) ?he ?_
  case he => (first | rfl | (go_simp; (try with_reducible rfl)))
  (try simp only [Act.put, sA, sB, sC])
  refine wpList_nil ?_
  go_upto_region 3 with fail
  refine wp_region_lit ?_
  refine wpList_q (by rfl) (.pointer (some ⟨w.heap.size, 4, none⟩)) ?he ?_
  case he => (first | rfl | (go_simp; (try with_reducible rfl)))
  (try simp only [Act.put, sA, sB, sC])
  refine wpList_q (by rfl) (.bool p.has) ?he ?_
  case he => exact exec_cell 4 _ _ HBP3.out rfl rfl rfl Tryd.underlying4 rfl
  (try simp only [Act.put, sA, sB, sC])
  refine wpList_q (by rfl) (.bool false) ?he ?_
  case he => (have hq := H2.out; go_simp; (try with_reducible rfl))
  (try simp only [Act.put, sA, sB, sC])
  refine wpList_nil ?_
  go_upto_region 5 with fail
  refine wp_region_lit ?_
  refine wpList_q (by rfl) (.pointer (some ⟨w.heap.size, 5, none⟩)) ?he ?_
  case he => (first | rfl | (go_simp; (try with_reducible rfl)))
  (try simp only [Act.put, sA, sB, sC])
  refine wpList_q (by rfl) (.pointer (some ⟨w.heap.size, 5, none⟩)) ?he ?_
  case he => (first | rfl | (go_simp; (try with_reducible rfl)))
  (try simp only [Act.put, sA, sB, sC])
  refine wpList_q (by rfl) (.int .i64 p.ki) ?he ?_
  case he => exact exec_cell 3 _ _ HBP3.out rfl rfl rfl Tryd.underlying3 rfl
  (try simp only [Act.put, sA, sB, sC])
  refine wpList_wp (by rfl) (fun K hK => ?_)
  (try go_simp)
  refine (knownB p.ki true _ H3.out).mono ?_
  rintro e w' ⟨rfl, rfl⟩
  (try go_wp2_with fail)
  refine hK.out _ _ ?_
  clear hK K
  (try simp only [Act.put, sA, sB, sC])
  refine wpList_q (by rfl) (.bool true) ?he ?_
  case he => (first | rfl | (go_simp; (try with_reducible rfl)))
  (try simp only [Act.put, sA, sB, sC])
  refine wpList_q (by rfl) (.pointer (some ⟨w.heap.size, 5, none⟩)) ?he ?_
  case he => (first | rfl | (go_simp; (try with_reducible rfl)))
  (try simp only [Act.put, sA, sB, sC])
  refine wpList_q (by rfl) (.pointer (some ⟨w.heap.size, 6, none⟩)) ?he ?_
  case he => (first | rfl | (go_simp; (try with_reducible rfl)))
  (try simp only [Act.put, sA, sB, sC])
  refine wpList_q (by rfl) (.int .i64 p.a) ?he ?_
  case he => exact exec_cell 3 _ _ HBP3.out rfl rfl rfl Tryd.underlying3 rfl
  (try simp only [Act.put, sA, sB, sC])
  refine wpList_q (by rfl) (.pointer (some ⟨w.heap.size, 5, none⟩)) ?he ?_
  case he => (first | rfl | (go_simp; (try with_reducible rfl)))
  (try simp only [Act.put, sA, sB, sC])
  refine wpList_q (by rfl) (.pointer (some ⟨w.heap.size, 7, none⟩)) ?he ?_
  case he => (first | rfl | (go_simp; (try with_reducible rfl)))
  (try simp only [Act.put, sA, sB, sC])
  refine wpList_q (by rfl) (.int .i64 p.b) ?he ?_
  case he => exact exec_cell 3 _ _ HBP3.out rfl rfl rfl Tryd.underlying3 rfl
  (try simp only [Act.put, sA, sB, sC])
  refine wpList_q (by rfl) (.pointer (some ⟨w.heap.size, 5, none⟩)) ?he ?_
  case he => (first | rfl | (go_simp; (try with_reducible rfl)))
  (try simp only [Act.put, sA, sB, sC])
  refine wpList_q (by rfl) (.pointer (some ⟨w.heap.size, 8, none⟩)) ?he ?_
  case he => (first | rfl | (go_simp; (try with_reducible rfl)))
  (try simp only [Act.put, sA, sB, sC])
  refine wpList_q (by rfl) (.int .i64 p.c) ?he ?_
  case he => exact exec_cell 3 _ _ HBP3.out rfl rfl rfl Tryd.underlying3 rfl
  (try simp only [Act.put, sA, sB, sC])
  refine wpList_wp (by rfl) (fun K hK => ?_)
  refine wp_new (fun b => .slice (some ⟨b, 0, none⟩) 3 3) 3 #[.int .i64 p.a, .int .i64 p.b, .int .i64 p.c] (by rintro b rfl; first | rfl | kernel_rfl) ?_
  intro bn40 w4 hge hB hb
  refine hK.out _ _ ?_
  clear hK K
  (try simp only [Act.put, sA, sB, sC])
  have HNn40P := Lib.hid (show bn40 ≠ w.heap.size by have := Blk.lt HBP3.out; omega)
  have HNn40n5 := Lib.hid (show bn40 ≠ bn5 by have := Blk.lt HBn53.out; omega)
  have HNn40n15 := Lib.hid (show bn40 ≠ bn15 by have := Blk.lt HBn153.out; omega)
  have HGn40 := Lib.hid (show w.heap.size ≤ bn40 by have := Since.size HS3.out; omega)
  have HS4 := Lib.hid (Since.trans HS3.out hb)
  have HBP4 := Lib.hid (keep_blk hb HBP3.out)
  have HBn54 := Lib.hid (keep_blk hb HBn53.out)
  have HBn154 := Lib.hid (keep_blk hb HBn153.out)
  clear HS3 HBP3 HBn53 HBn153
  clear hb hge
  have HBn404 := Lib.hid hB
  clear hB
  refine wpList_wp (by rfl) (fun K hK => ?_)
  (try go_simp)
  refine (withinB 2147483647 bn40 3 [p.a, p.b, p.c] false _ HBn404.out rfl (by omega) H4.out).mono ?_
  rintro e w' ⟨rfl, rfl⟩
  (try go_wp2_with fail)
  refine hK.out _ _ ?_
  clear hK K
  (try simp only [Act.put, sA, sB, sC])
  refine wpList_q (by rfl) (.bool false) ?he ?_
  case he => (first | rfl | (go_simp; (try with_reducible rfl)))
  (try simp only [Act.put, sA, sB, sC])
  refine wpList_q (by rfl) (.bool false) ?he ?_
  case he => (first | rfl | (go_simp; (try with_reducible rfl)))
  (try simp only [Act.put, sA, sB, sC])
  refine wpList_nil ?_
  (try go_wp2_with fail)
  go_ret
  exact ⟨rfl, HS4.out⟩
theorem goodT (p : PktV) (w : World) : Calls Tryd.prog 10 #[.agg (pktC p)] w fun e w' => e = .returned (.bool (mayB p)) ∧ Since w w' := by
  cases h0 : inB 255 [p.se]
  · rw [show mayB p = false by unfold mayB; rw [head_in, h0]; rfl]; exact goodA p h0 w
  cases h1 : inB 65535 [p.ep, p.sq, p.ak]
  · rw [show mayB p = false by unfold mayB; rw [head_in, h0, h1]; rfl]; exact goodB_ p h0 h1 w
  cases h2 : p.has
  · rw [show mayB p = noMsg p by rw [may_not h2, head_in, h0, h1]; rfl]; exact goodC p h0 h1 h2 w
  cases h3 : decide (1 ≤ p.ki ∧ p.ki ≤ 16)
  · rw [show mayB p = false by rw [may_has h2, head_in, h0, h1, msg_in, h3]; rfl]; exact goodD p h0 h1 h2 h3 w
  cases h4 : inB 2147483647 [p.a, p.b, p.c]
  · rw [show mayB p = false by rw [may_has h2, head_in, h0, h1, msg_in, h3, h4]; rfl]; exact goodF p h0 h1 h2 h3 h4 w
  · rw [show mayB p = true by rw [may_has h2, head_in, h0, h1, msg_in, h3, h4]; rfl]; exact goodE p h0 h1 h2 h3 h4 w
set_option maxHeartbeats 4000000 in
theorem mayMsg0 (p : PktV) (h0 : ¬ (1 ≤ p.ki)) (w : World) : Calls Tryd.prog 18 #[.agg (msgC p)] w fun e w' => e = .returned (.bool false) ∧ Since w w' := by
  have H0 := Lib.hid h0
  clear h0
  go_enter Tryd.func18, Tryd.ntmps18
  go_upto_region 1 with fail
  obtain ⟨w1, hw1⟩ : ∃ w1, w1 = (w.alloc (.cells (msgC p) 23)) := ⟨_, rfl⟩
  rw [← hw1]
  have HBM1 := Lib.hid (show Blk w1 (w.heap.size) 23 (msgC p) by rw [hw1]; exact Blk.at_ (by (try simp only [size_alloc])) _ _)
  have HS1 := Lib.hid (show Since w w1 by rw [hw1]; exact Since.alloc (Since.refl w) _)
  have hNE : w.heap.size ≤ w.heap.size := by omega
  have HNE := Lib.hid hNE
  clear hNE hw1
  have HNE3 := Lib.hid (show w.heap.size ≤ w.heap.size from HNE.out)
  clear HNE
  refine wp_region_lit ?_
  refine wpList_q (by rfl) (.pointer (some ⟨w.heap.size, 0, none⟩)) ?he ?_
  case he => (first | rfl | (go_simp; (try with_reducible rfl)))
  (try simp only [Act.put, sA, sB, sC])
  refine wpList_q (by rfl) (.int .i64 p.ki) ?he ?_
  case he => exact exec_cell 3 _ _ HBM1.out rfl rfl rfl Tryd.underlying3 rfl
  (try simp only [Act.put, sA, sB, sC])
  refine wpList_q (by rfl) (.bool false) ?he ?_
  case he => (go_simp; (first | done | (have q := H0.out; omega)))
  (try simp only [Act.put, sA, sB, sC])
  refine wpList_q (by rfl) (.bool false) ?he ?_
  case he => (first | rfl | (go_simp; (try with_reducible rfl)))
  (try simp only [Act.put, sA, sB, sC])
  refine wpList_no (by rfl) ?_
  (try simp only [Act.put, sA, sB, sC])
  refine wpList_no (by rfl) ?_
  (try simp only [Act.put, sA, sB, sC])
  refine wpList_no (by rfl) ?_
  (try simp only [Act.put, sA, sB, sC])
  refine wpList_q (by rfl) (.bool false) ?he ?_
  case he => (first | rfl | (go_simp; (try with_reducible rfl)))
  (try simp only [Act.put, sA, sB, sC])
  refine wpList_q (by rfl) (.bool false) ?he ?_
  case he => (first | rfl | (go_simp; (try with_reducible rfl)))
  (try simp only [Act.put, sA, sB, sC])
  refine wpList_no (by rfl) ?_
  (try simp only [Act.put, sA, sB, sC])
  refine wpList_no (by rfl) ?_
  (try simp only [Act.put, sA, sB, sC])
  refine wpList_no (by rfl) ?_
  (try simp only [Act.put, sA, sB, sC])
  refine wpList_q (by rfl) (.bool false) ?he ?_
  case he => (first | rfl | (go_simp; (try with_reducible rfl)))
  (try simp only [Act.put, sA, sB, sC])
  refine wpList_q (by rfl) (.bool false) ?he ?_
  case he => (first | rfl | (go_simp; (try with_reducible rfl)))
  (try simp only [Act.put, sA, sB, sC])
  refine wpList_no (by rfl) ?_
  (try simp only [Act.put, sA, sB, sC])
  refine wpList_no (by rfl) ?_
  (try simp only [Act.put, sA, sB, sC])
  refine wpList_no (by rfl) ?_
  (try simp only [Act.put, sA, sB, sC])
  refine wpList_q (by rfl) (.bool false) ?he ?_
  case he => (first | rfl | (go_simp; (try with_reducible rfl)))
  (try simp only [Act.put, sA, sB, sC])
  refine wpList_q (by rfl) (.bool false) ?he ?_
  case he => (first | rfl | (go_simp; (try with_reducible rfl)))
  (try simp only [Act.put, sA, sB, sC])
  refine wpList_no (by rfl) ?_
  (try simp only [Act.put, sA, sB, sC])
  refine wpList_no (by rfl) ?_
  (try simp only [Act.put, sA, sB, sC])
  refine wpList_no (by rfl) ?_
  (try simp only [Act.put, sA, sB, sC])
  refine wpList_q (by rfl) (.bool false) ?he ?_
  case he => (first | rfl | (go_simp; (try with_reducible rfl)))
  (try simp only [Act.put, sA, sB, sC])
  refine wpList_q (by rfl) (.bool false) ?he ?_
  case he => (first | rfl | (go_simp; (try with_reducible rfl)))
  (try simp only [Act.put, sA, sB, sC])
  refine wpList_no (by rfl) ?_
  (try simp only [Act.put, sA, sB, sC])
  refine wpList_no (by rfl) ?_
  (try simp only [Act.put, sA, sB, sC])
  refine wpList_no (by rfl) ?_
  (try simp only [Act.put, sA, sB, sC])
  refine wpList_q (by rfl) (.bool false) ?he ?_
  case he => (first | rfl | (go_simp; (try with_reducible rfl)))
  (try simp only [Act.put, sA, sB, sC])
  refine wpList_q (by rfl) (.bool false) ?he ?_
  case he => (first | rfl | (go_simp; (try with_reducible rfl)))
  (try simp only [Act.put, sA, sB, sC])
  refine wpList_no (by rfl) ?_
  (try simp only [Act.put, sA, sB, sC])
  refine wpList_no (by rfl) ?_
  (try simp only [Act.put, sA, sB, sC])
  refine wpList_no (by rfl) ?_
  (try simp only [Act.put, sA, sB, sC])
  refine wpList_q (by rfl) (.bool false) ?he ?_
  case he => (first | rfl | (go_simp; (try with_reducible rfl)))
  (try simp only [Act.put, sA, sB, sC])
  refine wpList_q (by rfl) (.bool false) ?he ?_
  case he => (first | rfl | (go_simp; (try with_reducible rfl)))
  (try simp only [Act.put, sA, sB, sC])
  refine wpList_no (by rfl) ?_
  (try simp only [Act.put, sA, sB, sC])
  refine wpList_no (by rfl) ?_
  (try simp only [Act.put, sA, sB, sC])
  refine wpList_no (by rfl) ?_
  (try simp only [Act.put, sA, sB, sC])
  refine wpList_q (by rfl) (.bool false) ?he ?_
  case he => (first | rfl | (go_simp; (try with_reducible rfl)))
  (try simp only [Act.put, sA, sB, sC])
  refine wpList_q (by rfl) (.bool false) ?he ?_
  case he => (first | rfl | (go_simp; (try with_reducible rfl)))
  (try simp only [Act.put, sA, sB, sC])
  refine wpList_nil ?_
  (try go_wp2_with fail)
  go_ret
  exact ⟨rfl, HS1.out⟩
set_option maxHeartbeats 4000000 in
theorem mayMsg1 (p : PktV) (h0 : 1 ≤ p.ki) (h1 : ¬ (p.ki ≤ 16)) (w : World) : Calls Tryd.prog 18 #[.agg (msgC p)] w fun e w' => e = .returned (.bool false) ∧ Since w w' := by
  have H0 := Lib.hid h0
  clear h0
  have H1 := Lib.hid h1
  clear h1
  go_enter Tryd.func18, Tryd.ntmps18
  go_upto_region 1 with fail
  obtain ⟨w1, hw1⟩ : ∃ w1, w1 = (w.alloc (.cells (msgC p) 23)) := ⟨_, rfl⟩
  rw [← hw1]
  have HBM1 := Lib.hid (show Blk w1 (w.heap.size) 23 (msgC p) by rw [hw1]; exact Blk.at_ (by (try simp only [size_alloc])) _ _)
  have HS1 := Lib.hid (show Since w w1 by rw [hw1]; exact Since.alloc (Since.refl w) _)
  have hNE : w.heap.size ≤ w.heap.size := by omega
  have HNE := Lib.hid hNE
  clear hNE hw1
  have HNE3 := Lib.hid (show w.heap.size ≤ w.heap.size from HNE.out)
  clear HNE
  refine wp_region_lit ?_
  refine wpList_q (by rfl) (.pointer (some ⟨w.heap.size, 0, none⟩)) ?he ?_
  case he => (first | rfl | (go_simp; (try with_reducible rfl)))
  (try simp only [Act.put, sA, sB, sC])
  refine wpList_q (by rfl) (.int .i64 p.ki) ?he ?_
  case he => exact exec_cell 3 _ _ HBM1.out rfl rfl rfl Tryd.underlying3 rfl
  (try simp only [Act.put, sA, sB, sC])
  refine wpList_q (by rfl) (.bool true) ?he ?_
  case he => (go_simp; (first | done | (have q := H0.out; omega)))
  (try simp only [Act.put, sA, sB, sC])
  refine wpList_q (by rfl) (.bool true) ?he ?_
  case he => (first | rfl | (go_simp; (try with_reducible rfl)))
  (try simp only [Act.put, sA, sB, sC])
  refine wpList_q (by rfl) (.pointer (some ⟨w.heap.size, 0, none⟩)) ?he ?_
  case he => (first | rfl | (go_simp; (try with_reducible rfl)))
  (try simp only [Act.put, sA, sB, sC])
  refine wpList_q (by rfl) (.int .i64 p.ki) ?he ?_
  case he => exact exec_cell 3 _ _ HBM1.out rfl rfl rfl Tryd.underlying3 rfl
  (try simp only [Act.put, sA, sB, sC])
  refine wpList_q (by rfl) (.bool false) ?he ?_
  case he => (go_simp; (first | done | (have q := H1.out; omega)))
  (try simp only [Act.put, sA, sB, sC])
  refine wpList_q (by rfl) (.bool false) ?he ?_
  case he => (first | rfl | (go_simp; (try with_reducible rfl)))
  (try simp only [Act.put, sA, sB, sC])
  refine wpList_q (by rfl) (.bool false) ?he ?_
  case he => (first | rfl | (go_simp; (try with_reducible rfl)))
  (try simp only [Act.put, sA, sB, sC])
  refine wpList_no (by rfl) ?_
  (try simp only [Act.put, sA, sB, sC])
  refine wpList_no (by rfl) ?_
  (try simp only [Act.put, sA, sB, sC])
  refine wpList_no (by rfl) ?_
  (try simp only [Act.put, sA, sB, sC])
  refine wpList_q (by rfl) (.bool false) ?he ?_
  case he => (first | rfl | (go_simp; (try with_reducible rfl)))
  (try simp only [Act.put, sA, sB, sC])
  refine wpList_q (by rfl) (.bool false) ?he ?_
  case he => (first | rfl | (go_simp; (try with_reducible rfl)))
  (try simp only [Act.put, sA, sB, sC])
  refine wpList_no (by rfl) ?_
  (try simp only [Act.put, sA, sB, sC])
  refine wpList_no (by rfl) ?_
  (try simp only [Act.put, sA, sB, sC])
  refine wpList_no (by rfl) ?_
  (try simp only [Act.put, sA, sB, sC])
  refine wpList_q (by rfl) (.bool false) ?he ?_
  case he => (first | rfl | (go_simp; (try with_reducible rfl)))
  (try simp only [Act.put, sA, sB, sC])
  refine wpList_q (by rfl) (.bool false) ?he ?_
  case he => (first | rfl | (go_simp; (try with_reducible rfl)))
  (try simp only [Act.put, sA, sB, sC])
  refine wpList_no (by rfl) ?_
  (try simp only [Act.put, sA, sB, sC])
  refine wpList_no (by rfl) ?_
  (try simp only [Act.put, sA, sB, sC])
  refine wpList_no (by rfl) ?_
  (try simp only [Act.put, sA, sB, sC])
  refine wpList_q (by rfl) (.bool false) ?he ?_
  case he => (first | rfl | (go_simp; (try with_reducible rfl)))
  (try simp only [Act.put, sA, sB, sC])
  refine wpList_q (by rfl) (.bool false) ?he ?_
  case he => (first | rfl | (go_simp; (try with_reducible rfl)))
  (try simp only [Act.put, sA, sB, sC])
  refine wpList_no (by rfl) ?_
  (try simp only [Act.put, sA, sB, sC])
  refine wpList_no (by rfl) ?_
  (try simp only [Act.put, sA, sB, sC])
  refine wpList_no (by rfl) ?_
  (try simp only [Act.put, sA, sB, sC])
  refine wpList_q (by rfl) (.bool false) ?he ?_
  case he => (first | rfl | (go_simp; (try with_reducible rfl)))
  (try simp only [Act.put, sA, sB, sC])
  refine wpList_q (by rfl) (.bool false) ?he ?_
  case he => (first | rfl | (go_simp; (try with_reducible rfl)))
  (try simp only [Act.put, sA, sB, sC])
  refine wpList_no (by rfl) ?_
  (try simp only [Act.put, sA, sB, sC])
  refine wpList_no (by rfl) ?_
  (try simp only [Act.put, sA, sB, sC])
  refine wpList_no (by rfl) ?_
  (try simp only [Act.put, sA, sB, sC])
  refine wpList_q (by rfl) (.bool false) ?he ?_
  case he => (first | rfl | (go_simp; (try with_reducible rfl)))
  (try simp only [Act.put, sA, sB, sC])
  refine wpList_q (by rfl) (.bool false) ?he ?_
  case he => (first | rfl | (go_simp; (try with_reducible rfl)))
  (try simp only [Act.put, sA, sB, sC])
  refine wpList_no (by rfl) ?_
  (try simp only [Act.put, sA, sB, sC])
  refine wpList_no (by rfl) ?_
  (try simp only [Act.put, sA, sB, sC])
  refine wpList_no (by rfl) ?_
  (try simp only [Act.put, sA, sB, sC])
  refine wpList_q (by rfl) (.bool false) ?he ?_
  case he => (first | rfl | (go_simp; (try with_reducible rfl)))
  (try simp only [Act.put, sA, sB, sC])
  refine wpList_q (by rfl) (.bool false) ?he ?_
  case he => (first | rfl | (go_simp; (try with_reducible rfl)))
  (try simp only [Act.put, sA, sB, sC])
  refine wpList_nil ?_
  (try go_wp2_with fail)
  go_ret
  exact ⟨rfl, HS1.out⟩
set_option maxHeartbeats 4000000 in
theorem mayMsg2 (p : PktV) (h0 : 1 ≤ p.ki) (h1 : p.ki ≤ 16) (h2 : ¬ (0 ≤ p.a)) (w : World) : Calls Tryd.prog 18 #[.agg (msgC p)] w fun e w' => e = .returned (.bool false) ∧ Since w w' := by
  have H0 := Lib.hid h0
  clear h0
  have H1 := Lib.hid h1
  clear h1
  have H2 := Lib.hid h2
  clear h2
  go_enter Tryd.func18, Tryd.ntmps18
  go_upto_region 1 with fail
  obtain ⟨w1, hw1⟩ : ∃ w1, w1 = (w.alloc (.cells (msgC p) 23)) := ⟨_, rfl⟩
  rw [← hw1]
  have HBM1 := Lib.hid (show Blk w1 (w.heap.size) 23 (msgC p) by rw [hw1]; exact Blk.at_ (by (try simp only [size_alloc])) _ _)
  have HS1 := Lib.hid (show Since w w1 by rw [hw1]; exact Since.alloc (Since.refl w) _)
  have hNE : w.heap.size ≤ w.heap.size := by omega
  have HNE := Lib.hid hNE
  clear hNE hw1
  have HNE3 := Lib.hid (show w.heap.size ≤ w.heap.size from HNE.out)
  clear HNE
  refine wp_region_lit ?_
  refine wpList_q (by rfl) (.pointer (some ⟨w.heap.size, 0, none⟩)) ?he ?_
  case he => (first | rfl | (go_simp; (try with_reducible rfl)))
  (try simp only [Act.put, sA, sB, sC])
  refine wpList_q (by rfl) (.int .i64 p.ki) ?he ?_
  case he => exact exec_cell 3 _ _ HBM1.out rfl rfl rfl Tryd.underlying3 rfl
  (try simp only [Act.put, sA, sB, sC])
  refine wpList_q (by rfl) (.bool true) ?he ?_
  case he => (go_simp; (first | done | (have q := H0.out; omega)))
  (try simp only [Act.put, sA, sB, sC])
  refine wpList_q (by rfl) (.bool true) ?he ?_
  case he => (first | rfl | (go_simp; (try with_reducible rfl)))
  (try simp only [Act.put, sA, sB, sC])
  refine wpList_q (by rfl) (.pointer (some ⟨w.heap.size, 0, none⟩)) ?he ?_
  case he => (first | rfl | (go_simp; (try with_reducible rfl)))
  (try simp only [Act.put, sA, sB, sC])
  refine wpList_q (by rfl) (.int .i64 p.ki) ?he ?_
  case he => exact exec_cell 3 _ _ HBM1.out rfl rfl rfl Tryd.underlying3 rfl
  (try simp only [Act.put, sA, sB, sC])
  refine wpList_q (by rfl) (.bool true) ?he ?_
  case he => (go_simp; (first | done | (have q := H1.out; omega)))
  (try simp only [Act.put, sA, sB, sC])
  refine wpList_q (by rfl) (.bool true) ?he ?_
  case he => (first | rfl | (go_simp; (try with_reducible rfl)))
  (try simp only [Act.put, sA, sB, sC])
  refine wpList_q (by rfl) (.bool true) ?he ?_
  case he => (first | rfl | (go_simp; (try with_reducible rfl)))
  (try simp only [Act.put, sA, sB, sC])
  refine wpList_q (by rfl) (.pointer (some ⟨w.heap.size, 1, none⟩)) ?he ?_
  case he => (first | rfl | (go_simp; (try with_reducible rfl)))
  (try simp only [Act.put, sA, sB, sC])
  refine wpList_q (by rfl) (.int .i64 p.a) ?he ?_
  case he => exact exec_cell 3 _ _ HBM1.out rfl rfl rfl Tryd.underlying3 rfl
  (try simp only [Act.put, sA, sB, sC])
  refine wpList_q (by rfl) (.bool false) ?he ?_
  case he => (go_simp; (first | done | (have q := H2.out; omega)))
  (try simp only [Act.put, sA, sB, sC])
  refine wpList_q (by rfl) (.bool false) ?he ?_
  case he => (first | rfl | (go_simp; (try with_reducible rfl)))
  (try simp only [Act.put, sA, sB, sC])
  refine wpList_q (by rfl) (.bool false) ?he ?_
  case he => (first | rfl | (go_simp; (try with_reducible rfl)))
  (try simp only [Act.put, sA, sB, sC])
  refine wpList_no (by rfl) ?_
  (try simp only [Act.put, sA, sB, sC])
  refine wpList_no (by rfl) ?_
  (try simp only [Act.put, sA, sB, sC])
  refine wpList_no (by rfl) ?_
  (try simp only [Act.put, sA, sB, sC])
  refine wpList_q (by rfl) (.bool false) ?he ?_
  case he => (first | rfl | (go_simp; (try with_reducible rfl)))
  (try simp only [Act.put, sA, sB, sC])
  refine wpList_q (by rfl) (.bool false) ?he ?_
  case he => (first | rfl | (go_simp; (try with_reducible rfl)))
  (try simp only [Act.put, sA, sB, sC])
  refine wpList_no (by rfl) ?_
  (try simp only [Act.put, sA, sB, sC])
  refine wpList_no (by rfl) ?_
  (try simp only [Act.put, sA, sB, sC])
  refine wpList_no (by rfl) ?_
  (try simp only [Act.put, sA, sB, sC])
  refine wpList_q (by rfl) (.bool false) ?he ?_
  case he => (first | rfl | (go_simp; (try with_reducible rfl)))
  (try simp only [Act.put, sA, sB, sC])
  refine wpList_q (by rfl) (.bool false) ?he ?_
  case he => (first | rfl | (go_simp; (try with_reducible rfl)))
  (try simp only [Act.put, sA, sB, sC])
  refine wpList_no (by rfl) ?_
  (try simp only [Act.put, sA, sB, sC])
  refine wpList_no (by rfl) ?_
  (try simp only [Act.put, sA, sB, sC])
  refine wpList_no (by rfl) ?_
  (try simp only [Act.put, sA, sB, sC])
  refine wpList_q (by rfl) (.bool false) ?he ?_
  case he => (first | rfl | (go_simp; (try with_reducible rfl)))
  (try simp only [Act.put, sA, sB, sC])
  refine wpList_q (by rfl) (.bool false) ?he ?_
  case he => (first | rfl | (go_simp; (try with_reducible rfl)))
  (try simp only [Act.put, sA, sB, sC])
  refine wpList_no (by rfl) ?_
  (try simp only [Act.put, sA, sB, sC])
  refine wpList_no (by rfl) ?_
  (try simp only [Act.put, sA, sB, sC])
  refine wpList_no (by rfl) ?_
  (try simp only [Act.put, sA, sB, sC])
  refine wpList_q (by rfl) (.bool false) ?he ?_
  case he => (first | rfl | (go_simp; (try with_reducible rfl)))
  (try simp only [Act.put, sA, sB, sC])
  refine wpList_q (by rfl) (.bool false) ?he ?_
  case he => (first | rfl | (go_simp; (try with_reducible rfl)))
  (try simp only [Act.put, sA, sB, sC])
  refine wpList_no (by rfl) ?_
  (try simp only [Act.put, sA, sB, sC])
  refine wpList_no (by rfl) ?_
  (try simp only [Act.put, sA, sB, sC])
  refine wpList_no (by rfl) ?_
  (try simp only [Act.put, sA, sB, sC])
  refine wpList_q (by rfl) (.bool false) ?he ?_
  case he => (first | rfl | (go_simp; (try with_reducible rfl)))
  (try simp only [Act.put, sA, sB, sC])
  refine wpList_q (by rfl) (.bool false) ?he ?_
  case he => (first | rfl | (go_simp; (try with_reducible rfl)))
  (try simp only [Act.put, sA, sB, sC])
  refine wpList_nil ?_
  (try go_wp2_with fail)
  go_ret
  exact ⟨rfl, HS1.out⟩
set_option maxHeartbeats 4000000 in
theorem mayMsg3 (p : PktV) (h0 : 1 ≤ p.ki) (h1 : p.ki ≤ 16) (h2 : 0 ≤ p.a) (h3 : ¬ (p.a < 2147483648)) (w : World) : Calls Tryd.prog 18 #[.agg (msgC p)] w fun e w' => e = .returned (.bool false) ∧ Since w w' := by
  have H0 := Lib.hid h0
  clear h0
  have H1 := Lib.hid h1
  clear h1
  have H2 := Lib.hid h2
  clear h2
  have H3 := Lib.hid h3
  clear h3
  go_enter Tryd.func18, Tryd.ntmps18
  go_upto_region 1 with fail
  obtain ⟨w1, hw1⟩ : ∃ w1, w1 = (w.alloc (.cells (msgC p) 23)) := ⟨_, rfl⟩
  rw [← hw1]
  have HBM1 := Lib.hid (show Blk w1 (w.heap.size) 23 (msgC p) by rw [hw1]; exact Blk.at_ (by (try simp only [size_alloc])) _ _)
  have HS1 := Lib.hid (show Since w w1 by rw [hw1]; exact Since.alloc (Since.refl w) _)
  have hNE : w.heap.size ≤ w.heap.size := by omega
  have HNE := Lib.hid hNE
  clear hNE hw1
  have HNE3 := Lib.hid (show w.heap.size ≤ w.heap.size from HNE.out)
  clear HNE
  refine wp_region_lit ?_
  refine wpList_q (by rfl) (.pointer (some ⟨w.heap.size, 0, none⟩)) ?he ?_
  case he => (first | rfl | (go_simp; (try with_reducible rfl)))
  (try simp only [Act.put, sA, sB, sC])
  refine wpList_q (by rfl) (.int .i64 p.ki) ?he ?_
  case he => exact exec_cell 3 _ _ HBM1.out rfl rfl rfl Tryd.underlying3 rfl
  (try simp only [Act.put, sA, sB, sC])
  refine wpList_q (by rfl) (.bool true) ?he ?_
  case he => (go_simp; (first | done | (have q := H0.out; omega)))
  (try simp only [Act.put, sA, sB, sC])
  refine wpList_q (by rfl) (.bool true) ?he ?_
  case he => (first | rfl | (go_simp; (try with_reducible rfl)))
  (try simp only [Act.put, sA, sB, sC])
  refine wpList_q (by rfl) (.pointer (some ⟨w.heap.size, 0, none⟩)) ?he ?_
  case he => (first | rfl | (go_simp; (try with_reducible rfl)))
  (try simp only [Act.put, sA, sB, sC])
  refine wpList_q (by rfl) (.int .i64 p.ki) ?he ?_
  case he => exact exec_cell 3 _ _ HBM1.out rfl rfl rfl Tryd.underlying3 rfl
  (try simp only [Act.put, sA, sB, sC])
  refine wpList_q (by rfl) (.bool true) ?he ?_
  case he => (go_simp; (first | done | (have q := H1.out; omega)))
  (try simp only [Act.put, sA, sB, sC])
  refine wpList_q (by rfl) (.bool true) ?he ?_
  case he => (first | rfl | (go_simp; (try with_reducible rfl)))
  (try simp only [Act.put, sA, sB, sC])
  refine wpList_q (by rfl) (.bool true) ?he ?_
  case he => (first | rfl | (go_simp; (try with_reducible rfl)))
  (try simp only [Act.put, sA, sB, sC])
  refine wpList_q (by rfl) (.pointer (some ⟨w.heap.size, 1, none⟩)) ?he ?_
  case he => (first | rfl | (go_simp; (try with_reducible rfl)))
  (try simp only [Act.put, sA, sB, sC])
  refine wpList_q (by rfl) (.int .i64 p.a) ?he ?_
  case he => exact exec_cell 3 _ _ HBM1.out rfl rfl rfl Tryd.underlying3 rfl
  (try simp only [Act.put, sA, sB, sC])
  refine wpList_q (by rfl) (.bool true) ?he ?_
  case he => (go_simp; (first | done | (have q := H2.out; omega)))
  (try simp only [Act.put, sA, sB, sC])
  refine wpList_q (by rfl) (.bool true) ?he ?_
  case he => (first | rfl | (go_simp; (try with_reducible rfl)))
  (try simp only [Act.put, sA, sB, sC])
  refine wpList_q (by rfl) (.bool true) ?he ?_
  case he => (first | rfl | (go_simp; (try with_reducible rfl)))
  (try simp only [Act.put, sA, sB, sC])
  refine wpList_q (by rfl) (.pointer (some ⟨w.heap.size, 1, none⟩)) ?he ?_
  case he => (first | rfl | (go_simp; (try with_reducible rfl)))
  (try simp only [Act.put, sA, sB, sC])
  refine wpList_q (by rfl) (.int .i64 p.a) ?he ?_
  case he => exact exec_cell 3 _ _ HBM1.out rfl rfl rfl Tryd.underlying3 rfl
  (try simp only [Act.put, sA, sB, sC])
  refine wpList_q (by rfl) (.bool false) ?he ?_
  case he => (go_simp; (first | done | (have q := H3.out; omega)))
  (try simp only [Act.put, sA, sB, sC])
  refine wpList_q (by rfl) (.bool false) ?he ?_
  case he => (first | rfl | (go_simp; (try with_reducible rfl)))
  (try simp only [Act.put, sA, sB, sC])
  refine wpList_q (by rfl) (.bool false) ?he ?_
  case he => (first | rfl | (go_simp; (try with_reducible rfl)))
  (try simp only [Act.put, sA, sB, sC])
  refine wpList_no (by rfl) ?_
  (try simp only [Act.put, sA, sB, sC])
  refine wpList_no (by rfl) ?_
  (try simp only [Act.put, sA, sB, sC])
  refine wpList_no (by rfl) ?_
  (try simp only [Act.put, sA, sB, sC])
  refine wpList_q (by rfl) (.bool false) ?he ?_
  case he => (first | rfl | (go_simp; (try with_reducible rfl)))
  (try simp only [Act.put, sA, sB, sC])
  refine wpList_q (by rfl) (.bool false) ?he ?_
  case he => (first | rfl | (go_simp; (try with_reducible rfl)))
  (try simp only [Act.put, sA, sB, sC])
  refine wpList_no (by rfl) ?_
  (try simp only [Act.put, sA, sB, sC])
  refine wpList_no (by rfl) ?_
  (try simp only [Act.put, sA, sB, sC])
  refine wpList_no (by rfl) ?_
  (try simp only [Act.put, sA, sB, sC])
  refine wpList_q (by rfl) (.bool false) ?he ?_
  case he => (first | rfl | (go_simp; (try with_reducible rfl)))
  (try simp only [Act.put, sA, sB, sC])
  refine wpList_q (by rfl) (.bool false) ?he ?_
  case he => (first | rfl | (go_simp; (try with_reducible rfl)))
  (try simp only [Act.put, sA, sB, sC])
  refine wpList_no (by rfl) ?_
  (try simp only [Act.put, sA, sB, sC])
  refine wpList_no (by rfl) ?_
  (try simp only [Act.put, sA, sB, sC])
  refine wpList_no (by rfl) ?_
  (try simp only [Act.put, sA, sB, sC])
  refine wpList_q (by rfl) (.bool false) ?he ?_
  case he => (first | rfl | (go_simp; (try with_reducible rfl)))
  (try simp only [Act.put, sA, sB, sC])
  refine wpList_q (by rfl) (.bool false) ?he ?_
  case he => (first | rfl | (go_simp; (try with_reducible rfl)))
  (try simp only [Act.put, sA, sB, sC])
  refine wpList_no (by rfl) ?_
  (try simp only [Act.put, sA, sB, sC])
  refine wpList_no (by rfl) ?_
  (try simp only [Act.put, sA, sB, sC])
  refine wpList_no (by rfl) ?_
  (try simp only [Act.put, sA, sB, sC])
  refine wpList_q (by rfl) (.bool false) ?he ?_
  case he => (first | rfl | (go_simp; (try with_reducible rfl)))
  (try simp only [Act.put, sA, sB, sC])
  refine wpList_q (by rfl) (.bool false) ?he ?_
  case he => (first | rfl | (go_simp; (try with_reducible rfl)))
  (try simp only [Act.put, sA, sB, sC])
  refine wpList_nil ?_
  (try go_wp2_with fail)
  go_ret
  exact ⟨rfl, HS1.out⟩
set_option maxHeartbeats 4000000 in
theorem mayMsg4 (p : PktV) (h0 : 1 ≤ p.ki) (h1 : p.ki ≤ 16) (h2 : 0 ≤ p.a) (h3 : p.a < 2147483648) (h4 : ¬ (0 ≤ p.b)) (w : World) : Calls Tryd.prog 18 #[.agg (msgC p)] w fun e w' => e = .returned (.bool false) ∧ Since w w' := by
  have H0 := Lib.hid h0
  clear h0
  have H1 := Lib.hid h1
  clear h1
  have H2 := Lib.hid h2
  clear h2
  have H3 := Lib.hid h3
  clear h3
  have H4 := Lib.hid h4
  clear h4
  go_enter Tryd.func18, Tryd.ntmps18
  go_upto_region 1 with fail
  obtain ⟨w1, hw1⟩ : ∃ w1, w1 = (w.alloc (.cells (msgC p) 23)) := ⟨_, rfl⟩
  rw [← hw1]
  have HBM1 := Lib.hid (show Blk w1 (w.heap.size) 23 (msgC p) by rw [hw1]; exact Blk.at_ (by (try simp only [size_alloc])) _ _)
  have HS1 := Lib.hid (show Since w w1 by rw [hw1]; exact Since.alloc (Since.refl w) _)
  have hNE : w.heap.size ≤ w.heap.size := by omega
  have HNE := Lib.hid hNE
  clear hNE hw1
  have HNE3 := Lib.hid (show w.heap.size ≤ w.heap.size from HNE.out)
  clear HNE
  refine wp_region_lit ?_
  refine wpList_q (by rfl) (.pointer (some ⟨w.heap.size, 0, none⟩)) ?he ?_
  case he => (first | rfl | (go_simp; (try with_reducible rfl)))
  (try simp only [Act.put, sA, sB, sC])
  refine wpList_q (by rfl) (.int .i64 p.ki) ?he ?_
  case he => exact exec_cell 3 _ _ HBM1.out rfl rfl rfl Tryd.underlying3 rfl
  (try simp only [Act.put, sA, sB, sC])
  refine wpList_q (by rfl) (.bool true) ?he ?_
  case he => (go_simp; (first | done | (have q := H0.out; omega)))
  (try simp only [Act.put, sA, sB, sC])
  refine wpList_q (by rfl) (.bool true) ?he ?_
  case he => (first | rfl | (go_simp; (try with_reducible rfl)))
  (try simp only [Act.put, sA, sB, sC])
  refine wpList_q (by rfl) (.pointer (some ⟨w.heap.size, 0, none⟩)) ?he ?_
  case he => (first | rfl | (go_simp; (try with_reducible rfl)))
  (try simp only [Act.put, sA, sB, sC])
  refine wpList_q (by rfl) (.int .i64 p.ki) ?he ?_
  case he => exact exec_cell 3 _ _ HBM1.out rfl rfl rfl Tryd.underlying3 rfl
  (try simp only [Act.put, sA, sB, sC])
  refine wpList_q (by rfl) (.bool true) ?he ?_
  case he => (go_simp; (first | done | (have q := H1.out; omega)))
  (try simp only [Act.put, sA, sB, sC])
  refine wpList_q (by rfl) (.bool true) ?he ?_
  case he => (first | rfl | (go_simp; (try with_reducible rfl)))
  (try simp only [Act.put, sA, sB, sC])
  refine wpList_q (by rfl) (.bool true) ?he ?_
  case he => (first | rfl | (go_simp; (try with_reducible rfl)))
  (try simp only [Act.put, sA, sB, sC])
  refine wpList_q (by rfl) (.pointer (some ⟨w.heap.size, 1, none⟩)) ?he ?_
  case he => (first | rfl | (go_simp; (try with_reducible rfl)))
  (try simp only [Act.put, sA, sB, sC])
  refine wpList_q (by rfl) (.int .i64 p.a) ?he ?_
  case he => exact exec_cell 3 _ _ HBM1.out rfl rfl rfl Tryd.underlying3 rfl
  (try simp only [Act.put, sA, sB, sC])
  refine wpList_q (by rfl) (.bool true) ?he ?_
  case he => (go_simp; (first | done | (have q := H2.out; omega)))
  (try simp only [Act.put, sA, sB, sC])
  refine wpList_q (by rfl) (.bool true) ?he ?_
  case he => (first | rfl | (go_simp; (try with_reducible rfl)))
  (try simp only [Act.put, sA, sB, sC])
  refine wpList_q (by rfl) (.bool true) ?he ?_
  case he => (first | rfl | (go_simp; (try with_reducible rfl)))
  (try simp only [Act.put, sA, sB, sC])
  refine wpList_q (by rfl) (.pointer (some ⟨w.heap.size, 1, none⟩)) ?he ?_
  case he => (first | rfl | (go_simp; (try with_reducible rfl)))
  (try simp only [Act.put, sA, sB, sC])
  refine wpList_q (by rfl) (.int .i64 p.a) ?he ?_
  case he => exact exec_cell 3 _ _ HBM1.out rfl rfl rfl Tryd.underlying3 rfl
  (try simp only [Act.put, sA, sB, sC])
  refine wpList_q (by rfl) (.bool true) ?he ?_
  case he => (go_simp; (first | done | (have q := H3.out; omega)))
  (try simp only [Act.put, sA, sB, sC])
  refine wpList_q (by rfl) (.bool true) ?he ?_
  case he => (first | rfl | (go_simp; (try with_reducible rfl)))
  (try simp only [Act.put, sA, sB, sC])
  refine wpList_q (by rfl) (.bool true) ?he ?_
  case he => (first | rfl | (go_simp; (try with_reducible rfl)))
  (try simp only [Act.put, sA, sB, sC])
  refine wpList_q (by rfl) (.pointer (some ⟨w.heap.size, 2, none⟩)) ?he ?_
  case he => (first | rfl | (go_simp; (try with_reducible rfl)))
  (try simp only [Act.put, sA, sB, sC])
  refine wpList_q (by rfl) (.int .i64 p.b) ?he ?_
  case he => exact exec_cell 3 _ _ HBM1.out rfl rfl rfl Tryd.underlying3 rfl
  (try simp only [Act.put, sA, sB, sC])
  refine wpList_q (by rfl) (.bool false) ?he ?_
  case he => (go_simp; (first | done | (have q := H4.out; omega)))
  (try simp only [Act.put, sA, sB, sC])
  refine wpList_q (by rfl) (.bool false) ?he ?_
  case he => (first | rfl | (go_simp; (try with_reducible rfl)))
  (try simp only [Act.put, sA, sB, sC])
  refine wpList_q (by rfl) (.bool false) ?he ?_
  case he => (first | rfl | (go_simp; (try with_reducible rfl)))
  (try simp only [Act.put, sA, sB, sC])
  refine wpList_no (by rfl) ?_
  (try simp only [Act.put, sA, sB, sC])
  refine wpList_no (by rfl) ?_
  (try simp only [Act.put, sA, sB, sC])
  refine wpList_no (by rfl) ?_
  (try simp only [Act.put, sA, sB, sC])
  refine wpList_q (by rfl) (.bool false) ?he ?_
  case he => (first | rfl | (go_simp; (try with_reducible rfl)))
  (try simp only [Act.put, sA, sB, sC])
  refine wpList_q (by rfl) (.bool false) ?he ?_
  case he => (first | rfl | (go_simp; (try with_reducible rfl)))
  (try simp only [Act.put, sA, sB, sC])
  refine wpList_no (by rfl) ?_
  (try simp only [Act.put, sA, sB, sC])
  refine wpList_no (by rfl) ?_
  (try simp only [Act.put, sA, sB, sC])
  refine wpList_no (by rfl) ?_
  (try simp only [Act.put, sA, sB, sC])
  refine wpList_q (by rfl) (.bool false) ?he ?_
  case he => (first | rfl | (go_simp; (try with_reducible rfl)))
  (try simp only [Act.put, sA, sB, sC])
  refine wpList_q (by rfl) (.bool false) ?he ?_
  case he => (first | rfl | (go_simp; (try with_reducible rfl)))
  (try simp only [Act.put, sA, sB, sC])
  refine wpList_no (by rfl) ?_
  (try simp only [Act.put, sA, sB, sC])
  refine wpList_no (by rfl) ?_
  (try simp only [Act.put, sA, sB, sC])
  refine wpList_no (by rfl) ?_
  (try simp only [Act.put, sA, sB, sC])
  refine wpList_q (by rfl) (.bool false) ?he ?_
  case he => (first | rfl | (go_simp; (try with_reducible rfl)))
  (try simp only [Act.put, sA, sB, sC])
  refine wpList_q (by rfl) (.bool false) ?he ?_
  case he => (first | rfl | (go_simp; (try with_reducible rfl)))
  (try simp only [Act.put, sA, sB, sC])
  refine wpList_nil ?_
  (try go_wp2_with fail)
  go_ret
  exact ⟨rfl, HS1.out⟩
set_option maxHeartbeats 4000000 in
theorem mayMsg5 (p : PktV) (h0 : 1 ≤ p.ki) (h1 : p.ki ≤ 16) (h2 : 0 ≤ p.a) (h3 : p.a < 2147483648) (h4 : 0 ≤ p.b) (h5 : ¬ (p.b < 2147483648)) (w : World) : Calls Tryd.prog 18 #[.agg (msgC p)] w fun e w' => e = .returned (.bool false) ∧ Since w w' := by
  have H0 := Lib.hid h0
  clear h0
  have H1 := Lib.hid h1
  clear h1
  have H2 := Lib.hid h2
  clear h2
  have H3 := Lib.hid h3
  clear h3
  have H4 := Lib.hid h4
  clear h4
  have H5 := Lib.hid h5
  clear h5
  go_enter Tryd.func18, Tryd.ntmps18
  go_upto_region 1 with fail
  obtain ⟨w1, hw1⟩ : ∃ w1, w1 = (w.alloc (.cells (msgC p) 23)) := ⟨_, rfl⟩
  rw [← hw1]
  have HBM1 := Lib.hid (show Blk w1 (w.heap.size) 23 (msgC p) by rw [hw1]; exact Blk.at_ (by (try simp only [size_alloc])) _ _)
  have HS1 := Lib.hid (show Since w w1 by rw [hw1]; exact Since.alloc (Since.refl w) _)
  have hNE : w.heap.size ≤ w.heap.size := by omega
  have HNE := Lib.hid hNE
  clear hNE hw1
  have HNE3 := Lib.hid (show w.heap.size ≤ w.heap.size from HNE.out)
  clear HNE
  refine wp_region_lit ?_
  refine wpList_q (by rfl) (.pointer (some ⟨w.heap.size, 0, none⟩)) ?he ?_
  case he => (first | rfl | (go_simp; (try with_reducible rfl)))
  (try simp only [Act.put, sA, sB, sC])
  refine wpList_q (by rfl) (.int .i64 p.ki) ?he ?_
  case he => exact exec_cell 3 _ _ HBM1.out rfl rfl rfl Tryd.underlying3 rfl
  (try simp only [Act.put, sA, sB, sC])
  refine wpList_q (by rfl) (.bool true) ?he ?_
  case he => (go_simp; (first | done | (have q := H0.out; omega)))
  (try simp only [Act.put, sA, sB, sC])
  refine wpList_q (by rfl) (.bool true) ?he ?_
  case he => (first | rfl | (go_simp; (try with_reducible rfl)))
  (try simp only [Act.put, sA, sB, sC])
  refine wpList_q (by rfl) (.pointer (some ⟨w.heap.size, 0, none⟩)) ?he ?_
  case he => (first | rfl | (go_simp; (try with_reducible rfl)))
  (try simp only [Act.put, sA, sB, sC])
  refine wpList_q (by rfl) (.int .i64 p.ki) ?he ?_
  case he => exact exec_cell 3 _ _ HBM1.out rfl rfl rfl Tryd.underlying3 rfl
  (try simp only [Act.put, sA, sB, sC])
  refine wpList_q (by rfl) (.bool true) ?he ?_
  case he => (go_simp; (first | done | (have q := H1.out; omega)))
  (try simp only [Act.put, sA, sB, sC])
  refine wpList_q (by rfl) (.bool true) ?he ?_
  case he => (first | rfl | (go_simp; (try with_reducible rfl)))
  (try simp only [Act.put, sA, sB, sC])
  refine wpList_q (by rfl) (.bool true) ?he ?_
  case he => (first | rfl | (go_simp; (try with_reducible rfl)))
  (try simp only [Act.put, sA, sB, sC])
  refine wpList_q (by rfl) (.pointer (some ⟨w.heap.size, 1, none⟩)) ?he ?_
  case he => (first | rfl | (go_simp; (try with_reducible rfl)))
  (try simp only [Act.put, sA, sB, sC])
  refine wpList_q (by rfl) (.int .i64 p.a) ?he ?_
  case he => exact exec_cell 3 _ _ HBM1.out rfl rfl rfl Tryd.underlying3 rfl
  (try simp only [Act.put, sA, sB, sC])
  refine wpList_q (by rfl) (.bool true) ?he ?_
  case he => (go_simp; (first | done | (have q := H2.out; omega)))
  (try simp only [Act.put, sA, sB, sC])
  refine wpList_q (by rfl) (.bool true) ?he ?_
  case he => (first | rfl | (go_simp; (try with_reducible rfl)))
  (try simp only [Act.put, sA, sB, sC])
  refine wpList_q (by rfl) (.bool true) ?he ?_
  case he => (first | rfl | (go_simp; (try with_reducible rfl)))
  (try simp only [Act.put, sA, sB, sC])
  refine wpList_q (by rfl) (.pointer (some ⟨w.heap.size, 1, none⟩)) ?he ?_
  case he => (first | rfl | (go_simp; (try with_reducible rfl)))
  (try simp only [Act.put, sA, sB, sC])
  refine wpList_q (by rfl) (.int .i64 p.a) ?he ?_
  case he => exact exec_cell 3 _ _ HBM1.out rfl rfl rfl Tryd.underlying3 rfl
  (try simp only [Act.put, sA, sB, sC])
  refine wpList_q (by rfl) (.bool true) ?he ?_
  case he => (go_simp; (first | done | (have q := H3.out; omega)))
  (try simp only [Act.put, sA, sB, sC])
  refine wpList_q (by rfl) (.bool true) ?he ?_
  case he => (first | rfl | (go_simp; (try with_reducible rfl)))
  (try simp only [Act.put, sA, sB, sC])
  refine wpList_q (by rfl) (.bool true) ?he ?_
  case he => (first | rfl | (go_simp; (try with_reducible rfl)))
  (try simp only [Act.put, sA, sB, sC])
  refine wpList_q (by rfl) (.pointer (some ⟨w.heap.size, 2, none⟩)) ?he ?_
  case he => (first | rfl | (go_simp; (try with_reducible rfl)))
  (try simp only [Act.put, sA, sB, sC])
  refine wpList_q (by rfl) (.int .i64 p.b) ?he ?_
  case he => exact exec_cell 3 _ _ HBM1.out rfl rfl rfl Tryd.underlying3 rfl
  (try simp only [Act.put, sA, sB, sC])
  refine wpList_q (by rfl) (.bool true) ?he ?_
  case he => (go_simp; (first | done | (have q := H4.out; omega)))
  (try simp only [Act.put, sA, sB, sC])
  refine wpList_q (by rfl) (.bool true) ?he ?_
  case he => (first | rfl | (go_simp; (try with_reducible rfl)))
  (try simp only [Act.put, sA, sB, sC])
  refine wpList_q (by rfl) (.bool true) ?he ?_
  case he => (first | rfl | (go_simp; (try with_reducible rfl)))
  (try simp only [Act.put, sA, sB, sC])
  refine wpList_q (by rfl) (.pointer (some ⟨w.heap.size, 2, none⟩)) ?he ?_
  case he => (first | rfl | (go_simp; (try with_reducible rfl)))
  (try simp only [Act.put, sA, sB, sC])
  refine wpList_q (by rfl) (.int .i64 p.b) ?he ?_
  case he => exact exec_cell 3 _ _ HBM1.out rfl rfl rfl Tryd.underlying3 rfl
  (try simp only [Act.put, sA, sB, sC])
  refine wpList_q (by rfl) (.bool false) ?he ?_
  case he => (go_simp; (first | done | (have q := H5.out; omega)))
  (try simp only [Act.put, sA, sB, sC])
  refine wpList_q (by rfl) (.bool false) ?he ?_
  case he => (first | rfl | (go_simp; (try with_reducible rfl)))
  (try simp only [Act.put, sA, sB, sC])
  refine wpList_q (by rfl) (.bool false) ?he ?_
  case he => (first | rfl | (go_simp; (try with_reducible rfl)))
  (try simp only [Act.put, sA, sB, sC])
  refine wpList_no (by rfl) ?_
  (try simp only [Act.put, sA, sB, sC])
  refine wpList_no (by rfl) ?_
  (try simp only [Act.put, sA, sB, sC])
  refine wpList_no (by rfl) ?_
  (try simp only [Act.put, sA, sB, sC])
  refine wpList_q (by rfl) (.bool false) ?he ?_
  case he => (first | rfl | (go_simp; (try with_reducible rfl)))
  (try simp only [Act.put, sA, sB, sC])
  refine wpList_q (by rfl) (.bool false) ?he ?_
  case he => (first | rfl | (go_simp; (try with_reducible rfl)))
  (try simp only [Act.put, sA, sB, sC])
  refine wpList_no (by rfl) ?_
  (try simp only [Act.put, sA, sB, sC])
  refine wpList_no (by rfl) ?_
  (try simp only [Act.put, sA, sB, sC])
  refine wpList_no (by rfl) ?_
  (try simp only [Act.put, sA, sB, sC])
  refine wpList_q (by rfl) (.bool false) ?he ?_
  case he => (first | rfl | (go_simp; (try with_reducible rfl)))
  (try simp only [Act.put, sA, sB, sC])
  refine wpList_q (by rfl) (.bool false) ?he ?_
  case he => (first | rfl | (go_simp; (try with_reducible rfl)))
  (try simp only [Act.put, sA, sB, sC])
  refine wpList_nil ?_
  (try go_wp2_with fail)
  go_ret
  exact ⟨rfl, HS1.out⟩
set_option maxHeartbeats 4000000 in
theorem mayMsg6 (p : PktV) (h0 : 1 ≤ p.ki) (h1 : p.ki ≤ 16) (h2 : 0 ≤ p.a) (h3 : p.a < 2147483648) (h4 : 0 ≤ p.b) (h5 : p.b < 2147483648) (h6 : ¬ (0 ≤ p.c)) (w : World) : Calls Tryd.prog 18 #[.agg (msgC p)] w fun e w' => e = .returned (.bool false) ∧ Since w w' := by
  have H0 := Lib.hid h0
  clear h0
  have H1 := Lib.hid h1
  clear h1
  have H2 := Lib.hid h2
  clear h2
  have H3 := Lib.hid h3
  clear h3
  have H4 := Lib.hid h4
  clear h4
  have H5 := Lib.hid h5
  clear h5
  have H6 := Lib.hid h6
  clear h6
  go_enter Tryd.func18, Tryd.ntmps18
  go_upto_region 1 with fail
  obtain ⟨w1, hw1⟩ : ∃ w1, w1 = (w.alloc (.cells (msgC p) 23)) := ⟨_, rfl⟩
  rw [← hw1]
  have HBM1 := Lib.hid (show Blk w1 (w.heap.size) 23 (msgC p) by rw [hw1]; exact Blk.at_ (by (try simp only [size_alloc])) _ _)
  have HS1 := Lib.hid (show Since w w1 by rw [hw1]; exact Since.alloc (Since.refl w) _)
  have hNE : w.heap.size ≤ w.heap.size := by omega
  have HNE := Lib.hid hNE
  clear hNE hw1
  have HNE3 := Lib.hid (show w.heap.size ≤ w.heap.size from HNE.out)
  clear HNE
  refine wp_region_lit ?_
  refine wpList_q (by rfl) (.pointer (some ⟨w.heap.size, 0, none⟩)) ?he ?_
  case he => (first | rfl | (go_simp; (try with_reducible rfl)))
  (try simp only [Act.put, sA, sB, sC])
  refine wpList_q (by rfl) (.int .i64 p.ki) ?he ?_
  case he => exact exec_cell 3 _ _ HBM1.out rfl rfl rfl Tryd.underlying3 rfl
  (try simp only [Act.put, sA, sB, sC])
  refine wpList_q (by rfl) (.bool true) ?he ?_
  case he => (go_simp; (first | done | (have q := H0.out; omega)))
  (try simp only [Act.put, sA, sB, sC])
  refine wpList_q (by rfl) (.bool true) ?he ?_
  case he => (first | rfl | (go_simp; (try with_reducible rfl)))
  (try simp only [Act.put, sA, sB, sC])
  refine wpList_q (by rfl) (.pointer (some ⟨w.heap.size, 0, none⟩)) ?he ?_
  case he => (first | rfl | (go_simp; (try with_reducible rfl)))
  (try simp only [Act.put, sA, sB, sC])
  refine wpList_q (by rfl) (.int .i64 p.ki) ?he ?_
  case he => exact exec_cell 3 _ _ HBM1.out rfl rfl rfl Tryd.underlying3 rfl
  (try simp only [Act.put, sA, sB, sC])
  refine wpList_q (by rfl) (.bool true) ?he ?_
  case he => (go_simp; (first | done | (have q := H1.out; omega)))
  (try simp only [Act.put, sA, sB, sC])
  refine wpList_q (by rfl) (.bool true) ?he ?_
  case he => (first | rfl | (go_simp; (try with_reducible rfl)))
  (try simp only [Act.put, sA, sB, sC])
  refine wpList_q (by rfl) (.bool true) ?he ?_
  case he => (first | rfl | (go_simp; (try with_reducible rfl)))
  (try simp only [Act.put, sA, sB, sC])
  refine wpList_q (by rfl) (.pointer (some ⟨w.heap.size, 1, none⟩)) ?he ?_
  case he => (first | rfl | (go_simp; (try with_reducible rfl)))
  (try simp only [Act.put, sA, sB, sC])
  refine wpList_q (by rfl) (.int .i64 p.a) ?he ?_
  case he => exact exec_cell 3 _ _ HBM1.out rfl rfl rfl Tryd.underlying3 rfl
  (try simp only [Act.put, sA, sB, sC])
  refine wpList_q (by rfl) (.bool true) ?he ?_
  case he => (go_simp; (first | done | (have q := H2.out; omega)))
  (try simp only [Act.put, sA, sB, sC])
  refine wpList_q (by rfl) (.bool true) ?he ?_
  case he => (first | rfl | (go_simp; (try with_reducible rfl)))
  (try simp only [Act.put, sA, sB, sC])
  refine wpList_q (by rfl) (.bool true) ?he ?_
  case he => (first | rfl | (go_simp; (try with_reducible rfl)))
  (try simp only [Act.put, sA, sB, sC])
  refine wpList_q (by rfl) (.pointer (some ⟨w.heap.size, 1, none⟩)) ?he ?_
  case he => (first | rfl | (go_simp; (try with_reducible rfl)))
  (try simp only [Act.put, sA, sB, sC])
  refine wpList_q (by rfl) (.int .i64 p.a) ?he ?_
  case he => exact exec_cell 3 _ _ HBM1.out rfl rfl rfl Tryd.underlying3 rfl
  (try simp only [Act.put, sA, sB, sC])
  refine wpList_q (by rfl) (.bool true) ?he ?_
  case he => (go_simp; (first | done | (have q := H3.out; omega)))
  (try simp only [Act.put, sA, sB, sC])
  refine wpList_q (by rfl) (.bool true) ?he ?_
  case he => (first | rfl | (go_simp; (try with_reducible rfl)))
  (try simp only [Act.put, sA, sB, sC])
  refine wpList_q (by rfl) (.bool true) ?he ?_
  case he => (first | rfl | (go_simp; (try with_reducible rfl)))
  (try simp only [Act.put, sA, sB, sC])
  refine wpList_q (by rfl) (.pointer (some ⟨w.heap.size, 2, none⟩)) ?he ?_
  case he => (first | rfl | (go_simp; (try with_reducible rfl)))
  (try simp only [Act.put, sA, sB, sC])
  refine wpList_q (by rfl) (.int .i64 p.b) ?he ?_
  case he => exact exec_cell 3 _ _ HBM1.out rfl rfl rfl Tryd.underlying3 rfl
  (try simp only [Act.put, sA, sB, sC])
  refine wpList_q (by rfl) (.bool true) ?he ?_
  case he => (go_simp; (first | done | (have q := H4.out; omega)))
  (try simp only [Act.put, sA, sB, sC])
  refine wpList_q (by rfl) (.bool true) ?he ?_
  case he => (first | rfl | (go_simp; (try with_reducible rfl)))
  (try simp only [Act.put, sA, sB, sC])
  refine wpList_q (by rfl) (.bool true) ?he ?_
  case he => (first | rfl | (go_simp; (try with_reducible rfl)))
  (try simp only [Act.put, sA, sB, sC])
  refine wpList_q (by rfl) (.pointer (some ⟨w.heap.size, 2, none⟩)) ?he ?_
  case he => (first | rfl | (go_simp; (try with_reducible rfl)))
  (try simp only [Act.put, sA, sB, sC])
  refine wpList_q (by rfl) (.int .i64 p.b) ?he ?_
  case he => exact exec_cell 3 _ _ HBM1.out rfl rfl rfl Tryd.underlying3 rfl
  (try simp only [Act.put, sA, sB, sC])
  refine wpList_q (by rfl) (.bool true) ?he ?_
  case he => (go_simp; (first | done | (have q := H5.out; omega)))
  (try simp only [Act.put, sA, sB, sC])
  refine wpList_q (by rfl) (.bool true) ?he ?_
  case he => (first | rfl | (go_simp; (try with_reducible rfl)))
  (try simp only [Act.put, sA, sB, sC])
  refine wpList_q (by rfl) (.bool true) ?he ?_
  case he => (first | rfl | (go_simp; (try with_reducible rfl)))
  (try simp only [Act.put, sA, sB, sC])
  refine wpList_q (by rfl) (.pointer (some ⟨w.heap.size, 3, none⟩)) ?he ?_
  case he => (first | rfl | (go_simp; (try with_reducible rfl)))
  (try simp only [Act.put, sA, sB, sC])
  refine wpList_q (by rfl) (.int .i64 p.c) ?he ?_
  case he => exact exec_cell 3 _ _ HBM1.out rfl rfl rfl Tryd.underlying3 rfl
  (try simp only [Act.put, sA, sB, sC])
  refine wpList_q (by rfl) (.bool false) ?he ?_
  case he => (go_simp; (first | done | (have q := H6.out; omega)))
  (try simp only [Act.put, sA, sB, sC])
  refine wpList_q (by rfl) (.bool false) ?he ?_
  case he => (first | rfl | (go_simp; (try with_reducible rfl)))
  (try simp only [Act.put, sA, sB, sC])
  refine wpList_q (by rfl) (.bool false) ?he ?_
  case he => (first | rfl | (go_simp; (try with_reducible rfl)))
  (try simp only [Act.put, sA, sB, sC])
  refine wpList_no (by rfl) ?_
  (try simp only [Act.put, sA, sB, sC])
  refine wpList_no (by rfl) ?_
  (try simp only [Act.put, sA, sB, sC])
  refine wpList_no (by rfl) ?_
  (try simp only [Act.put, sA, sB, sC])
  refine wpList_q (by rfl) (.bool false) ?he ?_
  case he => (first | rfl | (go_simp; (try with_reducible rfl)))
  (try simp only [Act.put, sA, sB, sC])
  refine wpList_q (by rfl) (.bool false) ?he ?_
  case he => (first | rfl | (go_simp; (try with_reducible rfl)))
  (try simp only [Act.put, sA, sB, sC])
  refine wpList_nil ?_
  (try go_wp2_with fail)
  go_ret
  exact ⟨rfl, HS1.out⟩
set_option maxHeartbeats 4000000 in
theorem mayMsg7 (p : PktV) (h0 : 1 ≤ p.ki) (h1 : p.ki ≤ 16) (h2 : 0 ≤ p.a) (h3 : p.a < 2147483648) (h4 : 0 ≤ p.b) (h5 : p.b < 2147483648) (h6 : 0 ≤ p.c) (h7 : ¬ (p.c < 2147483648)) (w : World) : Calls Tryd.prog 18 #[.agg (msgC p)] w fun e w' => e = .returned (.bool false) ∧ Since w w' := by
  have H0 := Lib.hid h0
  clear h0
  have H1 := Lib.hid h1
  clear h1
  have H2 := Lib.hid h2
  clear h2
  have H3 := Lib.hid h3
  clear h3
  have H4 := Lib.hid h4
  clear h4
  have H5 := Lib.hid h5
  clear h5
  have H6 := Lib.hid h6
  clear h6
  have H7 := Lib.hid h7
  clear h7
  go_enter Tryd.func18, Tryd.ntmps18
  go_upto_region 1 with fail
  obtain ⟨w1, hw1⟩ : ∃ w1, w1 = (w.alloc (.cells (msgC p) 23)) := ⟨_, rfl⟩
  rw [← hw1]
  have HBM1 := Lib.hid (show Blk w1 (w.heap.size) 23 (msgC p) by rw [hw1]; exact Blk.at_ (by (try simp only [size_alloc])) _ _)
  have HS1 := Lib.hid (show Since w w1 by rw [hw1]; exact Since.alloc (Since.refl w) _)
  have hNE : w.heap.size ≤ w.heap.size := by omega
  have HNE := Lib.hid hNE
  clear hNE hw1
  have HNE3 := Lib.hid (show w.heap.size ≤ w.heap.size from HNE.out)
  clear HNE
  refine wp_region_lit ?_
  refine wpList_q (by rfl) (.pointer (some ⟨w.heap.size, 0, none⟩)) ?he ?_
  case he => (first | rfl | (go_simp; (try with_reducible rfl)))
  (try simp only [Act.put, sA, sB, sC])
  refine wpList_q (by rfl) (.int .i64 p.ki) ?he ?_
  case he => exact exec_cell 3 _ _ HBM1.out rfl rfl rfl Tryd.underlying3 rfl
  (try simp only [Act.put, sA, sB, sC])
  refine wpList_q (by rfl) (.bool true) ?he ?_
  case he => (go_simp; (first | done | (have q := H0.out; omega)))
  (try simp only [Act.put, sA, sB, sC])
  refine wpList_q (by rfl) (.bool true) ?he ?_
  case he => (first | rfl | (go_simp; (try with_reducible rfl)))
  (try simp only [Act.put, sA, sB, sC])
  refine wpList_q (by rfl) (.pointer (some ⟨w.heap.size, 0, none⟩)) ?he ?_
  case he => (first | rfl | (go_simp; (try with_reducible rfl)))
  (try simp only [Act.put, sA, sB, sC])
  refine wpList_q (by rfl) (.int .i64 p.ki) ?he ?_
  case he => exact exec_cell 3 _ _ HBM1.out rfl rfl rfl Tryd.underlying3 rfl
  (try simp only [Act.put, sA, sB, sC])
  refine wpList_q (by rfl) (.bool true) ?he ?_
  case he => (go_simp; (first | done | (have q := H1.out; omega)))
  (try simp only [Act.put, sA, sB, sC])
  refine wpList_q (by rfl) (.bool true) ?he ?_
  case he => (first | rfl | (go_simp; (try with_reducible rfl)))
  (try simp only [Act.put, sA, sB, sC])
  refine wpList_q (by rfl) (.bool true) ?he ?_
  case he => (first | rfl | (go_simp; (try with_reducible rfl)))
  (try simp only [Act.put, sA, sB, sC])
  refine wpList_q (by rfl) (.pointer (some ⟨w.heap.size, 1, none⟩)) ?he ?_
  case he => (first | rfl | (go_simp; (try with_reducible rfl)))
  (try simp only [Act.put, sA, sB, sC])
  refine wpList_q (by rfl) (.int .i64 p.a) ?he ?_
  case he => exact exec_cell 3 _ _ HBM1.out rfl rfl rfl Tryd.underlying3 rfl
  (try simp only [Act.put, sA, sB, sC])
  refine wpList_q (by rfl) (.bool true) ?he ?_
  case he => (go_simp; (first | done | (have q := H2.out; omega)))
  (try simp only [Act.put, sA, sB, sC])
  refine wpList_q (by rfl) (.bool true) ?he ?_
  case he => (first | rfl | (go_simp; (try with_reducible rfl)))
  (try simp only [Act.put, sA, sB, sC])
  refine wpList_q (by rfl) (.bool true) ?he ?_
  case he => (first | rfl | (go_simp; (try with_reducible rfl)))
  (try simp only [Act.put, sA, sB, sC])
  refine wpList_q (by rfl) (.pointer (some ⟨w.heap.size, 1, none⟩)) ?he ?_
  case he => (first | rfl | (go_simp; (try with_reducible rfl)))
  (try simp only [Act.put, sA, sB, sC])
  refine wpList_q (by rfl) (.int .i64 p.a) ?he ?_
  case he => exact exec_cell 3 _ _ HBM1.out rfl rfl rfl Tryd.underlying3 rfl
  (try simp only [Act.put, sA, sB, sC])
  refine wpList_q (by rfl) (.bool true) ?he ?_
  case he => (go_simp; (first | done | (have q := H3.out; omega)))
  (try simp only [Act.put, sA, sB, sC])
  refine wpList_q (by rfl) (.bool true) ?he ?_
  case he => (first | rfl | (go_simp; (try with_reducible rfl)))
  (try simp only [Act.put, sA, sB, sC])
  refine wpList_q (by rfl) (.bool true) ?he ?_
  case he => (first | rfl | (go_simp; (try with_reducible rfl)))
  (try simp only [Act.put, sA, sB, sC])
  refine wpList_q (by rfl) (.pointer (some ⟨w.heap.size, 2, none⟩)) ?he ?_
  case he => (first | rfl | (go_simp; (try with_reducible rfl)))
  (try simp only [Act.put, sA, sB, sC])
  refine wpList_q (by rfl) (.int .i64 p.b) ?he ?_
  case he => exact exec_cell 3 _ _ HBM1.out rfl rfl rfl Tryd.underlying3 rfl
  (try simp only [Act.put, sA, sB, sC])
  refine wpList_q (by rfl) (.bool true) ?he ?_
  case he => (go_simp; (first | done | (have q := H4.out; omega)))
  (try simp only [Act.put, sA, sB, sC])
  refine wpList_q (by rfl) (.bool true) ?he ?_
  case he => (first | rfl | (go_simp; (try with_reducible rfl)))
  (try simp only [Act.put, sA, sB, sC])
  refine wpList_q (by rfl) (.bool true) ?he ?_
  case he => (first | rfl | (go_simp; (try with_reducible rfl)))
  (try simp only [Act.put, sA, sB, sC])
  refine wpList_q (by rfl) (.pointer (some ⟨w.heap.size, 2, none⟩)) ?he ?_
  case he => (first | rfl | (go_simp; (try with_reducible rfl)))
  (try simp only [Act.put, sA, sB, sC])
  refine wpList_q (by rfl) (.int .i64 p.b) ?he ?_
  case he => exact exec_cell 3 _ _ HBM1.out rfl rfl rfl Tryd.underlying3 rfl
  (try simp only [Act.put, sA, sB, sC])
  refine wpList_q (by rfl) (.bool true) ?he ?_
  case he => (go_simp; (first | done | (have q := H5.out; omega)))
  (try simp only [Act.put, sA, sB, sC])
  refine wpList_q (by rfl) (.bool true) ?he ?_
  case he => (first | rfl | (go_simp; (try with_reducible rfl)))
  (try simp only [Act.put, sA, sB, sC])
  refine wpList_q (by rfl) (.bool true) ?he ?_
  case he => (first | rfl | (go_simp; (try with_reducible rfl)))
  (try simp only [Act.put, sA, sB, sC])
  refine wpList_q (by rfl) (.pointer (some ⟨w.heap.size, 3, none⟩)) ?he ?_
  case he => (first | rfl | (go_simp; (try with_reducible rfl)))
  (try simp only [Act.put, sA, sB, sC])
  refine wpList_q (by rfl) (.int .i64 p.c) ?he ?_
  case he => exact exec_cell 3 _ _ HBM1.out rfl rfl rfl Tryd.underlying3 rfl
  (try simp only [Act.put, sA, sB, sC])
  refine wpList_q (by rfl) (.bool true) ?he ?_
  case he => (go_simp; (first | done | (have q := H6.out; omega)))
  (try simp only [Act.put, sA, sB, sC])
  refine wpList_q (by rfl) (.bool true) ?he ?_
  case he => (first | rfl | (go_simp; (try with_reducible rfl)))
  (try simp only [Act.put, sA, sB, sC])
  refine wpList_q (by rfl) (.bool true) ?he ?_
  case he => (first | rfl | (go_simp; (try with_reducible rfl)))
  (try simp only [Act.put, sA, sB, sC])
  refine wpList_q (by rfl) (.pointer (some ⟨w.heap.size, 3, none⟩)) ?he ?_
  case he => (first | rfl | (go_simp; (try with_reducible rfl)))
  (try simp only [Act.put, sA, sB, sC])
  refine wpList_q (by rfl) (.int .i64 p.c) ?he ?_
  case he => exact exec_cell 3 _ _ HBM1.out rfl rfl rfl Tryd.underlying3 rfl
  (try simp only [Act.put, sA, sB, sC])
  refine wpList_q (by rfl) (.bool false) ?he ?_
  case he => (go_simp; (first | done | (have q := H7.out; omega)))
  (try simp only [Act.put, sA, sB, sC])
  refine wpList_q (by rfl) (.bool false) ?he ?_
  case he => (first | rfl | (go_simp; (try with_reducible rfl)))
  (try simp only [Act.put, sA, sB, sC])
  refine wpList_q (by rfl) (.bool false) ?he ?_
  case he => (first | rfl | (go_simp; (try with_reducible rfl)))
  (try simp only [Act.put, sA, sB, sC])
  refine wpList_nil ?_
  (try go_wp2_with fail)
  go_ret
  exact ⟨rfl, HS1.out⟩
set_option maxHeartbeats 4000000 in
theorem mayMsg8 (p : PktV) (h0 : 1 ≤ p.ki) (h1 : p.ki ≤ 16) (h2 : 0 ≤ p.a) (h3 : p.a < 2147483648) (h4 : 0 ≤ p.b) (h5 : p.b < 2147483648) (h6 : 0 ≤ p.c) (h7 : p.c < 2147483648) (w : World) : Calls Tryd.prog 18 #[.agg (msgC p)] w fun e w' => e = .returned (.bool true) ∧ Since w w' := by
  have H0 := Lib.hid h0
  clear h0
  have H1 := Lib.hid h1
  clear h1
  have H2 := Lib.hid h2
  clear h2
  have H3 := Lib.hid h3
  clear h3
  have H4 := Lib.hid h4
  clear h4
  have H5 := Lib.hid h5
  clear h5
  have H6 := Lib.hid h6
  clear h6
  have H7 := Lib.hid h7
  clear h7
  go_enter Tryd.func18, Tryd.ntmps18
  go_upto_region 1 with fail
  obtain ⟨w1, hw1⟩ : ∃ w1, w1 = (w.alloc (.cells (msgC p) 23)) := ⟨_, rfl⟩
  rw [← hw1]
  have HBM1 := Lib.hid (show Blk w1 (w.heap.size) 23 (msgC p) by rw [hw1]; exact Blk.at_ (by (try simp only [size_alloc])) _ _)
  have HS1 := Lib.hid (show Since w w1 by rw [hw1]; exact Since.alloc (Since.refl w) _)
  have hNE : w.heap.size ≤ w.heap.size := by omega
  have HNE := Lib.hid hNE
  clear hNE hw1
  have HNE3 := Lib.hid (show w.heap.size ≤ w.heap.size from HNE.out)
  clear HNE
  refine wp_region_lit ?_
  refine wpList_q (by rfl) (.pointer (some ⟨w.heap.size, 0, none⟩)) ?he ?_
  case he => (first | rfl | (go_simp; (try with_reducible rfl)))
  (try simp only [Act.put, sA, sB, sC])
  refine wpList_q (by rfl) (.int .i64 p.ki) ?he ?_
  case he => exact exec_cell 3 _ _ HBM1.out rfl rfl rfl Tryd.underlying3 rfl
  (try simp only [Act.put, sA, sB, sC])
  refine wpList_q (by rfl) (.bool true) ?he ?_
  case he => (go_simp; (first | done | (have q := H0.out; omega)))
  (try simp only [Act.put, sA, sB, sC])
  refine wpList_q (by rfl) (.bool true) ?he ?_
  case he => (first | rfl | (go_simp; (try with_reducible rfl)))
  (try simp only [Act.put, sA, sB, sC])
  refine wpList_q (by rfl) (.pointer (some ⟨w.heap.size, 0, none⟩)) ?he ?_
  case he => (first | rfl | (go_simp; (try with_reducible rfl)))
  (try simp only [Act.put, sA, sB, sC])
  refine wpList_q (by rfl) (.int .i64 p.ki) ?he ?_
  case he => exact exec_cell 3 _ _ HBM1.out rfl rfl rfl Tryd.underlying3 rfl
  (try simp only [Act.put, sA, sB, sC])
  refine wpList_q (by rfl) (.bool true) ?he ?_
  case he => (go_simp; (first | done | (have q := H1.out; omega)))
  (try simp only [Act.put, sA, sB, sC])
  refine wpList_q (by rfl) (.bool true) ?he ?_
  case he => (first | rfl | (go_simp; (try with_reducible rfl)))
  (try simp only [Act.put, sA, sB, sC])
  refine wpList_q (by rfl) (.bool true) ?he ?_
  case he => (first | rfl | (go_simp; (try with_reducible rfl)))
  (try simp only [Act.put, sA, sB, sC])
  refine wpList_q (by rfl) (.pointer (some ⟨w.heap.size, 1, none⟩)) ?he ?_
  case he => (first | rfl | (go_simp; (try with_reducible rfl)))
  (try simp only [Act.put, sA, sB, sC])
  refine wpList_q (by rfl) (.int .i64 p.a) ?he ?_
  case he => exact exec_cell 3 _ _ HBM1.out rfl rfl rfl Tryd.underlying3 rfl
  (try simp only [Act.put, sA, sB, sC])
  refine wpList_q (by rfl) (.bool true) ?he ?_
  case he => (go_simp; (first | done | (have q := H2.out; omega)))
  (try simp only [Act.put, sA, sB, sC])
  refine wpList_q (by rfl) (.bool true) ?he ?_
  case he => (first | rfl | (go_simp; (try with_reducible rfl)))
  (try simp only [Act.put, sA, sB, sC])
  refine wpList_q (by rfl) (.bool true) ?he ?_
  case he => (first | rfl | (go_simp; (try with_reducible rfl)))
  (try simp only [Act.put, sA, sB, sC])
  refine wpList_q (by rfl) (.pointer (some ⟨w.heap.size, 1, none⟩)) ?he ?_
  case he => (first | rfl | (go_simp; (try with_reducible rfl)))
  (try simp only [Act.put, sA, sB, sC])
  refine wpList_q (by rfl) (.int .i64 p.a) ?he ?_
  case he => exact exec_cell 3 _ _ HBM1.out rfl rfl rfl Tryd.underlying3 rfl
  (try simp only [Act.put, sA, sB, sC])
  refine wpList_q (by rfl) (.bool true) ?he ?_
  case he => (go_simp; (first | done | (have q := H3.out; omega)))
  (try simp only [Act.put, sA, sB, sC])
  refine wpList_q (by rfl) (.bool true) ?he ?_
  case he => (first | rfl | (go_simp; (try with_reducible rfl)))
  (try simp only [Act.put, sA, sB, sC])
  refine wpList_q (by rfl) (.bool true) ?he ?_
  case he => (first | rfl | (go_simp; (try with_reducible rfl)))
  (try simp only [Act.put, sA, sB, sC])
  refine wpList_q (by rfl) (.pointer (some ⟨w.heap.size, 2, none⟩)) ?he ?_
  case he => (first | rfl | (go_simp; (try with_reducible rfl)))
  (try simp only [Act.put, sA, sB, sC])
  refine wpList_q (by rfl) (.int .i64 p.b) ?he ?_
  case he => exact exec_cell 3 _ _ HBM1.out rfl rfl rfl Tryd.underlying3 rfl
  (try simp only [Act.put, sA, sB, sC])
  refine wpList_q (by rfl) (.bool true) ?he ?_
  case he => (go_simp; (first | done | (have q := H4.out; omega)))
  (try simp only [Act.put, sA, sB, sC])
  refine wpList_q (by rfl) (.bool true) ?he ?_
  case he => (first | rfl | (go_simp; (try with_reducible rfl)))
  (try simp only [Act.put, sA, sB, sC])
  refine wpList_q (by rfl) (.bool true) ?he ?_
  case he => (first | rfl | (go_simp; (try with_reducible rfl)))
  (try simp only [Act.put, sA, sB, sC])
  refine wpList_q (by rfl) (.pointer (some ⟨w.heap.size, 2, none⟩)) ?he ?_
  case he => (first | rfl | (go_simp; (try with_reducible rfl)))
  (try simp only [Act.put, sA, sB, sC])
  refine wpList_q (by rfl) (.int .i64 p.b) ?he ?_
  case he => exact exec_cell 3 _ _ HBM1.out rfl rfl rfl Tryd.underlying3 rfl
  (try simp only [Act.put, sA, sB, sC])
  refine wpList_q (by rfl) (.bool true) ?he ?_
  case he => (go_simp; (first | done | (have q := H5.out; omega)))
  (try simp only [Act.put, sA, sB, sC])
  refine wpList_q (by rfl) (.bool true) ?he ?_
  case he => (first | rfl | (go_simp; (try with_reducible rfl)))
  (try simp only [Act.put, sA, sB, sC])
  refine wpList_q (by rfl) (.bool true) ?he ?_
  case he => (first | rfl | (go_simp; (try with_reducible rfl)))
  (try simp only [Act.put, sA, sB, sC])
  refine wpList_q (by rfl) (.pointer (some ⟨w.heap.size, 3, none⟩)) ?he ?_
  case he => (first | rfl | (go_simp; (try with_reducible rfl)))
  (try simp only [Act.put, sA, sB, sC])
  refine wpList_q (by rfl) (.int .i64 p.c) ?he ?_
  case he => exact exec_cell 3 _ _ HBM1.out rfl rfl rfl Tryd.underlying3 rfl
  (try simp only [Act.put, sA, sB, sC])
  refine wpList_q (by rfl) (.bool true) ?he ?_
  case he => (go_simp; (first | done | (have q := H6.out; omega)))
  (try simp only [Act.put, sA, sB, sC])
  refine wpList_q (by rfl) (.bool true) ?he ?_
  case he => (first | rfl | (go_simp; (try with_reducible rfl)))
  (try simp only [Act.put, sA, sB, sC])
  refine wpList_q (by rfl) (.bool true) ?he ?_
  case he => (first | rfl | (go_simp; (try with_reducible rfl)))
  (try simp only [Act.put, sA, sB, sC])
  refine wpList_q (by rfl) (.pointer (some ⟨w.heap.size, 3, none⟩)) ?he ?_
  case he => (first | rfl | (go_simp; (try with_reducible rfl)))
  (try simp only [Act.put, sA, sB, sC])
  refine wpList_q (by rfl) (.int .i64 p.c) ?he ?_
  case he => exact exec_cell 3 _ _ HBM1.out rfl rfl rfl Tryd.underlying3 rfl
  (try simp only [Act.put, sA, sB, sC])
  refine wpList_q (by rfl) (.bool true) ?he ?_
  case he => (go_simp; (first | done | (have q := H7.out; omega)))
  (try simp only [Act.put, sA, sB, sC])
  refine wpList_q (by rfl) (.bool true) ?he ?_
  case he => (first | rfl | (go_simp; (try with_reducible rfl)))
  (try simp only [Act.put, sA, sB, sC])
  refine wpList_q (by rfl) (.bool true) ?he ?_
  case he => (first | rfl | (go_simp; (try with_reducible rfl)))
  (try simp only [Act.put, sA, sB, sC])
  refine wpList_nil ?_
  (try go_wp2_with fail)
  go_ret
  exact ⟨rfl, HS1.out⟩
theorem mayMsgR (p : PktV) (w : World) : Calls Tryd.prog 18 #[.agg (msgC p)] w fun e w' => e = .returned (.bool (msgB p)) ∧ Since w w' := by
  by_cases h0 : 1 ≤ p.ki
  rotate_left
  · rw [show msgB p = false by rw [Bool.eq_false_iff]; intro hm; have := (msg_iff p).1 hm; omega]; exact mayMsg0 p h0 w
  by_cases h1 : p.ki ≤ 16
  rotate_left
  · rw [show msgB p = false by rw [Bool.eq_false_iff]; intro hm; have := (msg_iff p).1 hm; omega]; exact mayMsg1 p h0 h1 w
  by_cases h2 : 0 ≤ p.a
  rotate_left
  · rw [show msgB p = false by rw [Bool.eq_false_iff]; intro hm; have := (msg_iff p).1 hm; omega]; exact mayMsg2 p h0 h1 h2 w
  by_cases h3 : p.a < 2147483648
  rotate_left
  · rw [show msgB p = false by rw [Bool.eq_false_iff]; intro hm; have := (msg_iff p).1 hm; omega]; exact mayMsg3 p h0 h1 h2 h3 w
  by_cases h4 : 0 ≤ p.b
  rotate_left
  · rw [show msgB p = false by rw [Bool.eq_false_iff]; intro hm; have := (msg_iff p).1 hm; omega]; exact mayMsg4 p h0 h1 h2 h3 h4 w
  by_cases h5 : p.b < 2147483648
  rotate_left
  · rw [show msgB p = false by rw [Bool.eq_false_iff]; intro hm; have := (msg_iff p).1 hm; omega]; exact mayMsg5 p h0 h1 h2 h3 h4 h5 w
  by_cases h6 : 0 ≤ p.c
  rotate_left
  · rw [show msgB p = false by rw [Bool.eq_false_iff]; intro hm; have := (msg_iff p).1 hm; omega]; exact mayMsg6 p h0 h1 h2 h3 h4 h5 h6 w
  by_cases h7 : p.c < 2147483648
  rotate_left
  · rw [show msgB p = false by rw [Bool.eq_false_iff]; intro hm; have := (msg_iff p).1 hm; omega]; exact mayMsg7 p h0 h1 h2 h3 h4 h5 h6 h7 w
  rw [show msgB p = true by rw [msg_iff]; omega]; exact mayMsg8 p h0 h1 h2 h3 h4 h5 h6 h7 w
set_option maxHeartbeats 4000000 in
theorem mayPkt0 (p : PktV) (h0 : p.se < 0) (w : World) : Calls Tryd.prog 8 #[.agg (pktC p)] w fun e w' => e = .returned (.bool false) ∧ Since w w' := by
  have H0 := Lib.hid h0
  clear h0
  go_enter Tryd.func8, Tryd.ntmps8
  go_upto_region 1 with fail
  obtain ⟨w1, hw1⟩ : ∃ w1, w1 = (w.alloc (.cells (pktC p) 25)) := ⟨_, rfl⟩
  rw [← hw1]
  have HBP1 := Lib.hid (show Blk w1 (w.heap.size) 25 (pktC p) by rw [hw1]; exact Blk.at_ (by (try simp only [size_alloc])) _ _)
  have HS1 := Lib.hid (show Since w w1 by rw [hw1]; exact Since.alloc (Since.refl w) _)
  have hNE : w.heap.size ≤ w.heap.size := by omega
  have HNE := Lib.hid hNE
  clear hNE hw1
  have HNE3 := Lib.hid (show w.heap.size ≤ w.heap.size from HNE.out)
  clear HNE
  refine wp_region_lit ?_
  refine wpList_q (by rfl) (.pointer (some ⟨w.heap.size, 0, none⟩)) ?he ?_
  case he => (first | rfl | (go_simp; (try with_reducible rfl)))
  (try simp only [Act.put, sA, sB, sC])
  refine wpList_q (by rfl) (.int .i64 p.se) ?he ?_
  case he => exact exec_cell 3 _ _ HBP1.out rfl rfl rfl Tryd.underlying3 rfl
  (try simp only [Act.put, sA, sB, sC])
  refine wpList_q (by rfl) (.bool true) ?he ?_
  case he => (go_simp; (first | done | (have q := H0.out; omega)))
  (try simp only [Act.put, sA, sB, sC])
  refine wpList_q (by rfl) (.bool true) ?he ?_
  case he => (first | rfl | (go_simp; (try with_reducible rfl)))
  (try simp only [Act.put, sA, sB, sC])
  refine wpList_no (by rfl) ?_
  (try simp only [Act.put, sA, sB, sC])
  refine wpList_no (by rfl) ?_
  (try simp only [Act.put, sA, sB, sC])
  refine wpList_no (by rfl) ?_
  (try simp only [Act.put, sA, sB, sC])
  refine wpList_q (by rfl) (.bool true) ?he ?_
  case he => (first | rfl | (go_simp; (try with_reducible rfl)))
  (try simp only [Act.put, sA, sB, sC])
  refine wpList_q (by rfl) (.bool true) ?he ?_
  case he => (first | rfl | (go_simp; (try with_reducible rfl)))
  (try simp only [Act.put, sA, sB, sC])
  refine wpList_no (by rfl) ?_
  (try simp only [Act.put, sA, sB, sC])
  refine wpList_no (by rfl) ?_
  (try simp only [Act.put, sA, sB, sC])
  refine wpList_no (by rfl) ?_
  (try simp only [Act.put, sA, sB, sC])
  refine wpList_q (by rfl) (.bool true) ?he ?_
  case he => (first | rfl | (go_simp; (try with_reducible rfl)))
  (try simp only [Act.put, sA, sB, sC])
  refine wpList_q (by rfl) (.bool true) ?he ?_
  case he => (first | rfl | (go_simp; (try with_reducible rfl)))
  (try simp only [Act.put, sA, sB, sC])
  refine wpList_no (by rfl) ?_
  (try simp only [Act.put, sA, sB, sC])
  refine wpList_no (by rfl) ?_
  (try simp only [Act.put, sA, sB, sC])
  refine wpList_no (by rfl) ?_
  (try simp only [Act.put, sA, sB, sC])
  refine wpList_q (by rfl) (.bool true) ?he ?_
  case he => (first | rfl | (go_simp; (try with_reducible rfl)))
  (try simp only [Act.put, sA, sB, sC])
  refine wpList_q (by rfl) (.bool true) ?he ?_
  case he => (first | rfl | (go_simp; (try with_reducible rfl)))
  (try simp only [Act.put, sA, sB, sC])
  refine wpList_no (by rfl) ?_
  (try simp only [Act.put, sA, sB, sC])
  refine wpList_no (by rfl) ?_
  (try simp only [Act.put, sA, sB, sC])
  refine wpList_no (by rfl) ?_
  (try simp only [Act.put, sA, sB, sC])
  refine wpList_q (by rfl) (.bool true) ?he ?_
  case he => (first | rfl | (go_simp; (try with_reducible rfl)))
  (try simp only [Act.put, sA, sB, sC])
  refine wpList_q (by rfl) (.bool true) ?he ?_
  case he => (first | rfl | (go_simp; (try with_reducible rfl)))
  (try simp only [Act.put, sA, sB, sC])
  refine wpList_no (by rfl) ?_
  (try simp only [Act.put, sA, sB, sC])
  refine wpList_no (by rfl) ?_
  (try simp only [Act.put, sA, sB, sC])
  refine wpList_no (by rfl) ?_
  (try simp only [Act.put, sA, sB, sC])
  refine wpList_q (by rfl) (.bool true) ?he ?_
  case he => (first | rfl | (go_simp; (try with_reducible rfl)))
  (try simp only [Act.put, sA, sB, sC])
  refine wpList_q (by rfl) (.bool true) ?he ?_
  case he => (first | rfl | (go_simp; (try with_reducible rfl)))
  (try simp only [Act.put, sA, sB, sC])
  refine wpList_no (by rfl) ?_
  (try simp only [Act.put, sA, sB, sC])
  refine wpList_no (by rfl) ?_
  (try simp only [Act.put, sA, sB, sC])
  refine wpList_no (by rfl) ?_
  (try simp only [Act.put, sA, sB, sC])
  refine wpList_q (by rfl) (.bool true) ?he ?_
  case he => (first | rfl | (go_simp; (try with_reducible rfl)))
  (try simp only [Act.put, sA, sB, sC])
  refine wpList_q (by rfl) (.bool true) ?he ?_
  case he => (first | rfl | (go_simp; (try with_reducible rfl)))
  (try simp only [Act.put, sA, sB, sC])
  refine wpList_no (by rfl) ?_
  (try simp only [Act.put, sA, sB, sC])
  refine wpList_no (by rfl) ?_
  (try simp only [Act.put, sA, sB, sC])
  refine wpList_no (by rfl) ?_
  (try simp only [Act.put, sA, sB, sC])
  refine wpList_q (by rfl) (.bool true) ?he ?_
  case he => (first | rfl | (go_simp; (try with_reducible rfl)))
  (try simp only [Act.put, sA, sB, sC])
  refine wpList_nil ?_
  go_upto_region 2 with fail
  refine wp_region_lit ?_
  refine wpList_q (by rfl) (.bool false) ?he ?_
  case he => (first | rfl | (go_simp; (try with_reducible rfl)))
  (try simp only [Act.put, sA, sB, sC])
  refine wpList_nil ?_
  (try go_wp2_with fail)
  go_ret
  exact ⟨rfl, HS1.out⟩
set_option maxHeartbeats 4000000 in
theorem mayPkt1 (p : PktV) (h0 : ¬ (p.se < 0)) (h1 : 255 < p.se) (w : World) : Calls Tryd.prog 8 #[.agg (pktC p)] w fun e w' => e = .returned (.bool false) ∧ Since w w' := by
  have H0 := Lib.hid h0
  clear h0
  have H1 := Lib.hid h1
  clear h1
  go_enter Tryd.func8, Tryd.ntmps8
  go_upto_region 1 with fail
  obtain ⟨w1, hw1⟩ : ∃ w1, w1 = (w.alloc (.cells (pktC p) 25)) := ⟨_, rfl⟩
  rw [← hw1]
  have HBP1 := Lib.hid (show Blk w1 (w.heap.size) 25 (pktC p) by rw [hw1]; exact Blk.at_ (by (try simp only [size_alloc])) _ _)
  have HS1 := Lib.hid (show Since w w1 by rw [hw1]; exact Since.alloc (Since.refl w) _)
  have hNE : w.heap.size ≤ w.heap.size := by omega
  have HNE := Lib.hid hNE
  clear hNE hw1
  have HNE3 := Lib.hid (show w.heap.size ≤ w.heap.size from HNE.out)
  clear HNE
  refine wp_region_lit ?_
  refine wpList_q (by rfl) (.pointer (some ⟨w.heap.size, 0, none⟩)) ?he ?_
  case he => (first | rfl | (go_simp; (try with_reducible rfl)))
  (try simp only [Act.put, sA, sB, sC])
  refine wpList_q (by rfl) (.int .i64 p.se) ?he ?_
  case he => exact exec_cell 3 _ _ HBP1.out rfl rfl rfl Tryd.underlying3 rfl
  (try simp only [Act.put, sA, sB, sC])
  refine wpList_q (by rfl) (.bool false) ?he ?_
  case he => (go_simp; (first | done | (have q := H0.out; omega)))
  (try simp only [Act.put, sA, sB, sC])
  refine wpList_q (by rfl) (.bool false) ?he ?_
  case he => (first | rfl | (go_simp; (try with_reducible rfl)))
  (try simp only [Act.put, sA, sB, sC])
  refine wpList_q (by rfl) (.pointer (some ⟨w.heap.size, 0, none⟩)) ?he ?_
  case he => (first | rfl | (go_simp; (try with_reducible rfl)))
  (try simp only [Act.put, sA, sB, sC])
  refine wpList_q (by rfl) (.int .i64 p.se) ?he ?_
  case he => exact exec_cell 3 _ _ HBP1.out rfl rfl rfl Tryd.underlying3 rfl
  (try simp only [Act.put, sA, sB, sC])
  refine wpList_q (by rfl) (.bool true) ?he ?_
  case he => (go_simp; (first | done | (have q := H1.out; omega)))
  (try simp only [Act.put, sA, sB, sC])
  refine wpList_q (by rfl) (.bool true) ?he ?_
  case he => (first | rfl | (go_simp; (try with_reducible rfl)))
  (try simp only [Act.put, sA, sB, sC])
  refine wpList_q (by rfl) (.bool true) ?he ?_
  case he => (first | rfl | (go_simp; (try with_reducible rfl)))
  (try simp only [Act.put, sA, sB, sC])
  refine wpList_no (by rfl) ?_
  (try simp only [Act.put, sA, sB, sC])
  refine wpList_no (by rfl) ?_
  (try simp only [Act.put, sA, sB, sC])
  refine wpList_no (by rfl) ?_
  (try simp only [Act.put, sA, sB, sC])
  refine wpList_q (by rfl) (.bool true) ?he ?_
  case he => (first | rfl | (go_simp; (try with_reducible rfl)))
  (try simp only [Act.put, sA, sB, sC])
  refine wpList_q (by rfl) (.bool true) ?he ?_
  case he => (first | rfl | (go_simp; (try with_reducible rfl)))
  (try simp only [Act.put, sA, sB, sC])
  refine wpList_no (by rfl) ?_
  (try simp only [Act.put, sA, sB, sC])
  refine wpList_no (by rfl) ?_
  (try simp only [Act.put, sA, sB, sC])
  refine wpList_no (by rfl) ?_
  (try simp only [Act.put, sA, sB, sC])
  refine wpList_q (by rfl) (.bool true) ?he ?_
  case he => (first | rfl | (go_simp; (try with_reducible rfl)))
  (try simp only [Act.put, sA, sB, sC])
  refine wpList_q (by rfl) (.bool true) ?he ?_
  case he => (first | rfl | (go_simp; (try with_reducible rfl)))
  (try simp only [Act.put, sA, sB, sC])
  refine wpList_no (by rfl) ?_
  (try simp only [Act.put, sA, sB, sC])
  refine wpList_no (by rfl) ?_
  (try simp only [Act.put, sA, sB, sC])
  refine wpList_no (by rfl) ?_
  (try simp only [Act.put, sA, sB, sC])
  refine wpList_q (by rfl) (.bool true) ?he ?_
  case he => (first | rfl | (go_simp; (try with_reducible rfl)))
  (try simp only [Act.put, sA, sB, sC])
  refine wpList_q (by rfl) (.bool true) ?he ?_
  case he => (first | rfl | (go_simp; (try with_reducible rfl)))
  (try simp only [Act.put, sA, sB, sC])
  refine wpList_no (by rfl) ?_
  (try simp only [Act.put, sA, sB, sC])
  refine wpList_no (by rfl) ?_
  (try simp only [Act.put, sA, sB, sC])
  refine wpList_no (by rfl) ?_
  (try simp only [Act.put, sA, sB, sC])
  refine wpList_q (by rfl) (.bool true) ?he ?_
  case he => (first | rfl | (go_simp; (try with_reducible rfl)))
  (try simp only [Act.put, sA, sB, sC])
  refine wpList_q (by rfl) (.bool true) ?he ?_
  case he => (first | rfl | (go_simp; (try with_reducible rfl)))
  (try simp only [Act.put, sA, sB, sC])
  refine wpList_no (by rfl) ?_
  (try simp only [Act.put, sA, sB, sC])
  refine wpList_no (by rfl) ?_
  (try simp only [Act.put, sA, sB, sC])
  refine wpList_no (by rfl) ?_
  (try simp only [Act.put, sA, sB, sC])
  refine wpList_q (by rfl) (.bool true) ?he ?_
  case he => (first | rfl | (go_simp; (try with_reducible rfl)))
  (try simp only [Act.put, sA, sB, sC])
  refine wpList_q (by rfl) (.bool true) ?he ?_
  case he => (first | rfl | (go_simp; (try with_reducible rfl)))
  (try simp only [Act.put, sA, sB, sC])
  refine wpList_no (by rfl) ?_
  (try simp only [Act.put, sA, sB, sC])
  refine wpList_no (by rfl) ?_
  (try simp only [Act.put, sA, sB, sC])
  refine wpList_no (by rfl) ?_
  (try simp only [Act.put, sA, sB, sC])
  refine wpList_q (by rfl) (.bool true) ?he ?_
  case he => (first | rfl | (go_simp; (try with_reducible rfl)))
  (try simp only [Act.put, sA, sB, sC])
  refine wpList_nil ?_
  go_upto_region 2 with fail
  refine wp_region_lit ?_
  refine wpList_q (by rfl) (.bool false) ?he ?_
  case he => (first | rfl | (go_simp; (try with_reducible rfl)))
  (try simp only [Act.put, sA, sB, sC])
  refine wpList_nil ?_
  (try go_wp2_with fail)
  go_ret
  exact ⟨rfl, HS1.out⟩
set_option maxHeartbeats 4000000 in
theorem mayPkt2 (p : PktV) (h0 : ¬ (p.se < 0)) (h1 : ¬ (255 < p.se)) (h2 : p.ep < 0) (w : World) : Calls Tryd.prog 8 #[.agg (pktC p)] w fun e w' => e = .returned (.bool false) ∧ Since w w' := by
  have H0 := Lib.hid h0
  clear h0
  have H1 := Lib.hid h1
  clear h1
  have H2 := Lib.hid h2
  clear h2
  go_enter Tryd.func8, Tryd.ntmps8
  go_upto_region 1 with fail
  obtain ⟨w1, hw1⟩ : ∃ w1, w1 = (w.alloc (.cells (pktC p) 25)) := ⟨_, rfl⟩
  rw [← hw1]
  have HBP1 := Lib.hid (show Blk w1 (w.heap.size) 25 (pktC p) by rw [hw1]; exact Blk.at_ (by (try simp only [size_alloc])) _ _)
  have HS1 := Lib.hid (show Since w w1 by rw [hw1]; exact Since.alloc (Since.refl w) _)
  have hNE : w.heap.size ≤ w.heap.size := by omega
  have HNE := Lib.hid hNE
  clear hNE hw1
  have HNE3 := Lib.hid (show w.heap.size ≤ w.heap.size from HNE.out)
  clear HNE
  refine wp_region_lit ?_
  refine wpList_q (by rfl) (.pointer (some ⟨w.heap.size, 0, none⟩)) ?he ?_
  case he => (first | rfl | (go_simp; (try with_reducible rfl)))
  (try simp only [Act.put, sA, sB, sC])
  refine wpList_q (by rfl) (.int .i64 p.se) ?he ?_
  case he => exact exec_cell 3 _ _ HBP1.out rfl rfl rfl Tryd.underlying3 rfl
  (try simp only [Act.put, sA, sB, sC])
  refine wpList_q (by rfl) (.bool false) ?he ?_
  case he => (go_simp; (first | done | (have q := H0.out; omega)))
  (try simp only [Act.put, sA, sB, sC])
  refine wpList_q (by rfl) (.bool false) ?he ?_
  case he => (first | rfl | (go_simp; (try with_reducible rfl)))
  (try simp only [Act.put, sA, sB, sC])
  refine wpList_q (by rfl) (.pointer (some ⟨w.heap.size, 0, none⟩)) ?he ?_
  case he => (first | rfl | (go_simp; (try with_reducible rfl)))
  (try simp only [Act.put, sA, sB, sC])
  refine wpList_q (by rfl) (.int .i64 p.se) ?he ?_
  case he => exact exec_cell 3 _ _ HBP1.out rfl rfl rfl Tryd.underlying3 rfl
  (try simp only [Act.put, sA, sB, sC])
  refine wpList_q (by rfl) (.bool false) ?he ?_
  case he => (go_simp; (first | done | (have q := H1.out; omega)))
  (try simp only [Act.put, sA, sB, sC])
  refine wpList_q (by rfl) (.bool false) ?he ?_
  case he => (first | rfl | (go_simp; (try with_reducible rfl)))
  (try simp only [Act.put, sA, sB, sC])
  refine wpList_q (by rfl) (.bool false) ?he ?_
  case he => (first | rfl | (go_simp; (try with_reducible rfl)))
  (try simp only [Act.put, sA, sB, sC])
  refine wpList_q (by rfl) (.pointer (some ⟨w.heap.size, 1, none⟩)) ?he ?_
  case he => (first | rfl | (go_simp; (try with_reducible rfl)))
  (try simp only [Act.put, sA, sB, sC])
  refine wpList_q (by rfl) (.int .i64 p.ep) ?he ?_
  case he => exact exec_cell 3 _ _ HBP1.out rfl rfl rfl Tryd.underlying3 rfl
  (try simp only [Act.put, sA, sB, sC])
  refine wpList_q (by rfl) (.bool true) ?he ?_
  case he => (go_simp; (first | done | (have q := H2.out; omega)))
  (try simp only [Act.put, sA, sB, sC])
  refine wpList_q (by rfl) (.bool true) ?he ?_
  case he => (first | rfl | (go_simp; (try with_reducible rfl)))
  (try simp only [Act.put, sA, sB, sC])
  refine wpList_q (by rfl) (.bool true) ?he ?_
  case he => (first | rfl | (go_simp; (try with_reducible rfl)))
  (try simp only [Act.put, sA, sB, sC])
  refine wpList_no (by rfl) ?_
  (try simp only [Act.put, sA, sB, sC])
  refine wpList_no (by rfl) ?_
  (try simp only [Act.put, sA, sB, sC])
  refine wpList_no (by rfl) ?_
  (try simp only [Act.put, sA, sB, sC])
  refine wpList_q (by rfl) (.bool true) ?he ?_
  case he => (first | rfl | (go_simp; (try with_reducible rfl)))
  (try simp only [Act.put, sA, sB, sC])
  refine wpList_q (by rfl) (.bool true) ?he ?_
  case he => (first | rfl | (go_simp; (try with_reducible rfl)))
  (try simp only [Act.put, sA, sB, sC])
  refine wpList_no (by rfl) ?_
  (try simp only [Act.put, sA, sB, sC])
  refine wpList_no (by rfl) ?_
  (try simp only [Act.put, sA, sB, sC])
  refine wpList_no (by rfl) ?_
  (try simp only [Act.put, sA, sB, sC])
  refine wpList_q (by rfl) (.bool true) ?he ?_
  case he => (first | rfl | (go_simp; (try with_reducible rfl)))
  (try simp only [Act.put, sA, sB, sC])
  refine wpList_q (by rfl) (.bool true) ?he ?_
  case he => (first | rfl | (go_simp; (try with_reducible rfl)))
  (try simp only [Act.put, sA, sB, sC])
  refine wpList_no (by rfl) ?_
  (try simp only [Act.put, sA, sB, sC])
  refine wpList_no (by rfl) ?_
  (try simp only [Act.put, sA, sB, sC])
  refine wpList_no (by rfl) ?_
  (try simp only [Act.put, sA, sB, sC])
  refine wpList_q (by rfl) (.bool true) ?he ?_
  case he => (first | rfl | (go_simp; (try with_reducible rfl)))
  (try simp only [Act.put, sA, sB, sC])
  refine wpList_q (by rfl) (.bool true) ?he ?_
  case he => (first | rfl | (go_simp; (try with_reducible rfl)))
  (try simp only [Act.put, sA, sB, sC])
  refine wpList_no (by rfl) ?_
  (try simp only [Act.put, sA, sB, sC])
  refine wpList_no (by rfl) ?_
  (try simp only [Act.put, sA, sB, sC])
  refine wpList_no (by rfl) ?_
  (try simp only [Act.put, sA, sB, sC])
  refine wpList_q (by rfl) (.bool true) ?he ?_
  case he => (first | rfl | (go_simp; (try with_reducible rfl)))
  (try simp only [Act.put, sA, sB, sC])
  refine wpList_q (by rfl) (.bool true) ?he ?_
  case he => (first | rfl | (go_simp; (try with_reducible rfl)))
  (try simp only [Act.put, sA, sB, sC])
  refine wpList_no (by rfl) ?_
  (try simp only [Act.put, sA, sB, sC])
  refine wpList_no (by rfl) ?_
  (try simp only [Act.put, sA, sB, sC])
  refine wpList_no (by rfl) ?_
  (try simp only [Act.put, sA, sB, sC])
  refine wpList_q (by rfl) (.bool true) ?he ?_
  case he => (first | rfl | (go_simp; (try with_reducible rfl)))
  (try simp only [Act.put, sA, sB, sC])
  refine wpList_nil ?_
  go_upto_region 2 with fail
  refine wp_region_lit ?_
  refine wpList_q (by rfl) (.bool false) ?he ?_
  case he => (first | rfl | (go_simp; (try with_reducible rfl)))
  (try simp only [Act.put, sA, sB, sC])
  refine wpList_nil ?_
  (try go_wp2_with fail)
  go_ret
  exact ⟨rfl, HS1.out⟩
set_option maxHeartbeats 4000000 in
theorem mayPkt3 (p : PktV) (h0 : ¬ (p.se < 0)) (h1 : ¬ (255 < p.se)) (h2 : ¬ (p.ep < 0)) (h3 : 65535 < p.ep) (w : World) : Calls Tryd.prog 8 #[.agg (pktC p)] w fun e w' => e = .returned (.bool false) ∧ Since w w' := by
  have H0 := Lib.hid h0
  clear h0
  have H1 := Lib.hid h1
  clear h1
  have H2 := Lib.hid h2
  clear h2
  have H3 := Lib.hid h3
  clear h3
  go_enter Tryd.func8, Tryd.ntmps8
  go_upto_region 1 with fail
  obtain ⟨w1, hw1⟩ : ∃ w1, w1 = (w.alloc (.cells (pktC p) 25)) := ⟨_, rfl⟩
  rw [← hw1]
  have HBP1 := Lib.hid (show Blk w1 (w.heap.size) 25 (pktC p) by rw [hw1]; exact Blk.at_ (by (try simp only [size_alloc])) _ _)
  have HS1 := Lib.hid (show Since w w1 by rw [hw1]; exact Since.alloc (Since.refl w) _)
  have hNE : w.heap.size ≤ w.heap.size := by omega
  have HNE := Lib.hid hNE
  clear hNE hw1
  have HNE3 := Lib.hid (show w.heap.size ≤ w.heap.size from HNE.out)
  clear HNE
  refine wp_region_lit ?_
  refine wpList_q (by rfl) (.pointer (some ⟨w.heap.size, 0, none⟩)) ?he ?_
  case he => (first | rfl | (go_simp; (try with_reducible rfl)))
  (try simp only [Act.put, sA, sB, sC])
  refine wpList_q (by rfl) (.int .i64 p.se) ?he ?_
  case he => exact exec_cell 3 _ _ HBP1.out rfl rfl rfl Tryd.underlying3 rfl
  (try simp only [Act.put, sA, sB, sC])
  refine wpList_q (by rfl) (.bool false) ?he ?_
  case he => (go_simp; (first | done | (have q := H0.out; omega)))
  (try simp only [Act.put, sA, sB, sC])
  refine wpList_q (by rfl) (.bool false) ?he ?_
  case he => (first | rfl | (go_simp; (try with_reducible rfl)))
  (try simp only [Act.put, sA, sB, sC])
  refine wpList_q (by rfl) (.pointer (some ⟨w.heap.size, 0, none⟩)) ?he ?_
  case he => (first | rfl | (go_simp; (try with_reducible rfl)))
  (try simp only [Act.put, sA, sB, sC])
  refine wpList_q (by rfl) (.int .i64 p.se) ?he ?_
  case he => exact exec_cell 3 _ _ HBP1.out rfl rfl rfl Tryd.underlying3 rfl
  (try simp only [Act.put, sA, sB, sC])
  refine wpList_q (by rfl) (.bool false) ?he ?_
  case he => (go_simp; (first | done | (have q := H1.out; omega)))
  (try simp only [Act.put, sA, sB, sC])
  refine wpList_q (by rfl) (.bool false) ?he ?_
  case he => (first | rfl | (go_simp; (try with_reducible rfl)))
  (try simp only [Act.put, sA, sB, sC])
  refine wpList_q (by rfl) (.bool false) ?he ?_
  case he => (first | rfl | (go_simp; (try with_reducible rfl)))
  (try simp only [Act.put, sA, sB, sC])
  refine wpList_q (by rfl) (.pointer (some ⟨w.heap.size, 1, none⟩)) ?he ?_
  case he => (first | rfl | (go_simp; (try with_reducible rfl)))
  (try simp only [Act.put, sA, sB, sC])
  refine wpList_q (by rfl) (.int .i64 p.ep) ?he ?_
  case he => exact exec_cell 3 _ _ HBP1.out rfl rfl rfl Tryd.underlying3 rfl
  (try simp only [Act.put, sA, sB, sC])
  refine wpList_q (by rfl) (.bool false) ?he ?_
  case he => (go_simp; (first | done | (have q := H2.out; omega)))
  (try simp only [Act.put, sA, sB, sC])
  refine wpList_q (by rfl) (.bool false) ?he ?_
  case he => (first | rfl | (go_simp; (try with_reducible rfl)))
  (try simp only [Act.put, sA, sB, sC])
  refine wpList_q (by rfl) (.bool false) ?he ?_
  case he => (first | rfl | (go_simp; (try with_reducible rfl)))
  (try simp only [Act.put, sA, sB, sC])
  refine wpList_q (by rfl) (.pointer (some ⟨w.heap.size, 1, none⟩)) ?he ?_
  case he => (first | rfl | (go_simp; (try with_reducible rfl)))
  (try simp only [Act.put, sA, sB, sC])
  refine wpList_q (by rfl) (.int .i64 p.ep) ?he ?_
  case he => exact exec_cell 3 _ _ HBP1.out rfl rfl rfl Tryd.underlying3 rfl
  (try simp only [Act.put, sA, sB, sC])
  refine wpList_q (by rfl) (.bool true) ?he ?_
  case he => (go_simp; (first | done | (have q := H3.out; omega)))
  (try simp only [Act.put, sA, sB, sC])
  refine wpList_q (by rfl) (.bool true) ?he ?_
  case he => (first | rfl | (go_simp; (try with_reducible rfl)))
  (try simp only [Act.put, sA, sB, sC])
  refine wpList_q (by rfl) (.bool true) ?he ?_
  case he => (first | rfl | (go_simp; (try with_reducible rfl)))
  (try simp only [Act.put, sA, sB, sC])
  refine wpList_no (by rfl) ?_
  (try simp only [Act.put, sA, sB, sC])
  refine wpList_no (by rfl) ?_
  (try simp only [Act.put, sA, sB, sC])
  refine wpList_no (by rfl) ?_
  (try simp only [Act.put, sA, sB, sC])
  refine wpList_q (by rfl) (.bool true) ?he ?_
  case he => (first | rfl | (go_simp; (try with_reducible rfl)))
  (try simp only [Act.put, sA, sB, sC])
  refine wpList_q (by rfl) (.bool true) ?he ?_
  case he => (first | rfl | (go_simp; (try with_reducible rfl)))
  (try simp only [Act.put, sA, sB, sC])
  refine wpList_no (by rfl) ?_
  (try simp only [Act.put, sA, sB, sC])
  refine wpList_no (by rfl) ?_
  (try simp only [Act.put, sA, sB, sC])
  refine wpList_no (by rfl) ?_
  (try simp only [Act.put, sA, sB, sC])
  refine wpList_q (by rfl) (.bool true) ?he ?_
  case he => (first | rfl | (go_simp; (try with_reducible rfl)))
  (try simp only [Act.put, sA, sB, sC])
  refine wpList_q (by rfl) (.bool true) ?he ?_
  case he => (first | rfl | (go_simp; (try with_reducible rfl)))
  (try simp only [Act.put, sA, sB, sC])
  refine wpList_no (by rfl) ?_
  (try simp only [Act.put, sA, sB, sC])
  refine wpList_no (by rfl) ?_
  (try simp only [Act.put, sA, sB, sC])
  refine wpList_no (by rfl) ?_
  (try simp only [Act.put, sA, sB, sC])
  refine wpList_q (by rfl) (.bool true) ?he ?_
  case he => (first | rfl | (go_simp; (try with_reducible rfl)))
  (try simp only [Act.put, sA, sB, sC])
  refine wpList_q (by rfl) (.bool true) ?he ?_
  case he => (first | rfl | (go_simp; (try with_reducible rfl)))
  (try simp only [Act.put, sA, sB, sC])
  refine wpList_no (by rfl) ?_
  (try simp only [Act.put, sA, sB, sC])
  refine wpList_no (by rfl) ?_
  (try simp only [Act.put, sA, sB, sC])
  refine wpList_no (by rfl) ?_
  (try simp only [Act.put, sA, sB, sC])
  refine wpList_q (by rfl) (.bool true) ?he ?_
  case he => (first | rfl | (go_simp; (try with_reducible rfl)))
  (try simp only [Act.put, sA, sB, sC])
  refine wpList_nil ?_
  go_upto_region 2 with fail
  refine wp_region_lit ?_
  refine wpList_q (by rfl) (.bool false) ?he ?_
  case he => (first | rfl | (go_simp; (try with_reducible rfl)))
  (try simp only [Act.put, sA, sB, sC])
  refine wpList_nil ?_
  (try go_wp2_with fail)
  go_ret
  exact ⟨rfl, HS1.out⟩
set_option maxHeartbeats 4000000 in
theorem mayPkt4 (p : PktV) (h0 : ¬ (p.se < 0)) (h1 : ¬ (255 < p.se)) (h2 : ¬ (p.ep < 0)) (h3 : ¬ (65535 < p.ep)) (h4 : p.sq < 0) (w : World) : Calls Tryd.prog 8 #[.agg (pktC p)] w fun e w' => e = .returned (.bool false) ∧ Since w w' := by
  have H0 := Lib.hid h0
  clear h0
  have H1 := Lib.hid h1
  clear h1
  have H2 := Lib.hid h2
  clear h2
  have H3 := Lib.hid h3
  clear h3
  have H4 := Lib.hid h4
  clear h4
  go_enter Tryd.func8, Tryd.ntmps8
  go_upto_region 1 with fail
  obtain ⟨w1, hw1⟩ : ∃ w1, w1 = (w.alloc (.cells (pktC p) 25)) := ⟨_, rfl⟩
  rw [← hw1]
  have HBP1 := Lib.hid (show Blk w1 (w.heap.size) 25 (pktC p) by rw [hw1]; exact Blk.at_ (by (try simp only [size_alloc])) _ _)
  have HS1 := Lib.hid (show Since w w1 by rw [hw1]; exact Since.alloc (Since.refl w) _)
  have hNE : w.heap.size ≤ w.heap.size := by omega
  have HNE := Lib.hid hNE
  clear hNE hw1
  have HNE3 := Lib.hid (show w.heap.size ≤ w.heap.size from HNE.out)
  clear HNE
  refine wp_region_lit ?_
  refine wpList_q (by rfl) (.pointer (some ⟨w.heap.size, 0, none⟩)) ?he ?_
  case he => (first | rfl | (go_simp; (try with_reducible rfl)))
  (try simp only [Act.put, sA, sB, sC])
  refine wpList_q (by rfl) (.int .i64 p.se) ?he ?_
  case he => exact exec_cell 3 _ _ HBP1.out rfl rfl rfl Tryd.underlying3 rfl
  (try simp only [Act.put, sA, sB, sC])
  refine wpList_q (by rfl) (.bool false) ?he ?_
  case he => (go_simp; (first | done | (have q := H0.out; omega)))
  (try simp only [Act.put, sA, sB, sC])
  refine wpList_q (by rfl) (.bool false) ?he ?_
  case he => (first | rfl | (go_simp; (try with_reducible rfl)))
  (try simp only [Act.put, sA, sB, sC])
  refine wpList_q (by rfl) (.pointer (some ⟨w.heap.size, 0, none⟩)) ?he ?_
  case he => (first | rfl | (go_simp; (try with_reducible rfl)))
  (try simp only [Act.put, sA, sB, sC])
  refine wpList_q (by rfl) (.int .i64 p.se) ?he ?_
  case he => exact exec_cell 3 _ _ HBP1.out rfl rfl rfl Tryd.underlying3 rfl
  (try simp only [Act.put, sA, sB, sC])
  refine wpList_q (by rfl) (.bool false) ?he ?_
  case he => (go_simp; (first | done | (have q := H1.out; omega)))
  (try simp only [Act.put, sA, sB, sC])
  refine wpList_q (by rfl) (.bool false) ?he ?_
  case he => (first | rfl | (go_simp; (try with_reducible rfl)))
  (try simp only [Act.put, sA, sB, sC])
  refine wpList_q (by rfl) (.bool false) ?he ?_
  case he => (first | rfl | (go_simp; (try with_reducible rfl)))
  (try simp only [Act.put, sA, sB, sC])
  refine wpList_q (by rfl) (.pointer (some ⟨w.heap.size, 1, none⟩)) ?he ?_
  case he => (first | rfl | (go_simp; (try with_reducible rfl)))
  (try simp only [Act.put, sA, sB, sC])
  refine wpList_q (by rfl) (.int .i64 p.ep) ?he ?_
  case he => exact exec_cell 3 _ _ HBP1.out rfl rfl rfl Tryd.underlying3 rfl
  (try simp only [Act.put, sA, sB, sC])
  refine wpList_q (by rfl) (.bool false) ?he ?_
  case he => (go_simp; (first | done | (have q := H2.out; omega)))
  (try simp only [Act.put, sA, sB, sC])
  refine wpList_q (by rfl) (.bool false) ?he ?_
  case he => (first | rfl | (go_simp; (try with_reducible rfl)))
  (try simp only [Act.put, sA, sB, sC])
  refine wpList_q (by rfl) (.bool false) ?he ?_
  case he => (first | rfl | (go_simp; (try with_reducible rfl)))
  (try simp only [Act.put, sA, sB, sC])
  refine wpList_q (by rfl) (.pointer (some ⟨w.heap.size, 1, none⟩)) ?he ?_
  case he => (first | rfl | (go_simp; (try with_reducible rfl)))
  (try simp only [Act.put, sA, sB, sC])
  refine wpList_q (by rfl) (.int .i64 p.ep) ?he ?_
  case he => exact exec_cell 3 _ _ HBP1.out rfl rfl rfl Tryd.underlying3 rfl
  (try simp only [Act.put, sA, sB, sC])
  refine wpList_q (by rfl) (.bool false) ?he ?_
  case he => (go_simp; (first | done | (have q := H3.out; omega)))
  (try simp only [Act.put, sA, sB, sC])
  refine wpList_q (by rfl) (.bool false) ?he ?_
  case he => (first | rfl | (go_simp; (try with_reducible rfl)))
  (try simp only [Act.put, sA, sB, sC])
  refine wpList_q (by rfl) (.bool false) ?he ?_
  case he => (first | rfl | (go_simp; (try with_reducible rfl)))
  (try simp only [Act.put, sA, sB, sC])
  refine wpList_q (by rfl) (.pointer (some ⟨w.heap.size, 2, none⟩)) ?he ?_
  case he => (first | rfl | (go_simp; (try with_reducible rfl)))
  (try simp only [Act.put, sA, sB, sC])
  refine wpList_q (by rfl) (.int .i64 p.sq) ?he ?_
  case he => exact exec_cell 3 _ _ HBP1.out rfl rfl rfl Tryd.underlying3 rfl
  (try simp only [Act.put, sA, sB, sC])
  refine wpList_q (by rfl) (.bool true) ?he ?_
  case he => (go_simp; (first | done | (have q := H4.out; omega)))
  (try simp only [Act.put, sA, sB, sC])
  refine wpList_q (by rfl) (.bool true) ?he ?_
  case he => (first | rfl | (go_simp; (try with_reducible rfl)))
  (try simp only [Act.put, sA, sB, sC])
  refine wpList_q (by rfl) (.bool true) ?he ?_
  case he => (first | rfl | (go_simp; (try with_reducible rfl)))
  (try simp only [Act.put, sA, sB, sC])
  refine wpList_no (by rfl) ?_
  (try simp only [Act.put, sA, sB, sC])
  refine wpList_no (by rfl) ?_
  (try simp only [Act.put, sA, sB, sC])
  refine wpList_no (by rfl) ?_
  (try simp only [Act.put, sA, sB, sC])
  refine wpList_q (by rfl) (.bool true) ?he ?_
  case he => (first | rfl | (go_simp; (try with_reducible rfl)))
  (try simp only [Act.put, sA, sB, sC])
  refine wpList_q (by rfl) (.bool true) ?he ?_
  case he => (first | rfl | (go_simp; (try with_reducible rfl)))
  (try simp only [Act.put, sA, sB, sC])
  refine wpList_no (by rfl) ?_
  (try simp only [Act.put, sA, sB, sC])
  refine wpList_no (by rfl) ?_
  (try simp only [Act.put, sA, sB, sC])
  refine wpList_no (by rfl) ?_
  (try simp only [Act.put, sA, sB, sC])
  refine wpList_q (by rfl) (.bool true) ?he ?_
  case he => (first | rfl | (go_simp; (try with_reducible rfl)))
  (try simp only [Act.put, sA, sB, sC])
  refine wpList_q (by rfl) (.bool true) ?he ?_
  case he => (first | rfl | (go_simp; (try with_reducible rfl)))
  (try simp only [Act.put, sA, sB, sC])
  refine wpList_no (by rfl) ?_
  (try simp only [Act.put, sA, sB, sC])
  refine wpList_no (by rfl) ?_
  (try simp only [Act.put, sA, sB, sC])
  refine wpList_no (by rfl) ?_
  (try simp only [Act.put, sA, sB, sC])
  refine wpList_q (by rfl) (.bool true) ?he ?_
  case he => (first | rfl | (go_simp; (try with_reducible rfl)))
  (try simp only [Act.put, sA, sB, sC])
  refine wpList_nil ?_
  go_upto_region 2 with fail
  refine wp_region_lit ?_
  refine wpList_q (by rfl) (.bool false) ?he ?_
  case he => (first | rfl | (go_simp; (try with_reducible rfl)))
  (try simp only [Act.put, sA, sB, sC])
  refine wpList_nil ?_
  (try go_wp2_with fail)
  go_ret
  exact ⟨rfl, HS1.out⟩
set_option maxHeartbeats 4000000 in
theorem mayPkt5 (p : PktV) (h0 : ¬ (p.se < 0)) (h1 : ¬ (255 < p.se)) (h2 : ¬ (p.ep < 0)) (h3 : ¬ (65535 < p.ep)) (h4 : ¬ (p.sq < 0)) (h5 : 65535 < p.sq) (w : World) : Calls Tryd.prog 8 #[.agg (pktC p)] w fun e w' => e = .returned (.bool false) ∧ Since w w' := by
  have H0 := Lib.hid h0
  clear h0
  have H1 := Lib.hid h1
  clear h1
  have H2 := Lib.hid h2
  clear h2
  have H3 := Lib.hid h3
  clear h3
  have H4 := Lib.hid h4
  clear h4
  have H5 := Lib.hid h5
  clear h5
  go_enter Tryd.func8, Tryd.ntmps8
  go_upto_region 1 with fail
  obtain ⟨w1, hw1⟩ : ∃ w1, w1 = (w.alloc (.cells (pktC p) 25)) := ⟨_, rfl⟩
  rw [← hw1]
  have HBP1 := Lib.hid (show Blk w1 (w.heap.size) 25 (pktC p) by rw [hw1]; exact Blk.at_ (by (try simp only [size_alloc])) _ _)
  have HS1 := Lib.hid (show Since w w1 by rw [hw1]; exact Since.alloc (Since.refl w) _)
  have hNE : w.heap.size ≤ w.heap.size := by omega
  have HNE := Lib.hid hNE
  clear hNE hw1
  have HNE3 := Lib.hid (show w.heap.size ≤ w.heap.size from HNE.out)
  clear HNE
  refine wp_region_lit ?_
  refine wpList_q (by rfl) (.pointer (some ⟨w.heap.size, 0, none⟩)) ?he ?_
  case he => (first | rfl | (go_simp; (try with_reducible rfl)))
  (try simp only [Act.put, sA, sB, sC])
  refine wpList_q (by rfl) (.int .i64 p.se) ?he ?_
  case he => exact exec_cell 3 _ _ HBP1.out rfl rfl rfl Tryd.underlying3 rfl
  (try simp only [Act.put, sA, sB, sC])
  refine wpList_q (by rfl) (.bool false) ?he ?_
  case he => (go_simp; (first | done | (have q := H0.out; omega)))
  (try simp only [Act.put, sA, sB, sC])
  refine wpList_q (by rfl) (.bool false) ?he ?_
  case he => (first | rfl | (go_simp; (try with_reducible rfl)))
  (try simp only [Act.put, sA, sB, sC])
  refine wpList_q (by rfl) (.pointer (some ⟨w.heap.size, 0, none⟩)) ?he ?_
  case he => (first | rfl | (go_simp; (try with_reducible rfl)))
  (try simp only [Act.put, sA, sB, sC])
  refine wpList_q (by rfl) (.int .i64 p.se) ?he ?_
  case he => exact exec_cell 3 _ _ HBP1.out rfl rfl rfl Tryd.underlying3 rfl
  (try simp only [Act.put, sA, sB, sC])
  refine wpList_q (by rfl) (.bool false) ?he ?_
  case he => (go_simp; (first | done | (have q := H1.out; omega)))
  (try simp only [Act.put, sA, sB, sC])
  refine wpList_q (by rfl) (.bool false) ?he ?_
  case he => (first | rfl | (go_simp; (try with_reducible rfl)))
  (try simp only [Act.put, sA, sB, sC])
  refine wpList_q (by rfl) (.bool false) ?he ?_
  case he => (first | rfl | (go_simp; (try with_reducible rfl)))
  (try simp only [Act.put, sA, sB, sC])
  refine wpList_q (by rfl) (.pointer (some ⟨w.heap.size, 1, none⟩)) ?he ?_
  case he => (first | rfl | (go_simp; (try with_reducible rfl)))
  (try simp only [Act.put, sA, sB, sC])
  refine wpList_q (by rfl) (.int .i64 p.ep) ?he ?_
  case he => exact exec_cell 3 _ _ HBP1.out rfl rfl rfl Tryd.underlying3 rfl
  (try simp only [Act.put, sA, sB, sC])
  refine wpList_q (by rfl) (.bool false) ?he ?_
  case he => (go_simp; (first | done | (have q := H2.out; omega)))
  (try simp only [Act.put, sA, sB, sC])
  refine wpList_q (by rfl) (.bool false) ?he ?_
  case he => (first | rfl | (go_simp; (try with_reducible rfl)))
  (try simp only [Act.put, sA, sB, sC])
  refine wpList_q (by rfl) (.bool false) ?he ?_
  case he => (first | rfl | (go_simp; (try with_reducible rfl)))
  (try simp only [Act.put, sA, sB, sC])
  refine wpList_q (by rfl) (.pointer (some ⟨w.heap.size, 1, none⟩)) ?he ?_
  case he => (first | rfl | (go_simp; (try with_reducible rfl)))
  (try simp only [Act.put, sA, sB, sC])
  refine wpList_q (by rfl) (.int .i64 p.ep) ?he ?_
  case he => exact exec_cell 3 _ _ HBP1.out rfl rfl rfl Tryd.underlying3 rfl
  (try simp only [Act.put, sA, sB, sC])
  refine wpList_q (by rfl) (.bool false) ?he ?_
  case he => (go_simp; (first | done | (have q := H3.out; omega)))
  (try simp only [Act.put, sA, sB, sC])
  refine wpList_q (by rfl) (.bool false) ?he ?_
  case he => (first | rfl | (go_simp; (try with_reducible rfl)))
  (try simp only [Act.put, sA, sB, sC])
  refine wpList_q (by rfl) (.bool false) ?he ?_
  case he => (first | rfl | (go_simp; (try with_reducible rfl)))
  (try simp only [Act.put, sA, sB, sC])
  refine wpList_q (by rfl) (.pointer (some ⟨w.heap.size, 2, none⟩)) ?he ?_
  case he => (first | rfl | (go_simp; (try with_reducible rfl)))
  (try simp only [Act.put, sA, sB, sC])
  refine wpList_q (by rfl) (.int .i64 p.sq) ?he ?_
  case he => exact exec_cell 3 _ _ HBP1.out rfl rfl rfl Tryd.underlying3 rfl
  (try simp only [Act.put, sA, sB, sC])
  refine wpList_q (by rfl) (.bool false) ?he ?_
  case he => (go_simp; (first | done | (have q := H4.out; omega)))
  (try simp only [Act.put, sA, sB, sC])
  refine wpList_q (by rfl) (.bool false) ?he ?_
  case he => (first | rfl | (go_simp; (try with_reducible rfl)))
  (try simp only [Act.put, sA, sB, sC])
  refine wpList_q (by rfl) (.bool false) ?he ?_
  case he => (first | rfl | (go_simp; (try with_reducible rfl)))
  (try simp only [Act.put, sA, sB, sC])
  refine wpList_q (by rfl) (.pointer (some ⟨w.heap.size, 2, none⟩)) ?he ?_
  case he => (first | rfl | (go_simp; (try with_reducible rfl)))
  (try simp only [Act.put, sA, sB, sC])
  refine wpList_q (by rfl) (.int .i64 p.sq) ?he ?_
  case he => exact exec_cell 3 _ _ HBP1.out rfl rfl rfl Tryd.underlying3 rfl
  (try simp only [Act.put, sA, sB, sC])
  refine wpList_q (by rfl) (.bool true) ?he ?_
  case he => (go_simp; (first | done | (have q := H5.out; omega)))
  (try simp only [Act.put, sA, sB, sC])
  refine wpList_q (by rfl) (.bool true) ?he ?_
  case he => (first | rfl | (go_simp; (try with_reducible rfl)))
  (try simp only [Act.put, sA, sB, sC])
  refine wpList_q (by rfl) (.bool true) ?he ?_
  case he => (first | rfl | (go_simp; (try with_reducible rfl)))
  (try simp only [Act.put, sA, sB, sC])
  refine wpList_no (by rfl) ?_
  (try simp only [Act.put, sA, sB, sC])
  refine wpList_no (by rfl) ?_
  (try simp only [Act.put, sA, sB, sC])
  refine wpList_no (by rfl) ?_
  (try simp only [Act.put, sA, sB, sC])
  refine wpList_q (by rfl) (.bool true) ?he ?_
  case he => (first | rfl | (go_simp; (try with_reducible rfl)))
  (try simp only [Act.put, sA, sB, sC])
  refine wpList_q (by rfl) (.bool true) ?he ?_
  case he => (first | rfl | (go_simp; (try with_reducible rfl)))
  (try simp only [Act.put, sA, sB, sC])
  refine wpList_no (by rfl) ?_
  (try simp only [Act.put, sA, sB, sC])
  refine wpList_no (by rfl) ?_
  (try simp only [Act.put, sA, sB, sC])
  refine wpList_no (by rfl) ?_
  (try simp only [Act.put, sA, sB, sC])
  refine wpList_q (by rfl) (.bool true) ?he ?_
  case he => (first | rfl | (go_simp; (try with_reducible rfl)))
  (try simp only [Act.put, sA, sB, sC])
  refine wpList_nil ?_
  go_upto_region 2 with fail
  refine wp_region_lit ?_
  refine wpList_q (by rfl) (.bool false) ?he ?_
  case he => (first | rfl | (go_simp; (try with_reducible rfl)))
  (try simp only [Act.put, sA, sB, sC])
  refine wpList_nil ?_
  (try go_wp2_with fail)
  go_ret
  exact ⟨rfl, HS1.out⟩
set_option maxHeartbeats 4000000 in
theorem mayPkt6 (p : PktV) (h0 : ¬ (p.se < 0)) (h1 : ¬ (255 < p.se)) (h2 : ¬ (p.ep < 0)) (h3 : ¬ (65535 < p.ep)) (h4 : ¬ (p.sq < 0)) (h5 : ¬ (65535 < p.sq)) (h6 : p.ak < 0) (w : World) : Calls Tryd.prog 8 #[.agg (pktC p)] w fun e w' => e = .returned (.bool false) ∧ Since w w' := by
  have H0 := Lib.hid h0
  clear h0
  have H1 := Lib.hid h1
  clear h1
  have H2 := Lib.hid h2
  clear h2
  have H3 := Lib.hid h3
  clear h3
  have H4 := Lib.hid h4
  clear h4
  have H5 := Lib.hid h5
  clear h5
  have H6 := Lib.hid h6
  clear h6
  go_enter Tryd.func8, Tryd.ntmps8
  go_upto_region 1 with fail
  obtain ⟨w1, hw1⟩ : ∃ w1, w1 = (w.alloc (.cells (pktC p) 25)) := ⟨_, rfl⟩
  rw [← hw1]
  have HBP1 := Lib.hid (show Blk w1 (w.heap.size) 25 (pktC p) by rw [hw1]; exact Blk.at_ (by (try simp only [size_alloc])) _ _)
  have HS1 := Lib.hid (show Since w w1 by rw [hw1]; exact Since.alloc (Since.refl w) _)
  have hNE : w.heap.size ≤ w.heap.size := by omega
  have HNE := Lib.hid hNE
  clear hNE hw1
  have HNE3 := Lib.hid (show w.heap.size ≤ w.heap.size from HNE.out)
  clear HNE
  refine wp_region_lit ?_
  refine wpList_q (by rfl) (.pointer (some ⟨w.heap.size, 0, none⟩)) ?he ?_
  case he => (first | rfl | (go_simp; (try with_reducible rfl)))
  (try simp only [Act.put, sA, sB, sC])
  refine wpList_q (by rfl) (.int .i64 p.se) ?he ?_
  case he => exact exec_cell 3 _ _ HBP1.out rfl rfl rfl Tryd.underlying3 rfl
  (try simp only [Act.put, sA, sB, sC])
  refine wpList_q (by rfl) (.bool false) ?he ?_
  case he => (go_simp; (first | done | (have q := H0.out; omega)))
  (try simp only [Act.put, sA, sB, sC])
  refine wpList_q (by rfl) (.bool false) ?he ?_
  case he => (first | rfl | (go_simp; (try with_reducible rfl)))
  (try simp only [Act.put, sA, sB, sC])
  refine wpList_q (by rfl) (.pointer (some ⟨w.heap.size, 0, none⟩)) ?he ?_
  case he => (first | rfl | (go_simp; (try with_reducible rfl)))
  (try simp only [Act.put, sA, sB, sC])
  refine wpList_q (by rfl) (.int .i64 p.se) ?he ?_
  case he => exact exec_cell 3 _ _ HBP1.out rfl rfl rfl Tryd.underlying3 rfl
  (try simp only [Act.put, sA, sB, sC])
  refine wpList_q (by rfl) (.bool false) ?he ?_
  case he => (go_simp; (first | done | (have q := H1.out; omega)))
  (try simp only [Act.put, sA, sB, sC])
  refine wpList_q (by rfl) (.bool false) ?he ?_
  case he => (first | rfl | (go_simp; (try with_reducible rfl)))
  (try simp only [Act.put, sA, sB, sC])
  refine wpList_q (by rfl) (.bool false) ?he ?_
  case he => (first | rfl | (go_simp; (try with_reducible rfl)))
  (try simp only [Act.put, sA, sB, sC])
  refine wpList_q (by rfl) (.pointer (some ⟨w.heap.size, 1, none⟩)) ?he ?_
  case he => (first | rfl | (go_simp; (try with_reducible rfl)))
  (try simp only [Act.put, sA, sB, sC])
  refine wpList_q (by rfl) (.int .i64 p.ep) ?he ?_
  case he => exact exec_cell 3 _ _ HBP1.out rfl rfl rfl Tryd.underlying3 rfl
  (try simp only [Act.put, sA, sB, sC])
  refine wpList_q (by rfl) (.bool false) ?he ?_
  case he => (go_simp; (first | done | (have q := H2.out; omega)))
  (try simp only [Act.put, sA, sB, sC])
  refine wpList_q (by rfl) (.bool false) ?he ?_
  case he => (first | rfl | (go_simp; (try with_reducible rfl)))
  (try simp only [Act.put, sA, sB, sC])
  refine wpList_q (by rfl) (.bool false) ?he ?_
  case he => (first | rfl | (go_simp; (try with_reducible rfl)))
  (try simp only [Act.put, sA, sB, sC])
  refine wpList_q (by rfl) (.pointer (some ⟨w.heap.size, 1, none⟩)) ?he ?_
  case he => (first | rfl | (go_simp; (try with_reducible rfl)))
  (try simp only [Act.put, sA, sB, sC])
  refine wpList_q (by rfl) (.int .i64 p.ep) ?he ?_
  case he => exact exec_cell 3 _ _ HBP1.out rfl rfl rfl Tryd.underlying3 rfl
  (try simp only [Act.put, sA, sB, sC])
  refine wpList_q (by rfl) (.bool false) ?he ?_
  case he => (go_simp; (first | done | (have q := H3.out; omega)))
  (try simp only [Act.put, sA, sB, sC])
  refine wpList_q (by rfl) (.bool false) ?he ?_
  case he => (first | rfl | (go_simp; (try with_reducible rfl)))
  (try simp only [Act.put, sA, sB, sC])
  refine wpList_q (by rfl) (.bool false) ?he ?_
  case he => (first | rfl | (go_simp; (try with_reducible rfl)))
  (try simp only [Act.put, sA, sB, sC])
  refine wpList_q (by rfl) (.pointer (some ⟨w.heap.size, 2, none⟩)) ?he ?_
  case he => (first | rfl | (go_simp; (try with_reducible rfl)))
  (try simp only [Act.put, sA, sB, sC])
  refine wpList_q (by rfl) (.int .i64 p.sq) ?he ?_
  case he => exact exec_cell 3 _ _ HBP1.out rfl rfl rfl Tryd.underlying3 rfl
  (try simp only [Act.put, sA, sB, sC])
  refine wpList_q (by rfl) (.bool false) ?he ?_
  case he => (go_simp; (first | done | (have q := H4.out; omega)))
  (try simp only [Act.put, sA, sB, sC])
  refine wpList_q (by rfl) (.bool false) ?he ?_
  case he => (first | rfl | (go_simp; (try with_reducible rfl)))
  (try simp only [Act.put, sA, sB, sC])
  refine wpList_q (by rfl) (.bool false) ?he ?_
  case he => (first | rfl | (go_simp; (try with_reducible rfl)))
  (try simp only [Act.put, sA, sB, sC])
  refine wpList_q (by rfl) (.pointer (some ⟨w.heap.size, 2, none⟩)) ?he ?_
  case he => (first | rfl | (go_simp; (try with_reducible rfl)))
  (try simp only [Act.put, sA, sB, sC])
  refine wpList_q (by rfl) (.int .i64 p.sq) ?he ?_
  case he => exact exec_cell 3 _ _ HBP1.out rfl rfl rfl Tryd.underlying3 rfl
  (try simp only [Act.put, sA, sB, sC])
  refine wpList_q (by rfl) (.bool false) ?he ?_
  case he => (go_simp; (first | done | (have q := H5.out; omega)))
  (try simp only [Act.put, sA, sB, sC])
  refine wpList_q (by rfl) (.bool false) ?he ?_
  case he => (first | rfl | (go_simp; (try with_reducible rfl)))
  (try simp only [Act.put, sA, sB, sC])
  refine wpList_q (by rfl) (.bool false) ?he ?_
  case he => (first | rfl | (go_simp; (try with_reducible rfl)))
  (try simp only [Act.put, sA, sB, sC])
  refine wpList_q (by rfl) (.pointer (some ⟨w.heap.size, 3, none⟩)) ?he ?_
  case he => (first | rfl | (go_simp; (try with_reducible rfl)))
  (try simp only [Act.put, sA, sB, sC])
  refine wpList_q (by rfl) (.int .i64 p.ak) ?he ?_
  case he => exact exec_cell 3 _ _ HBP1.out rfl rfl rfl Tryd.underlying3 rfl
  (try simp only [Act.put, sA, sB, sC])
  refine wpList_q (by rfl) (.bool true) ?he ?_
  case he => (go_simp; (first | done | (have q := H6.out; omega)))
  (try simp only [Act.put, sA, sB, sC])
  refine wpList_q (by rfl) (.bool true) ?he ?_
  case he => (first | rfl | (go_simp; (try with_reducible rfl)))
  (try simp only [Act.put, sA, sB, sC])
  refine wpList_q (by rfl) (.bool true) ?he ?_
  case he => (first | rfl | (go_simp; (try with_reducible rfl)))
  (try simp only [Act.put, sA, sB, sC])
  refine wpList_no (by rfl) ?_
  (try simp only [Act.put, sA, sB, sC])
  refine wpList_no (by rfl) ?_
  (try simp only [Act.put, sA, sB, sC])
  refine wpList_no (by rfl) ?_
  (try simp only [Act.put, sA, sB, sC])
  refine wpList_q (by rfl) (.bool true) ?he ?_
  case he => (first | rfl | (go_simp; (try with_reducible rfl)))
  (try simp only [Act.put, sA, sB, sC])
  refine wpList_nil ?_
  go_upto_region 2 with fail
  refine wp_region_lit ?_
  refine wpList_q (by rfl) (.bool false) ?he ?_
  case he => (first | rfl | (go_simp; (try with_reducible rfl)))
  (try simp only [Act.put, sA, sB, sC])
  refine wpList_nil ?_
  (try go_wp2_with fail)
  go_ret
  exact ⟨rfl, HS1.out⟩
set_option maxHeartbeats 4000000 in
theorem mayPkt7 (p : PktV) (h0 : ¬ (p.se < 0)) (h1 : ¬ (255 < p.se)) (h2 : ¬ (p.ep < 0)) (h3 : ¬ (65535 < p.ep)) (h4 : ¬ (p.sq < 0)) (h5 : ¬ (65535 < p.sq)) (h6 : ¬ (p.ak < 0)) (h7 : 65535 < p.ak) (w : World) : Calls Tryd.prog 8 #[.agg (pktC p)] w fun e w' => e = .returned (.bool false) ∧ Since w w' := by
  have H0 := Lib.hid h0
  clear h0
  have H1 := Lib.hid h1
  clear h1
  have H2 := Lib.hid h2
  clear h2
  have H3 := Lib.hid h3
  clear h3
  have H4 := Lib.hid h4
  clear h4
  have H5 := Lib.hid h5
  clear h5
  have H6 := Lib.hid h6
  clear h6
  have H7 := Lib.hid h7
  clear h7
  go_enter Tryd.func8, Tryd.ntmps8
  go_upto_region 1 with fail
  obtain ⟨w1, hw1⟩ : ∃ w1, w1 = (w.alloc (.cells (pktC p) 25)) := ⟨_, rfl⟩
  rw [← hw1]
  have HBP1 := Lib.hid (show Blk w1 (w.heap.size) 25 (pktC p) by rw [hw1]; exact Blk.at_ (by (try simp only [size_alloc])) _ _)
  have HS1 := Lib.hid (show Since w w1 by rw [hw1]; exact Since.alloc (Since.refl w) _)
  have hNE : w.heap.size ≤ w.heap.size := by omega
  have HNE := Lib.hid hNE
  clear hNE hw1
  have HNE3 := Lib.hid (show w.heap.size ≤ w.heap.size from HNE.out)
  clear HNE
  refine wp_region_lit ?_
  refine wpList_q (by rfl) (.pointer (some ⟨w.heap.size, 0, none⟩)) ?he ?_
  case he => (first | rfl | (go_simp; (try with_reducible rfl)))
  (try simp only [Act.put, sA, sB, sC])
  refine wpList_q (by rfl) (.int .i64 p.se) ?he ?_
  case he => exact exec_cell 3 _ _ HBP1.out rfl rfl rfl Tryd.underlying3 rfl
  (try simp only [Act.put, sA, sB, sC])
  refine wpList_q (by rfl) (.bool false) ?he ?_
  case he => (go_simp; (first | done | (have q := H0.out; omega)))
  (try simp only [Act.put, sA, sB, sC])
  refine wpList_q (by rfl) (.bool false) ?he ?_
  case he => (first | rfl | (go_simp; (try with_reducible rfl)))
  (try simp only [Act.put, sA, sB, sC])
  refine wpList_q (by rfl) (.pointer (some ⟨w.heap.size, 0, none⟩)) ?he ?_
  case he => (first | rfl | (go_simp; (try with_reducible rfl)))
  (try simp only [Act.put, sA, sB, sC])
  refine wpList_q (by rfl) (.int .i64 p.se) ?he ?_
  case he => exact exec_cell 3 _ _ HBP1.out rfl rfl rfl Tryd.underlying3 rfl
  (try simp only [Act.put, sA, sB, sC])
  refine wpList_q (by rfl) (.bool false) ?he ?_
  case he => (go_simp; (first | done | (have q := H1.out; omega)))
  (try simp only [Act.put, sA, sB, sC])
  refine wpList_q (by rfl) (.bool false) ?he ?_
  case he => (first | rfl | (go_simp; (try with_reducible rfl)))
  (try simp only [Act.put, sA, sB, sC])
  refine wpList_q (by rfl) (.bool false) ?he ?_
  case he => (first | rfl | (go_simp; (try with_reducible rfl)))
  (try simp only [Act.put, sA, sB, sC])
  refine wpList_q (by rfl) (.pointer (some ⟨w.heap.size, 1, none⟩)) ?he ?_
  case he => (first | rfl | (go_simp; (try with_reducible rfl)))
  (try simp only [Act.put, sA, sB, sC])
  refine wpList_q (by rfl) (.int .i64 p.ep) ?he ?_
  case he => exact exec_cell 3 _ _ HBP1.out rfl rfl rfl Tryd.underlying3 rfl
  (try simp only [Act.put, sA, sB, sC])
  refine wpList_q (by rfl) (.bool false) ?he ?_
  case he => (go_simp; (first | done | (have q := H2.out; omega)))
  (try simp only [Act.put, sA, sB, sC])
  refine wpList_q (by rfl) (.bool false) ?he ?_
  case he => (first | rfl | (go_simp; (try with_reducible rfl)))
  (try simp only [Act.put, sA, sB, sC])
  refine wpList_q (by rfl) (.bool false) ?he ?_
  case he => (first | rfl | (go_simp; (try with_reducible rfl)))
  (try simp only [Act.put, sA, sB, sC])
  refine wpList_q (by rfl) (.pointer (some ⟨w.heap.size, 1, none⟩)) ?he ?_
  case he => (first | rfl | (go_simp; (try with_reducible rfl)))
  (try simp only [Act.put, sA, sB, sC])
  refine wpList_q (by rfl) (.int .i64 p.ep) ?he ?_
  case he => exact exec_cell 3 _ _ HBP1.out rfl rfl rfl Tryd.underlying3 rfl
  (try simp only [Act.put, sA, sB, sC])
  refine wpList_q (by rfl) (.bool false) ?he ?_
  case he => (go_simp; (first | done | (have q := H3.out; omega)))
  (try simp only [Act.put, sA, sB, sC])
  refine wpList_q (by rfl) (.bool false) ?he ?_
  case he => (first | rfl | (go_simp; (try with_reducible rfl)))
  (try simp only [Act.put, sA, sB, sC])
  refine wpList_q (by rfl) (.bool false) ?he ?_
  case he => (first | rfl | (go_simp; (try with_reducible rfl)))
  (try simp only [Act.put, sA, sB, sC])
  refine wpList_q (by rfl) (.pointer (some ⟨w.heap.size, 2, none⟩)) ?he ?_
  case he => (first | rfl | (go_simp; (try with_reducible rfl)))
  (try simp only [Act.put, sA, sB, sC])
  refine wpList_q (by rfl) (.int .i64 p.sq) ?he ?_
  case he => exact exec_cell 3 _ _ HBP1.out rfl rfl rfl Tryd.underlying3 rfl
  (try simp only [Act.put, sA, sB, sC])
  refine wpList_q (by rfl) (.bool false) ?he ?_
  case he => (go_simp; (first | done | (have q := H4.out; omega)))
  (try simp only [Act.put, sA, sB, sC])
  refine wpList_q (by rfl) (.bool false) ?he ?_
  case he => (first | rfl | (go_simp; (try with_reducible rfl)))
  (try simp only [Act.put, sA, sB, sC])
  refine wpList_q (by rfl) (.bool false) ?he ?_
  case he => (first | rfl | (go_simp; (try with_reducible rfl)))
  (try simp only [Act.put, sA, sB, sC])
  refine wpList_q (by rfl) (.pointer (some ⟨w.heap.size, 2, none⟩)) ?he ?_
  case he => (first | rfl | (go_simp; (try with_reducible rfl)))
  (try simp only [Act.put, sA, sB, sC])
  refine wpList_q (by rfl) (.int .i64 p.sq) ?he ?_
  case he => exact exec_cell 3 _ _ HBP1.out rfl rfl rfl Tryd.underlying3 rfl
  (try simp only [Act.put, sA, sB, sC])
  refine wpList_q (by rfl) (.bool false) ?he ?_
  case he => (go_simp; (first | done | (have q := H5.out; omega)))
  (try simp only [Act.put, sA, sB, sC])
  refine wpList_q (by rfl) (.bool false) ?he ?_
  case he => (first | rfl | (go_simp; (try with_reducible rfl)))
  (try simp only [Act.put, sA, sB, sC])
  refine wpList_q (by rfl) (.bool false) ?he ?_
  case he => (first | rfl | (go_simp; (try with_reducible rfl)))
  (try simp only [Act.put, sA, sB, sC])
  refine wpList_q (by rfl) (.pointer (some ⟨w.heap.size, 3, none⟩)) ?he ?_
  case he => (first | rfl | (go_simp; (try with_reducible rfl)))
  (try simp only [Act.put, sA, sB, sC])
  refine wpList_q (by rfl) (.int .i64 p.ak) ?he ?_
  case he => exact exec_cell 3 _ _ HBP1.out rfl rfl rfl Tryd.underlying3 rfl
  (try simp only [Act.put, sA, sB, sC])
  refine wpList_q (by rfl) (.bool false) ?he ?_
  case he => (go_simp; (first | done | (have q := H6.out; omega)))
  (try simp only [Act.put, sA, sB, sC])
  refine wpList_q (by rfl) (.bool false) ?he ?_
  case he => (first | rfl | (go_simp; (try with_reducible rfl)))
  (try simp only [Act.put, sA, sB, sC])
  refine wpList_q (by rfl) (.bool false) ?he ?_
  case he => (first | rfl | (go_simp; (try with_reducible rfl)))
  (try simp only [Act.put, sA, sB, sC])
  refine wpList_q (by rfl) (.pointer (some ⟨w.heap.size, 3, none⟩)) ?he ?_
  case he => (first | rfl | (go_simp; (try with_reducible rfl)))
  (try simp only [Act.put, sA, sB, sC])
  refine wpList_q (by rfl) (.int .i64 p.ak) ?he ?_
  case he => exact exec_cell 3 _ _ HBP1.out rfl rfl rfl Tryd.underlying3 rfl
  (try simp only [Act.put, sA, sB, sC])
  refine wpList_q (by rfl) (.bool true) ?he ?_
  case he => (go_simp; (first | done | (have q := H7.out; omega)))
  (try simp only [Act.put, sA, sB, sC])
  refine wpList_q (by rfl) (.bool true) ?he ?_
  case he => (first | rfl | (go_simp; (try with_reducible rfl)))
  (try simp only [Act.put, sA, sB, sC])
  refine wpList_nil ?_
  go_upto_region 2 with fail
  refine wp_region_lit ?_
  refine wpList_q (by rfl) (.bool false) ?he ?_
  case he => (first | rfl | (go_simp; (try with_reducible rfl)))
  (try simp only [Act.put, sA, sB, sC])
  refine wpList_nil ?_
  (try go_wp2_with fail)
  go_ret
  exact ⟨rfl, HS1.out⟩
set_option maxHeartbeats 4000000 in
theorem mayPktN (p : PktV) (h0 : ¬ (p.se < 0)) (h1 : ¬ (255 < p.se)) (h2 : ¬ (p.ep < 0)) (h3 : ¬ (65535 < p.ep)) (h4 : ¬ (p.sq < 0)) (h5 : ¬ (65535 < p.sq)) (h6 : ¬ (p.ak < 0)) (h7 : ¬ (65535 < p.ak)) (k2 : p.has = false) (w : World) : Calls Tryd.prog 8 #[.agg (pktC p)] w fun e w' => e = .returned (.bool (noMsg p)) ∧ Since w w' := by
  have H0 := Lib.hid h0
  clear h0
  have H1 := Lib.hid h1
  clear h1
  have H2 := Lib.hid h2
  clear h2
  have H3 := Lib.hid h3
  clear h3
  have H4 := Lib.hid h4
  clear h4
  have H5 := Lib.hid h5
  clear h5
  have H6 := Lib.hid h6
  clear h6
  have H7 := Lib.hid h7
  clear h7
  have K2 := Lib.hid k2
  clear k2
  go_enter Tryd.func8, Tryd.ntmps8
  go_upto_region 1 with fail
  obtain ⟨w1, hw1⟩ : ∃ w1, w1 = (w.alloc (.cells (pktC p) 25)) := ⟨_, rfl⟩
  rw [← hw1]
  have HBP1 := Lib.hid (show Blk w1 (w.heap.size) 25 (pktC p) by rw [hw1]; exact Blk.at_ (by (try simp only [size_alloc])) _ _)
  have HS1 := Lib.hid (show Since w w1 by rw [hw1]; exact Since.alloc (Since.refl w) _)
  have hNE : w.heap.size ≤ w.heap.size := by omega
  have HNE := Lib.hid hNE
  clear hNE hw1
  have HNE3 := Lib.hid (show w.heap.size ≤ w.heap.size from HNE.out)
  clear HNE
  refine wp_region_lit ?_
  refine wpList_q (by rfl) (.pointer (some ⟨w.heap.size, 0, none⟩)) ?he ?_
  case he => (first | rfl | (go_simp; (try with_reducible rfl)))
  (try simp only [Act.put, sA, sB, sC])
  refine wpList_q (by rfl) (.int .i64 p.se) ?he ?_
  case he => exact exec_cell 3 _ _ HBP1.out rfl rfl rfl Tryd.underlying3 rfl
  (try simp only [Act.put, sA, sB, sC])
  refine wpList_q (by rfl) (.bool false) ?he ?_
  case he => (go_simp; (first | done | (have q := H0.out; omega)))
  (try simp only [Act.put, sA, sB, sC])
  refine wpList_q (by rfl) (.bool false) ?he ?_
  case he => (first | rfl | (go_simp; (try with_reducible rfl)))
  (try simp only [Act.put, sA, sB, sC])
  refine wpList_q (by rfl) (.pointer (some ⟨w.heap.size, 0, none⟩)) ?he ?_
  case he => (first | rfl | (go_simp; (try with_reducible rfl)))
  (try simp only [Act.put, sA, sB, sC])
  refine wpList_q (by rfl) (.int .i64 p.se) ?he ?_
  case he => exact exec_cell 3 _ _ HBP1.out rfl rfl rfl Tryd.underlying3 rfl
  (try simp only [Act.put, sA, sB, sC])
  refine wpList_q (by rfl) (.bool false) ?he ?_
  case he => (go_simp; (first | done | (have q := H1.out; omega)))
  (try simp only [Act.put, sA, sB, sC])
  refine wpList_q (by rfl) (.bool false) ?he ?_
  case he => (first | rfl | (go_simp; (try with_reducible rfl)))
  (try simp only [Act.put, sA, sB, sC])
  refine wpList_q (by rfl) (.bool false) ?he ?_
  case he => (first | rfl | (go_simp; (try with_reducible rfl)))
  (try simp only [Act.put, sA, sB, sC])
  refine wpList_q (by rfl) (.pointer (some ⟨w.heap.size, 1, none⟩)) ?he ?_
  case he => (first | rfl | (go_simp; (try with_reducible rfl)))
  (try simp only [Act.put, sA, sB, sC])
  refine wpList_q (by rfl) (.int .i64 p.ep) ?he ?_
  case he => exact exec_cell 3 _ _ HBP1.out rfl rfl rfl Tryd.underlying3 rfl
  (try simp only [Act.put, sA, sB, sC])
  refine wpList_q (by rfl) (.bool false) ?he ?_
  case he => (go_simp; (first | done | (have q := H2.out; omega)))
  (try simp only [Act.put, sA, sB, sC])
  refine wpList_q (by rfl) (.bool false) ?he ?_
  case he => (first | rfl | (go_simp; (try with_reducible rfl)))
  (try simp only [Act.put, sA, sB, sC])
  refine wpList_q (by rfl) (.bool false) ?he ?_
  case he => (first | rfl | (go_simp; (try with_reducible rfl)))
  (try simp only [Act.put, sA, sB, sC])
  refine wpList_q (by rfl) (.pointer (some ⟨w.heap.size, 1, none⟩)) ?he ?_
  case he => (first | rfl | (go_simp; (try with_reducible rfl)))
  (try simp only [Act.put, sA, sB, sC])
  refine wpList_q (by rfl) (.int .i64 p.ep) ?he ?_
  case he => exact exec_cell 3 _ _ HBP1.out rfl rfl rfl Tryd.underlying3 rfl
  (try simp only [Act.put, sA, sB, sC])
  refine wpList_q (by rfl) (.bool false) ?he ?_
  case he => (go_simp; (first | done | (have q := H3.out; omega)))
  (try simp only [Act.put, sA, sB, sC])
  refine wpList_q (by rfl) (.bool false) ?he ?_
  case he => (first | rfl | (go_simp; (try with_reducible rfl)))
  (try simp only [Act.put, sA, sB, sC])
  refine wpList_q (by rfl) (.bool false) ?he ?_
  case he => (first | rfl | (go_simp; (try with_reducible rfl)))
  (try simp only [Act.put, sA, sB, sC])
  refine wpList_q (by rfl) (.pointer (some ⟨w.heap.size, 2, none⟩)) ?he ?_
  case he => (first | rfl | (go_simp; (try with_reducible rfl)))
  (try simp only [Act.put, sA, sB, sC])
  refine wpList_q (by rfl) (.int .i64 p.sq) ?he ?_
  case he => exact exec_cell 3 _ _ HBP1.out rfl rfl rfl Tryd.underlying3 rfl
  (try simp only [Act.put, sA, sB, sC])
  refine wpList_q (by rfl) (.bool false) ?he ?_
  case he => (go_simp; (first | done | (have q := H4.out; omega)))
  (try simp only [Act.put, sA, sB, sC])
  refine wpList_q (by rfl) (.bool false) ?he ?_
  case he => (first | rfl | (go_simp; (try with_reducible rfl)))
  (try simp only [Act.put, sA, sB, sC])
  refine wpList_q (by rfl) (.bool false) ?he ?_
  case he => (first | rfl | (go_simp; (try with_reducible rfl)))
  (try simp only [Act.put, sA, sB, sC])
  refine wpList_q (by rfl) (.pointer (some ⟨w.heap.size, 2, none⟩)) ?he ?_
  case he => (first | rfl | (go_simp; (try with_reducible rfl)))
  (try simp only [Act.put, sA, sB, sC])
  refine wpList_q (by rfl) (.int .i64 p.sq) ?he ?_
  case he => exact exec_cell 3 _ _ HBP1.out rfl rfl rfl Tryd.underlying3 rfl
  (try simp only [Act.put, sA, sB, sC])
  refine wpList_q (by rfl) (.bool false) ?he ?_
  case he => (go_simp; (first | done | (have q := H5.out; omega)))
  (try simp only [Act.put, sA, sB, sC])
  refine wpList_q (by rfl) (.bool false) ?he ?_
  case he => (first | rfl | (go_simp; (try with_reducible rfl)))
  (try simp only [Act.put, sA, sB, sC])
  refine wpList_q (by rfl) (.bool false) ?he ?_
  case he => (first | rfl | (go_simp; (try with_reducible rfl)))
  (try simp only [Act.put, sA, sB, sC])
  refine wpList_q (by rfl) (.pointer (some ⟨w.heap.size, 3, none⟩)) ?he ?_
  case he => (first | rfl | (go_simp; (try with_reducible rfl)))
  (try simp only [Act.put, sA, sB, sC])
  refine wpList_q (by rfl) (.int .i64 p.ak) ?he ?_
  case he => exact exec_cell 3 _ _ HBP1.out rfl rfl rfl Tryd.underlying3 rfl
  (try simp only [Act.put, sA, sB, sC])
  refine wpList_q (by rfl) (.bool false) ?he ?_
  case he => (go_simp; (first | done | (have q := H6.out; omega)))
  (try simp only [Act.put, sA, sB, sC])
  refine wpList_q (by rfl) (.bool false) ?he ?_
  case he => (first | rfl | (go_simp; (try with_reducible rfl)))
  (try simp only [Act.put, sA, sB, sC])
  refine wpList_q (by rfl) (.bool false) ?he ?_
  case he => (first | rfl | (go_simp; (try with_reducible rfl)))
  (try simp only [Act.put, sA, sB, sC])
  refine wpList_q (by rfl) (.pointer (some ⟨w.heap.size, 3, none⟩)) ?he ?_
  case he => (first | rfl | (go_simp; (try with_reducible rfl)))
  (try simp only [Act.put, sA, sB, sC])
  refine wpList_q (by rfl) (.int .i64 p.ak) ?he ?_
  case he => exact exec_cell 3 _ _ HBP1.out rfl rfl rfl Tryd.underlying3 rfl
  (try simp only [Act.put, sA, sB, sC])
  refine wpList_q (by rfl) (.bool false) ?he ?_
  case he => (go_simp; (first | done | (have q := H7.out; omega)))
  (try simp only [Act.put, sA, sB, sC])
  refine wpList_q (by rfl) (.bool false) ?he ?_
  case he => (first | rfl | (go_simp; (try with_reducible rfl)))
  (try simp only [Act.put, sA, sB, sC])
  refine wpList_nil ?_
  go_upto_region 3 with fail
  refine wp_region_lit ?_
  refine wpList_q (by rfl) (.pointer (some ⟨w.heap.size, 4, none⟩)) ?he ?_
  case he => (first | rfl | (go_simp; (try with_reducible rfl)))
  (try simp only [Act.put, sA, sB, sC])
  refine wpList_q (by rfl) (.bool p.has) ?he ?_
  case he => exact exec_cell 4 _ _ HBP1.out rfl rfl rfl Tryd.underlying4 rfl
  (try simp only [Act.put, sA, sB, sC])
  refine wpList_q (by rfl) (.bool true) ?he ?_
  case he => (have hq := K2.out; go_simp; (try with_reducible rfl))
  (try simp only [Act.put, sA, sB, sC])
  refine wpList_nil ?_
  go_upto_region 4 with fail
  refine wp_region_lit ?_
  refine wpList_q (by rfl) (.pointer (some ⟨w.heap.size, 5, none⟩)) ?he ?_
  case he => (first | rfl | (go_simp; (try with_reducible rfl)))
  (try simp only [Act.put, sA, sB, sC])
  refine wpList_q (by rfl) (.agg (msgC p)) ?he ?_
  case he => exact exec_part (n := 4) 23 _ _ HBP1.out rfl rfl rfl rfl Tryd.underlying23 rfl (by kernel_rfl)
  (try simp only [Act.put, sA, sB, sC])
  refine wpList_q (by rfl) (.agg #[.int .i64 0, .int .i64 0, .int .i64 0, .int .i64 0]) ?he ?_
  case he => kernel_rfl
  (try simp only [Act.put, sA, sB, sC])
  refine wpList_q (by rfl) (.bool (noMsg p)) ?he ?_
  case he => (simp only [msgC]; go_simp; by_cases q1 : p.ki = 0 <;> by_cases q2 : p.a = 0 <;> by_cases q3 : p.b = 0 <;> by_cases q4 : p.c = 0 <;> simp [q1, q2, q3, q4, noMsg])
  (try simp only [Act.put, sA, sB, sC])
  refine wpList_q (by rfl) (.bool (noMsg p)) ?he ?_
  case he => (first | rfl | (go_simp; (try with_reducible rfl)))
  (try simp only [Act.put, sA, sB, sC])
  refine wpList_nil ?_
  (try go_wp2_with fail)
  go_ret
  exact ⟨rfl, HS1.out⟩
set_option maxHeartbeats 4000000 in
theorem mayPktM (p : PktV) (h0 : ¬ (p.se < 0)) (h1 : ¬ (255 < p.se)) (h2 : ¬ (p.ep < 0)) (h3 : ¬ (65535 < p.ep)) (h4 : ¬ (p.sq < 0)) (h5 : ¬ (65535 < p.sq)) (h6 : ¬ (p.ak < 0)) (h7 : ¬ (65535 < p.ak)) (k2 : p.has = true) (w : World) : Calls Tryd.prog 8 #[.agg (pktC p)] w fun e w' => e = .returned (.bool (msgB p)) ∧ Since w w' := by
  have H0 := Lib.hid h0
  clear h0
  have H1 := Lib.hid h1
  clear h1
  have H2 := Lib.hid h2
  clear h2
  have H3 := Lib.hid h3
  clear h3
  have H4 := Lib.hid h4
  clear h4
  have H5 := Lib.hid h5
  clear h5
  have H6 := Lib.hid h6
  clear h6
  have H7 := Lib.hid h7
  clear h7
  have K2 := Lib.hid k2
  clear k2
  go_enter Tryd.func8, Tryd.ntmps8
  go_upto_region 1 with fail
  obtain ⟨w1, hw1⟩ : ∃ w1, w1 = (w.alloc (.cells (pktC p) 25)) := ⟨_, rfl⟩
  rw [← hw1]
  have HBP1 := Lib.hid (show Blk w1 (w.heap.size) 25 (pktC p) by rw [hw1]; exact Blk.at_ (by (try simp only [size_alloc])) _ _)
  have HS1 := Lib.hid (show Since w w1 by rw [hw1]; exact Since.alloc (Since.refl w) _)
  have hNE : w.heap.size ≤ w.heap.size := by omega
  have HNE := Lib.hid hNE
  clear hNE hw1
  have HNE3 := Lib.hid (show w.heap.size ≤ w.heap.size from HNE.out)
  clear HNE
  refine wp_region_lit ?_
  refine wpList_q (by rfl) (.pointer (some ⟨w.heap.size, 0, none⟩)) ?he ?_
  case he => (first | rfl | (go_simp; (try with_reducible rfl)))
  (try simp only [Act.put, sA, sB, sC])
  refine wpList_q (by rfl) (.int .i64 p.se) ?he ?_
  case he => exact exec_cell 3 _ _ HBP1.out rfl rfl rfl Tryd.underlying3 rfl
  (try simp only [Act.put, sA, sB, sC])
  refine wpList_q (by rfl) (.bool false) ?he ?_
  case he => (go_simp; (first | done | (have q := H0.out; omega)))
  (try simp only [Act.put, sA, sB, sC])
  refine wpList_q (by rfl) (.bool false) ?he ?_
  case he => (first | rfl | (go_simp; (try with_reducible rfl)))
  (try simp only [Act.put, sA, sB, sC])
  refine wpList_q (by rfl) (.pointer (some ⟨w.heap.size, 0, none⟩)) ?he ?_
  case he => (first | rfl | (go_simp; (try with_reducible rfl)))
  (try simp only [Act.put, sA, sB, sC])
  refine wpList_q (by rfl) (.int .i64 p.se) ?he ?_
  case he => exact exec_cell 3 _ _ HBP1.out rfl rfl rfl Tryd.underlying3 rfl
  (try simp only [Act.put, sA, sB, sC])
  refine wpList_q (by rfl) (.bool false) ?he ?_
  case he => (go_simp; (first | done | (have q := H1.out; omega)))
  (try simp only [Act.put, sA, sB, sC])
  refine wpList_q (by rfl) (.bool false) ?he ?_
  case he => (first | rfl | (go_simp; (try with_reducible rfl)))
  (try simp only [Act.put, sA, sB, sC])
  refine wpList_q (by rfl) (.bool false) ?he ?_
  case he => (first | rfl | (go_simp; (try with_reducible rfl)))
  (try simp only [Act.put, sA, sB, sC])
  refine wpList_q (by rfl) (.pointer (some ⟨w.heap.size, 1, none⟩)) ?he ?_
  case he => (first | rfl | (go_simp; (try with_reducible rfl)))
  (try simp only [Act.put, sA, sB, sC])
  refine wpList_q (by rfl) (.int .i64 p.ep) ?he ?_
  case he => exact exec_cell 3 _ _ HBP1.out rfl rfl rfl Tryd.underlying3 rfl
  (try simp only [Act.put, sA, sB, sC])
  refine wpList_q (by rfl) (.bool false) ?he ?_
  case he => (go_simp; (first | done | (have q := H2.out; omega)))
  (try simp only [Act.put, sA, sB, sC])
  refine wpList_q (by rfl) (.bool false) ?he ?_
  case he => (first | rfl | (go_simp; (try with_reducible rfl)))
  (try simp only [Act.put, sA, sB, sC])
  refine wpList_q (by rfl) (.bool false) ?he ?_
  case he => (first | rfl | (go_simp; (try with_reducible rfl)))
  (try simp only [Act.put, sA, sB, sC])
  refine wpList_q (by rfl) (.pointer (some ⟨w.heap.size, 1, none⟩)) ?he ?_
  case he => (first | rfl | (go_simp; (try with_reducible rfl)))
  (try simp only [Act.put, sA, sB, sC])
  refine wpList_q (by rfl) (.int .i64 p.ep) ?he ?_
  case he => exact exec_cell 3 _ _ HBP1.out rfl rfl rfl Tryd.underlying3 rfl
  (try simp only [Act.put, sA, sB, sC])
  refine wpList_q (by rfl) (.bool false) ?he ?_
  case he => (go_simp; (first | done | (have q := H3.out; omega)))
  (try simp only [Act.put, sA, sB, sC])
  refine wpList_q (by rfl) (.bool false) ?he ?_
  case he => (first | rfl | (go_simp; (try with_reducible rfl)))
  (try simp only [Act.put, sA, sB, sC])
  refine wpList_q (by rfl) (.bool false) ?he ?_
  case he => (first | rfl | (go_simp; (try with_reducible rfl)))
  (try simp only [Act.put, sA, sB, sC])
  refine wpList_q (by rfl) (.pointer (some ⟨w.heap.size, 2, none⟩)) ?he ?_
  case he => (first | rfl | (go_simp; (try with_reducible rfl)))
  (try simp only [Act.put, sA, sB, sC])
  refine wpList_q (by rfl) (.int .i64 p.sq) ?he ?_
  case he => exact exec_cell 3 _ _ HBP1.out rfl rfl rfl Tryd.underlying3 rfl
  (try simp only [Act.put, sA, sB, sC])
  refine wpList_q (by rfl) (.bool false) ?he ?_
  case he => (go_simp; (first | done | (have q := H4.out; omega)))
  (try simp only [Act.put, sA, sB, sC])
  refine wpList_q (by rfl) (.bool false) ?he ?_
  case he => (first | rfl | (go_simp; (try with_reducible rfl)))
  (try simp only [Act.put, sA, sB, sC])
  refine wpList_q (by rfl) (.bool false) ?he ?_
  case he => (first | rfl | (go_simp; (try with_reducible rfl)))
  (try simp only [Act.put, sA, sB, sC])
  refine wpList_q (by rfl) (.pointer (some ⟨w.heap.size, 2, none⟩)) ?he ?_
  case he => (first | rfl | (go_simp; (try with_reducible rfl)))
  (try simp only [Act.put, sA, sB, sC])
  refine wpList_q (by rfl) (.int .i64 p.sq) ?he ?_
  case he => exact exec_cell 3 _ _ HBP1.out rfl rfl rfl Tryd.underlying3 rfl
  (try simp only [Act.put, sA, sB, sC])
  refine wpList_q (by rfl) (.bool false) ?he ?_
  case he => (go_simp; (first | done | (have q := H5.out; omega)))
  (try simp only [Act.put, sA, sB, sC])
  refine wpList_q (by rfl) (.bool false) ?he ?_
  case he => (first | rfl | (go_simp; (try with_reducible rfl)))
  (try simp only [Act.put, sA, sB, sC])
  refine wpList_q (by rfl) (.bool false) ?he ?_
  case he => (first | rfl | (go_simp; (try with_reducible rfl)))
  (try simp only [Act.put, sA, sB, sC])
  refine wpList_q (by rfl) (.pointer (some ⟨w.heap.size, 3, none⟩)) ?he ?_
  case he => (first | rfl | (go_simp; (try with_reducible rfl)))
  (try simp only [Act.put, sA, sB, sC])
  refine wpList_q (by rfl) (.int .i64 p.ak) ?he ?_
  case he => exact exec_cell 3 _ _ HBP1.out rfl rfl rfl Tryd.underlying3 rfl
  (try simp only [Act.put, sA, sB, sC])
  refine wpList_q (by rfl) (.bool false) ?he ?_
  case he => (go_simp; (first | done | (have q := H6.out; omega)))
  (try simp only [Act.put, sA, sB, sC])
  refine wpList_q (by rfl) (.bool false) ?he ?_
  case he => (first | rfl | (go_simp; (try with_reducible rfl)))
  (try simp only [Act.put, sA, sB, sC])
  refine wpList_q (by rfl) (.bool false) ?he ?_
  case he => (first | rfl | (go_simp; (try with_reducible rfl)))
  (try simp only [Act.put, sA, sB, sC])
  refine wpList_q (by rfl) (.pointer (some ⟨w.heap.size, 3, none⟩)) ?he ?_
  case he => (first | rfl | (go_simp; (try with_reducible rfl)))
  (try simp only [Act.put, sA, sB, sC])
  refine wpList_q (by rfl) (.int .i64 p.ak) ?he ?_
  case he => exact exec_cell 3 _ _ HBP1.out rfl rfl rfl Tryd.underlying3 rfl
  (try simp only [Act.put, sA, sB, sC])
  refine wpList_q (by rfl) (.bool false) ?he ?_
  case he => (go_simp; (first | done | (have q := H7.out; omega)))
  (try simp only [Act.put, sA, sB, sC])
  refine wpList_q (by rfl) (.bool false) ?he ?_
  case he => (first | rfl | (go_simp; (try with_reducible rfl)))
  (try simp only [Act.put, sA, sB, sC])
  refine wpList_nil ?_
  go_upto_region 3 with fail
  refine wp_region_lit ?_
  refine wpList_q (by rfl) (.pointer (some ⟨w.heap.size, 4, none⟩)) ?he ?_
  case he => (first | rfl | (go_simp; (try with_reducible rfl)))
  (try simp only [Act.put, sA, sB, sC])
  refine wpList_q (by rfl) (.bool p.has) ?he ?_
  case he => exact exec_cell 4 _ _ HBP1.out rfl rfl rfl Tryd.underlying4 rfl
  (try simp only [Act.put, sA, sB, sC])
  refine wpList_q (by rfl) (.bool false) ?he ?_
  case he => (have hq := K2.out; go_simp; (try with_reducible rfl))
  (try simp only [Act.put, sA, sB, sC])
  refine wpList_nil ?_
  go_upto_region 5 with fail
  refine wp_region_lit ?_
  refine wpList_q (by rfl) (.pointer (some ⟨w.heap.size, 5, none⟩)) ?he ?_
  case he => (first | rfl | (go_simp; (try with_reducible rfl)))
  (try simp only [Act.put, sA, sB, sC])
  refine wpList_q (by rfl) (.agg (msgC p)) ?he ?_
  case he => exact exec_part (n := 4) 23 _ _ HBP1.out rfl rfl rfl rfl Tryd.underlying23 rfl (by kernel_rfl)
  (try simp only [Act.put, sA, sB, sC])
  refine wpList_wp (by rfl) (fun K hK => ?_)
  (try go_simp)
  refine (mayMsgR p _).mono ?_
  rintro e w2 ⟨rfl, hb⟩
  (try go_wp2_with fail)
  refine hK.out _ _ ?_
  clear hK K
  (try simp only [Act.put, sA, sB, sC])
  have HS2 := Lib.hid (Since.trans HS1.out hb)
  have HBP2 := Lib.hid (keep_blk hb HBP1.out)
  clear HS1 HBP1
  clear hb
  refine wpList_q (by rfl) (.bool (msgB p)) ?he ?_
  case he => (first | rfl | (go_simp; (try with_reducible rfl)))
  (try simp only [Act.put, sA, sB, sC])
  refine wpList_nil ?_
  (try go_wp2_with fail)
  go_ret
  exact ⟨rfl, HS2.out⟩
theorem mayPktR (p : PktV) (w : World) : Calls Tryd.prog 8 #[.agg (pktC p)] w fun e w' => e = .returned (.bool (mayB p)) ∧ Since w w' := by
  by_cases h0 : p.se < 0
  · rw [show mayB p = false by unfold mayB; rw [show headB p = false by rw [Bool.eq_false_iff]; intro hm; have := (head_iff p).1 hm; omega]; rfl]; exact mayPkt0 p h0 w
  by_cases h1 : 255 < p.se
  · rw [show mayB p = false by unfold mayB; rw [show headB p = false by rw [Bool.eq_false_iff]; intro hm; have := (head_iff p).1 hm; omega]; rfl]; exact mayPkt1 p h0 h1 w
  by_cases h2 : p.ep < 0
  · rw [show mayB p = false by unfold mayB; rw [show headB p = false by rw [Bool.eq_false_iff]; intro hm; have := (head_iff p).1 hm; omega]; rfl]; exact mayPkt2 p h0 h1 h2 w
  by_cases h3 : 65535 < p.ep
  · rw [show mayB p = false by unfold mayB; rw [show headB p = false by rw [Bool.eq_false_iff]; intro hm; have := (head_iff p).1 hm; omega]; rfl]; exact mayPkt3 p h0 h1 h2 h3 w
  by_cases h4 : p.sq < 0
  · rw [show mayB p = false by unfold mayB; rw [show headB p = false by rw [Bool.eq_false_iff]; intro hm; have := (head_iff p).1 hm; omega]; rfl]; exact mayPkt4 p h0 h1 h2 h3 h4 w
  by_cases h5 : 65535 < p.sq
  · rw [show mayB p = false by unfold mayB; rw [show headB p = false by rw [Bool.eq_false_iff]; intro hm; have := (head_iff p).1 hm; omega]; rfl]; exact mayPkt5 p h0 h1 h2 h3 h4 h5 w
  by_cases h6 : p.ak < 0
  · rw [show mayB p = false by unfold mayB; rw [show headB p = false by rw [Bool.eq_false_iff]; intro hm; have := (head_iff p).1 hm; omega]; rfl]; exact mayPkt6 p h0 h1 h2 h3 h4 h5 h6 w
  by_cases h7 : 65535 < p.ak
  · rw [show mayB p = false by unfold mayB; rw [show headB p = false by rw [Bool.eq_false_iff]; intro hm; have := (head_iff p).1 hm; omega]; rfl]; exact mayPkt7 p h0 h1 h2 h3 h4 h5 h6 h7 w
  have hH : headB p = true := by rw [head_iff]; omega
  cases k2 : p.has
  · rw [show mayB p = noMsg p by rw [may_not k2, hH]; rfl]; exact mayPktN p h0 h1 h2 h3 h4 h5 h6 h7 k2 w
  · rw [show mayB p = msgB p by rw [may_has k2, hH]; rfl]; exact mayPktM p h0 h1 h2 h3 h4 h5 h6 h7 k2 w
end Go.Proofs.YtlihhjcneedgnaaDoor.Mg
