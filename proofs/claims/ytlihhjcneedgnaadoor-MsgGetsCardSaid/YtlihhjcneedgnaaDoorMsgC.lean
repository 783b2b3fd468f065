/-
  msg.Put; the reference's num and Bytes: walked.
  Conditions: what stands ahead of each.
-/
import Derived.Test.YtlihhjcneedgnaaDoorMsgB
namespace Go.Proofs.YtlihhjcneedgnaaDoor.Mg
set_option linter.unusedVariables false
set_option linter.unusedSimpArgs false
open Go.RowKit Go.Proofs.YtlihhjcneedgnaaDoor.Ba Go.Proofs.YtlihhjcneedgnaaDoor.Mem
open Go.Proofs.YtlihhjcneedgnaaDoor.Byt (BV isB cells)
set_option maxRecDepth 100000
attribute [local irreducible] Go.wpList
theorem goodV (p : PktV) (b : Bool) (w : World) (h : mayB p = b) : Calls Tryd.prog 10 #[.agg (pktC p)] w fun e w' => e = .returned (.bool b) ∧ Since w w' := by
  subst h; exact goodT p w
theorem twoN (B : Nat) (A : Option Addr) (n c : Nat) (xs : List Int) (g : Nat) (x y z : Int) (w : World) (hO : w.ownsRow B 5 1 (.slice A n c) n (cells xs)) (hlo : B ≤ w.heap.size) (hB : Blk w g 3 #[.int .i64 x, .int .i64 y, .int .i64 z]) (hn : n ≤ 1000) (n2 : Nat) (zs : List Int) (hn2 : n + 6 = n2) (hzs : xs ++ (twoL x ++ (twoL y ++ twoL z)) = zs) :
    Calls Tryd.prog 16 #[.slice A n c, .slice (some ⟨g, 0, none⟩) 3 3] w fun e w' => ∃ A' c', e = .returned (.slice A' n2 c') ∧ w'.ownsRow B 5 1 (.slice A' n2 c') n2 (cells zs) ∧ Grw 5 B w w' := by
  subst hn2 hzs; exact twoT B A n c xs g x y z w hO hlo hB hn
theorem fourN (B : Nat) (A : Option Addr) (n c : Nat) (xs : List Int) (g : Nat) (x y z : Int) (w : World) (hO : w.ownsRow B 5 1 (.slice A n c) n (cells xs)) (hlo : B ≤ w.heap.size) (hB : Blk w g 3 #[.int .i64 x, .int .i64 y, .int .i64 z]) (hn : n ≤ 1000) (n2 : Nat) (zs : List Int) (hn2 : n + 12 = n2) (hzs : xs ++ (fourL x ++ (fourL y ++ fourL z)) = zs) :
    Calls Tryd.prog 17 #[.slice A n c, .slice (some ⟨g, 0, none⟩) 3 3] w fun e w' => ∃ A' c', e = .returned (.slice A' n2 c') ∧ w'.ownsRow B 5 1 (.slice A' n2 c') n2 (cells zs) ∧ Grw 5 B w w' := by
  subst hn2 hzs; exact fourT B A n c xs g x y z w hO hlo hB hn
theorem tdiv_pos (n k : Int) (h : 0 ≤ n) : n.tdiv k = n / k := Int.tdiv_eq_ediv_of_nonneg h
theorem tmod_pos (n k : Int) (h : 0 ≤ n) : n.tmod k = n % k := Int.tmod_eq_emod_of_nonneg h
def PutOK (p : PktV) (n : Nat) (e : Ending) (w w' : World) : Prop := ∃ A c, e = .returned (.tuple #[.slice A n c, .bool true]) ∧ n ≤ c ∧ BV w' A n (bytesOf p) ∧ Since w w'
set_option maxHeartbeats 4000000 in
theorem putNo (p : PktV) (h0 : mayB p = false) (w : World) : Calls Tryd.prog 7 #[.agg (pktC p)] w fun e w' => e = .returned (.tuple #[.slice none 0 0, .bool false]) ∧ Since w w' := by
  have H0 := Lib.hid h0
  clear h0
  go_enter Tryd.func7, Tryd.ntmps7
  go_upto_region 1 with fail
  obtain ⟨w1, hw1⟩ : ∃ w1, w1 = (w.alloc (.cells (pktC p) 25)) := ⟨_, rfl⟩
  rw [← hw1]
  have HBP1 := Lib.hid (show Blk w1 (w.heap.size) 25 (pktC p) by rw [hw1]; exact Blk.at_ (by (try simp only [size_alloc])) _ _)
  have HS1 := Lib.hid (show Since w w1 by rw [hw1]; exact Since.alloc (Since.refl w) _)
  have hNE : w.heap.size ≤ w.heap.size := by omega
  have HNE := Lib.hid hNE
  clear hNE hw1
  have HNE3 := Lib.hid (show w.heap.size ≤ w.heap.size from HNE.out)
  clear HNE
  refine wp_region_lit ?_
  refine wpList_q (by rfl) (.agg (pktC p)) ?he ?_
  case he => exact exec_load_row 25 _ _ HBP1.out rfl rfl Tryd.underlying25 rfl (by kernel_rfl)
  (try simp only [Act.put, sA, sB, sC])
  refine wpList_wp (by rfl) (fun K hK => ?_)
  (try go_simp)
  refine (goodV p false _ H0.out).mono ?_
  rintro e w2 ⟨rfl, hb⟩
  (try go_wp2_with fail)
  refine hK.out _ _ ?_
  clear hK K
  (try simp only [Act.put, sA, sB, sC])
  have HS2 := Lib.hid (Since.trans HS1.out hb)
  have HBP2 := Lib.hid (keep_blk hb HBP1.out)
  clear HS1 HBP1
  clear hb
  refine wpList_q (by rfl) (.bool true) ?he ?_
  case he => (go_simp; (try with_reducible rfl))
  (try simp only [Act.put, sA, sB, sC])
  refine wpList_nil ?_
  go_upto_region 2 with fail
  refine wp_region_lit ?_
  refine wpList_q (by rfl) (.slice none 0 0) ?he ?_
  case he => (first | rfl | (go_simp; (try with_reducible rfl)))
  (try simp only [Act.put, sA, sB, sC])
  refine wpList_q (by rfl) (.bool false) ?he ?_
  case he => (first | rfl | (go_simp; (try with_reducible rfl)))
  (try simp only [Act.put, sA, sB, sC])
  refine wpList_nil ?_
  (try go_wp2_with fail)
  go_ret2
  exact ⟨rfl, HS2.out⟩
set_option maxHeartbeats 4000000 in
theorem putHas (p : PktV) (h0 : mayB p = true) (h1 : p.has = true) (w : World) : Calls Tryd.prog 7 #[.agg (pktC p)] w fun e w' => PutOK p 21 e w w' := by
  have H0 := Lib.hid h0
  clear h0
  have H1 := Lib.hid h1
  clear h1
  go_enter Tryd.func7, Tryd.ntmps7
  go_upto_region 1 with fail
  obtain ⟨w1, hw1⟩ : ∃ w1, w1 = (w.alloc (.cells (pktC p) 25)) := ⟨_, rfl⟩
  rw [← hw1]
  have HBP1 := Lib.hid (show Blk w1 (w.heap.size) 25 (pktC p) by rw [hw1]; exact Blk.at_ (by (try simp only [size_alloc])) _ _)
  have HS1 := Lib.hid (show Since w w1 by rw [hw1]; exact Since.alloc (Since.refl w) _)
  have hNE : w.heap.size ≤ w.heap.size := by omega
  have HNE := Lib.hid hNE
  clear hNE hw1
  have HNE3 := Lib.hid (show w.heap.size ≤ w.heap.size from HNE.out)
  clear HNE
  refine wp_region_lit ?_
  refine wpList_q (by rfl) (.agg (pktC p)) ?he ?_
  case he => exact exec_load_row 25 _ _ HBP1.out rfl rfl Tryd.underlying25 rfl (by kernel_rfl)
  (try simp only [Act.put, sA, sB, sC])
  refine wpList_wp (by rfl) (fun K hK => ?_)
  (try go_simp)
  refine (goodV p true _ H0.out).mono ?_
  rintro e w2 ⟨rfl, hb⟩
  (try go_wp2_with fail)
  refine hK.out _ _ ?_
  clear hK K
  (try simp only [Act.put, sA, sB, sC])
  have HS2 := Lib.hid (Since.trans HS1.out hb)
  have HBP2 := Lib.hid (keep_blk hb HBP1.out)
  clear HS1 HBP1
  clear hb
  refine wpList_q (by rfl) (.bool false) ?he ?_
  case he => (go_simp; (try with_reducible rfl))
  (try simp only [Act.put, sA, sB, sC])
  refine wpList_nil ?_
  go_upto_region 3 with fail
  refine wp_region_lit ?_
  refine wpList_q (by rfl) (.pointer (some ⟨w.heap.size, 0, none⟩)) ?he ?_
  case he => (first | rfl | (go_simp; (try with_reducible rfl)))
  (try simp only [Act.put, sA, sB, sC])
  refine wpList_q (by rfl) (.int .i64 p.se) ?he ?_
  case he => exact exec_cell 3 _ _ HBP2.out rfl rfl rfl Tryd.underlying3 rfl
  (try simp only [Act.put, sA, sB, sC])
  refine wpList_q (by rfl) (.int .u8 (p.se % 256)) ?he ?_
  case he => (first | rfl | (go_simp; (try with_reducible rfl)))
  (try simp only [Act.put, sA, sB, sC])
  refine wpList_wp (by rfl) (fun K hK => ?_)
  refine wp_new (fun b => .slice (some ⟨b, 0, none⟩) 2 2) 5 #[.int .u8 1, .int .u8 (p.se % 256)] (by rintro b rfl; first | rfl | kernel_rfl) ?_
  intro bn11 w3 hge hB hb
  refine hK.out _ _ ?_
  clear hK K
  (try simp only [Act.put, sA, sB, sC])
  have HNn11P := Lib.hid (show bn11 ≠ w.heap.size by have := Blk.lt HBP2.out; omega)
  have HGn11 := Lib.hid (show w.heap.size ≤ bn11 by have := Since.size HS2.out; omega)
  have HS3 := Lib.hid (Since.trans HS2.out hb)
  have HBP3 := Lib.hid (keep_blk hb HBP2.out)
  clear HS2 HBP2
  clear hb hge
  have HBn113 := Lib.hid hB
  clear hB
  refine wpList_q (by rfl) (.slice (some ⟨bn11, 0, none⟩) 2 2) ?he ?_
  case he => (first | rfl | (go_simp; (try with_reducible rfl)))
  (try simp only [Act.put, sA, sB, sC])
  refine wpList_nil ?_
  have HFr := Lib.hid (own_new (n := 2) (base := bn11) (cs := cells [1, p.se % 256]) HBn113.out (Nat.le_refl _) rfl (by omega))
  have HFlo := Lib.hid (show bn11 ≤ w3.heap.size from Nat.le_of_lt (Blk.lt HBn113.out))
  clear HBn113
  go_upto_region 4 with fail
  refine wp_region_lit ?_
  refine wpList_q (by rfl) (.slice (some ⟨bn11, 0, none⟩) 2 2) ?he ?_
  case he => (first | rfl | (go_simp; (try with_reducible rfl)))
  (try simp only [Act.put, sA, sB, sC])
  refine wpList_q (by rfl) (.pointer (some ⟨w.heap.size, 1, none⟩)) ?he ?_
  case he => (first | rfl | (go_simp; (try with_reducible rfl)))
  (try simp only [Act.put, sA, sB, sC])
  refine wpList_q (by rfl) (.int .i64 p.ep) ?he ?_
  case he => exact exec_cell 3 _ _ HBP3.out rfl rfl rfl Tryd.underlying3 rfl
  (try simp only [Act.put, sA, sB, sC])
  refine wpList_q (by rfl) (.pointer (some ⟨w.heap.size, 2, none⟩)) ?he ?_
  case he => (first | rfl | (go_simp; (try with_reducible rfl)))
  (try simp only [Act.put, sA, sB, sC])
  refine wpList_q (by rfl) (.int .i64 p.sq) ?he ?_
  case he => exact exec_cell 3 _ _ HBP3.out rfl rfl rfl Tryd.underlying3 rfl
  (try simp only [Act.put, sA, sB, sC])
  refine wpList_q (by rfl) (.pointer (some ⟨w.heap.size, 3, none⟩)) ?he ?_
  case he => (first | rfl | (go_simp; (try with_reducible rfl)))
  (try simp only [Act.put, sA, sB, sC])
  refine wpList_q (by rfl) (.int .i64 p.ak) ?he ?_
  case he => exact exec_cell 3 _ _ HBP3.out rfl rfl rfl Tryd.underlying3 rfl
  (try simp only [Act.put, sA, sB, sC])
  refine wpList_wp (by rfl) (fun K hK => ?_)
  refine wp_new (fun b => .slice (some ⟨b, 0, none⟩) 3 3) 3 #[.int .i64 p.ep, .int .i64 p.sq, .int .i64 p.ak] (by rintro b rfl; first | rfl | kernel_rfl) ?_
  intro bn19 w4 hge hB hb
  refine hK.out _ _ ?_
  clear hK K
  (try simp only [Act.put, sA, sB, sC])
  have HNn19P := Lib.hid (show bn19 ≠ w.heap.size by have := Blk.lt HBP3.out; omega)
  have HGn19 := Lib.hid (show w.heap.size ≤ bn19 by have := Since.size HS3.out; omega)
  have HS4 := Lib.hid (Since.trans HS3.out hb)
  have HBP4 := Lib.hid (keep_blk hb HBP3.out)
  have HFr4 := Lib.hid (keep_own hb HFr.out)
  have HFlo4 := Lib.hid (keep_lo hb HFlo.out)
  clear HS3 HBP3 HFr HFlo
  clear hb hge
  have HBn194 := Lib.hid hB
  clear hB
  refine wpList_wp (by rfl) (fun K hK => ?_)
  (try go_simp)
  refine (twoN bn11 (some ⟨bn11, 0, none⟩) 2 2 ([1, p.se % 256]) bn19 p.ep p.sq p.ak _ HFr4.out HFlo4.out HBn194.out (by omega) 8 (headL p) rfl rfl).mono ?_
  rintro e w5 ⟨A_1, c_1, rfl, hown, hgrw⟩
  (try go_wp2_with fail)
  refine hK.out _ _ ?_
  clear hK K
  (try simp only [Act.put, sA, sB, sC])
  have HS5 := Lib.hid (since_grw HS4.out hgrw HGn11.out)
  have HBP5 := Lib.hid (Grw.blk hgrw HBP4.out (by decide))
  have HBn195 := Lib.hid (Grw.blk hgrw HBn194.out (by decide))
  have HFlo5 := Lib.hid (Grw.lo hgrw HFlo4.out)
  clear HS4 HBP4 HBn194 HFr4 HFlo4
  have HFr5 := Lib.hid hown
  clear hown hgrw
  refine wpList_q (by rfl) (.slice A_1 8 c_1) ?he ?_
  case he => (first | rfl | (go_simp; (try with_reducible rfl)))
  (try simp only [Act.put, sA, sB, sC])
  refine wpList_nil ?_
  go_upto_region 5 with fail
  refine wp_region_lit ?_
  refine wpList_q (by rfl) (.pointer (some ⟨w.heap.size, 4, none⟩)) ?he ?_
  case he => (first | rfl | (go_simp; (try with_reducible rfl)))
  (try simp only [Act.put, sA, sB, sC])
  refine wpList_q (by rfl) (.bool true) ?he ?_
  case he => (rw [← H1.out]; exact exec_cell 4 _ _ HBP5.out rfl rfl rfl Tryd.underlying4 rfl)
  (try simp only [Act.put, sA, sB, sC])
  refine wpList_nil ?_
  go_upto_region 6 with fail
  refine wp_region_lit ?_
  refine wpList_q (by rfl) (.slice A_1 8 c_1) ?he ?_
  case he => (first | rfl | (go_simp; (try with_reducible rfl)))
  (try simp only [Act.put, sA, sB, sC])
  refine wpList_q (by rfl) (.pointer (some ⟨w.heap.size, 5, none⟩)) ?he ?_
  case he => (first | rfl | (go_simp; (try with_reducible rfl)))
  (try simp only [Act.put, sA, sB, sC])
  refine wpList_q (by rfl) (.pointer (some ⟨w.heap.size, 5, none⟩)) ?he ?_
  case he => (first | rfl | (go_simp; (try with_reducible rfl)))
  (try simp only [Act.put, sA, sB, sC])
  refine wpList_q (by rfl) (.int .i64 p.ki) ?he ?_
  case he => exact exec_cell 3 _ _ HBP5.out rfl rfl rfl Tryd.underlying3 rfl
  (try simp only [Act.put, sA, sB, sC])
  refine wpList_q (by rfl) (.int .u8 (p.ki % 256)) ?he ?_
  case he => (first | rfl | (go_simp; (try with_reducible rfl)))
  (try simp only [Act.put, sA, sB, sC])
  refine wpList_wp (by rfl) (fun K hK => ?_)
  refine wp_new (fun b => .slice (some ⟨b, 0, none⟩) 1 1) 5 #[.int .u8 (p.ki % 256)] (by rintro b rfl; first | rfl | kernel_rfl) ?_
  intro bn28 w6 hge hB hb
  refine hK.out _ _ ?_
  clear hK K
  (try simp only [Act.put, sA, sB, sC])
  have HNn28P := Lib.hid (show bn28 ≠ w.heap.size by have := Blk.lt HBP5.out; omega)
  have HNn28n19 := Lib.hid (show bn28 ≠ bn19 by have := Blk.lt HBn195.out; omega)
  have HGn28 := Lib.hid (show w.heap.size ≤ bn28 by have := Since.size HS5.out; omega)
  have HS6 := Lib.hid (Since.trans HS5.out hb)
  have HBP6 := Lib.hid (keep_blk hb HBP5.out)
  have HBn196 := Lib.hid (keep_blk hb HBn195.out)
  have HFlo6 := Lib.hid (keep_lo hb HFlo5.out)
  have HFr6 := Lib.hid (keep_own hb HFr5.out)
  clear HS5 HBP5 HBn195 HFlo5 HFr5
  clear hb hge
  have HBn286 := Lib.hid hB
  clear hB
  refine wpList_wp (by rfl) (fun K hK => ?_)
  refine wp_append_bytes (.tmp 23) (.tmp 28) 26 rfl bn11 5 Tryd.underlying26 (by kernel_rfl) (.slice A_1 8 c_1) 8 (headL p) rfl HFr6.out (some ⟨bn28, 0, none⟩) 1 1 ([p.ki % 256]) rfl (bv_blk (zs := [p.ki % 256]) HBn286.out rfl (by omega) (by intro z hz; simp only [List.mem_cons, List.not_mem_nil, or_false] at hz; unfold isB; omega)) (by omega) HFlo6.out 9 (headL p ++ [p.ki % 256]) rfl rfl ?_
  intro A_2 c_2 w7 hown hgrw
  refine hK.out _ _ ?_
  clear hK K
  (try simp only [Act.put, sA, sB, sC])
  have HS7 := Lib.hid (since_grw HS6.out hgrw HGn11.out)
  have HBP7 := Lib.hid (Grw.blk hgrw HBP6.out (by decide))
  have HBn197 := Lib.hid (Grw.blk hgrw HBn196.out (by decide))
  have HFlo7 := Lib.hid (Grw.lo hgrw HFlo6.out)
  clear HS6 HBP6 HBn196 HBn286 HFlo6 HFr6
  have HFr7 := Lib.hid hown
  clear hown hgrw
  refine wpList_q (by rfl) (.slice A_2 9 c_2) ?he ?_
  case he => (first | rfl | (go_simp; (try with_reducible rfl)))
  (try simp only [Act.put, sA, sB, sC])
  refine wpList_nil ?_
  go_upto_region 7 with fail
  refine wp_region_lit ?_
  refine wpList_q (by rfl) (.slice A_2 9 c_2) ?he ?_
  case he => (first | rfl | (go_simp; (try with_reducible rfl)))
  (try simp only [Act.put, sA, sB, sC])
  refine wpList_q (by rfl) (.pointer (some ⟨w.heap.size, 5, none⟩)) ?he ?_
  case he => (first | rfl | (go_simp; (try with_reducible rfl)))
  (try simp only [Act.put, sA, sB, sC])
  refine wpList_q (by rfl) (.pointer (some ⟨w.heap.size, 6, none⟩)) ?he ?_
  case he => (first | rfl | (go_simp; (try with_reducible rfl)))
  (try simp only [Act.put, sA, sB, sC])
  refine wpList_q (by rfl) (.int .i64 p.a) ?he ?_
  case he => exact exec_cell 3 _ _ HBP7.out rfl rfl rfl Tryd.underlying3 rfl
  (try simp only [Act.put, sA, sB, sC])
  refine wpList_q (by rfl) (.pointer (some ⟨w.heap.size, 5, none⟩)) ?he ?_
  case he => (first | rfl | (go_simp; (try with_reducible rfl)))
  (try simp only [Act.put, sA, sB, sC])
  refine wpList_q (by rfl) (.pointer (some ⟨w.heap.size, 7, none⟩)) ?he ?_
  case he => (first | rfl | (go_simp; (try with_reducible rfl)))
  (try simp only [Act.put, sA, sB, sC])
  refine wpList_q (by rfl) (.int .i64 p.b) ?he ?_
  case he => exact exec_cell 3 _ _ HBP7.out rfl rfl rfl Tryd.underlying3 rfl
  (try simp only [Act.put, sA, sB, sC])
  refine wpList_q (by rfl) (.pointer (some ⟨w.heap.size, 5, none⟩)) ?he ?_
  case he => (first | rfl | (go_simp; (try with_reducible rfl)))
  (try simp only [Act.put, sA, sB, sC])
  refine wpList_q (by rfl) (.pointer (some ⟨w.heap.size, 8, none⟩)) ?he ?_
  case he => (first | rfl | (go_simp; (try with_reducible rfl)))
  (try simp only [Act.put, sA, sB, sC])
  refine wpList_q (by rfl) (.int .i64 p.c) ?he ?_
  case he => exact exec_cell 3 _ _ HBP7.out rfl rfl rfl Tryd.underlying3 rfl
  (try simp only [Act.put, sA, sB, sC])
  refine wpList_wp (by rfl) (fun K hK => ?_)
  refine wp_new (fun b => .slice (some ⟨b, 0, none⟩) 3 3) 3 #[.int .i64 p.a, .int .i64 p.b, .int .i64 p.c] (by rintro b rfl; first | rfl | kernel_rfl) ?_
  intro bn40 w8 hge hB hb
  refine hK.out _ _ ?_
  clear hK K
  (try simp only [Act.put, sA, sB, sC])
  have HNn40P := Lib.hid (show bn40 ≠ w.heap.size by have := Blk.lt HBP7.out; omega)
  have HNn40n19 := Lib.hid (show bn40 ≠ bn19 by have := Blk.lt HBn197.out; omega)
  have HGn40 := Lib.hid (show w.heap.size ≤ bn40 by have := Since.size HS7.out; omega)
  have HS8 := Lib.hid (Since.trans HS7.out hb)
  have HBP8 := Lib.hid (keep_blk hb HBP7.out)
  have HBn198 := Lib.hid (keep_blk hb HBn197.out)
  have HFlo8 := Lib.hid (keep_lo hb HFlo7.out)
  have HFr8 := Lib.hid (keep_own hb HFr7.out)
  clear HS7 HBP7 HBn197 HFlo7 HFr7
  clear hb hge
  have HBn408 := Lib.hid hB
  clear hB
  refine wpList_wp (by rfl) (fun K hK => ?_)
  (try go_simp)
  refine (fourN bn11 A_2 9 c_2 (headL p ++ [p.ki % 256]) bn40 p.a p.b p.c _ HFr8.out HFlo8.out HBn408.out (by omega) 21 (headL p ++ bodyL p) rfl rfl).mono ?_
  rintro e w9 ⟨A_3, c_3, rfl, hown, hgrw⟩
  (try go_wp2_with fail)
  refine hK.out _ _ ?_
  clear hK K
  (try simp only [Act.put, sA, sB, sC])
  have HS9 := Lib.hid (since_grw HS8.out hgrw HGn11.out)
  have HBP9 := Lib.hid (Grw.blk hgrw HBP8.out (by decide))
  have HBn199 := Lib.hid (Grw.blk hgrw HBn198.out (by decide))
  have HBn409 := Lib.hid (Grw.blk hgrw HBn408.out (by decide))
  have HFlo9 := Lib.hid (Grw.lo hgrw HFlo8.out)
  clear HS8 HBP8 HBn198 HBn408 HFlo8 HFr8
  have HFr9 := Lib.hid hown
  clear hown hgrw
  refine wpList_q (by rfl) (.slice A_3 21 c_3) ?he ?_
  case he => (first | rfl | (go_simp; (try with_reducible rfl)))
  (try simp only [Act.put, sA, sB, sC])
  refine wpList_nil ?_
  go_upto_region 8 with fail
  refine wp_region_lit ?_
  refine wpList_q (by rfl) (.slice A_3 21 c_3) ?he ?_
  case he => (first | rfl | (go_simp; (try with_reducible rfl)))
  (try simp only [Act.put, sA, sB, sC])
  refine wpList_q (by rfl) (.slice A_3 21 c_3) ?he ?_
  case he => (first | rfl | (go_simp; (try with_reducible rfl)))
  (try simp only [Act.put, sA, sB, sC])
  refine wpList_q (by rfl) (.bool true) ?he ?_
  case he => (first | rfl | (go_simp; (try with_reducible rfl)))
  (try simp only [Act.put, sA, sB, sC])
  refine wpList_nil ?_
  (try go_wp2_with fail)
  go_ret2
  exact ⟨A_3, c_3, rfl, own_cap HFr9.out, bv_own (by rw [show bytesOf p = _ from if_pos H1.out]; exact HFr9.out) (bytes_isB p), HS9.out⟩
set_option maxHeartbeats 4000000 in
theorem putNot (p : PktV) (h0 : mayB p = true) (h1 : p.has = false) (w : World) : Calls Tryd.prog 7 #[.agg (pktC p)] w fun e w' => PutOK p 8 e w w' := by
  have H0 := Lib.hid h0
  clear h0
  have H1 := Lib.hid h1
  clear h1
  go_enter Tryd.func7, Tryd.ntmps7
  go_upto_region 1 with fail
  obtain ⟨w1, hw1⟩ : ∃ w1, w1 = (w.alloc (.cells (pktC p) 25)) := ⟨_, rfl⟩
  rw [← hw1]
  have HBP1 := Lib.hid (show Blk w1 (w.heap.size) 25 (pktC p) by rw [hw1]; exact Blk.at_ (by (try simp only [size_alloc])) _ _)
  have HS1 := Lib.hid (show Since w w1 by rw [hw1]; exact Since.alloc (Since.refl w) _)
  have hNE : w.heap.size ≤ w.heap.size := by omega
  have HNE := Lib.hid hNE
  clear hNE hw1
  have HNE3 := Lib.hid (show w.heap.size ≤ w.heap.size from HNE.out)
  clear HNE
  refine wp_region_lit ?_
  refine wpList_q (by rfl) (.agg (pktC p)) ?he ?_
  case he => exact exec_load_row 25 _ _ HBP1.out rfl rfl Tryd.underlying25 rfl (by kernel_rfl)
  (try simp only [Act.put, sA, sB, sC])
  refine wpList_wp (by rfl) (fun K hK => ?_)
  (try go_simp)
  refine (goodV p true _ H0.out).mono ?_
  rintro e w2 ⟨rfl, hb⟩
  (try go_wp2_with fail)
  refine hK.out _ _ ?_
  clear hK K
  (try simp only [Act.put, sA, sB, sC])
  have HS2 := Lib.hid (Since.trans HS1.out hb)
  have HBP2 := Lib.hid (keep_blk hb HBP1.out)
  clear HS1 HBP1
  clear hb
  refine wpList_q (by rfl) (.bool false) ?he ?_
  case he => (go_simp; (try with_reducible rfl))
  (try simp only [Act.put, sA, sB, sC])
  refine wpList_nil ?_
  go_upto_region 3 with fail
  refine wp_region_lit ?_
  refine wpList_q (by rfl) (.pointer (some ⟨w.heap.size, 0, none⟩)) ?he ?_
  case he => (first | rfl | (go_simp; (try with_reducible rfl)))
  (try simp only [Act.put, sA, sB, sC])
  refine wpList_q (by rfl) (.int .i64 p.se) ?he ?_
  case he => exact exec_cell 3 _ _ HBP2.out rfl rfl rfl Tryd.underlying3 rfl
  (try simp only [Act.put, sA, sB, sC])
  refine wpList_q (by rfl) (.int .u8 (p.se % 256)) ?he ?_
  case he => (first | rfl | (go_simp; (try with_reducible rfl)))
  (try simp only [Act.put, sA, sB, sC])
  refine wpList_wp (by rfl) (fun K hK => ?_)
  refine wp_new (fun b => .slice (some ⟨b, 0, none⟩) 2 2) 5 #[.int .u8 1, .int .u8 (p.se % 256)] (by rintro b rfl; first | rfl | kernel_rfl) ?_
  intro bn11 w3 hge hB hb
  refine hK.out _ _ ?_
  clear hK K
  (try simp only [Act.put, sA, sB, sC])
  have HNn11P := Lib.hid (show bn11 ≠ w.heap.size by have := Blk.lt HBP2.out; omega)
  have HGn11 := Lib.hid (show w.heap.size ≤ bn11 by have := Since.size HS2.out; omega)
  have HS3 := Lib.hid (Since.trans HS2.out hb)
  have HBP3 := Lib.hid (keep_blk hb HBP2.out)
  clear HS2 HBP2
  clear hb hge
  have HBn113 := Lib.hid hB
  clear hB
  refine wpList_q (by rfl) (.slice (some ⟨bn11, 0, none⟩) 2 2) ?he ?_
  case he => (first | rfl | (go_simp; (try with_reducible rfl)))
  (try simp only [Act.put, sA, sB, sC])
  refine wpList_nil ?_
  have HFr := Lib.hid (own_new (n := 2) (base := bn11) (cs := cells [1, p.se % 256]) HBn113.out (Nat.le_refl _) rfl (by omega))
  have HFlo := Lib.hid (show bn11 ≤ w3.heap.size from Nat.le_of_lt (Blk.lt HBn113.out))
  clear HBn113
  go_upto_region 4 with fail
  refine wp_region_lit ?_
  refine wpList_q (by rfl) (.slice (some ⟨bn11, 0, none⟩) 2 2) ?he ?_
  case he => (first | rfl | (go_simp; (try with_reducible rfl)))
  (try simp only [Act.put, sA, sB, sC])
  refine wpList_q (by rfl) (.pointer (some ⟨w.heap.size, 1, none⟩)) ?he ?_
  case he => (first | rfl | (go_simp; (try with_reducible rfl)))
  (try simp only [Act.put, sA, sB, sC])
  refine wpList_q (by rfl) (.int .i64 p.ep) ?he ?_
  case he => exact exec_cell 3 _ _ HBP3.out rfl rfl rfl Tryd.underlying3 rfl
  (try simp only [Act.put, sA, sB, sC])
  refine wpList_q (by rfl) (.pointer (some ⟨w.heap.size, 2, none⟩)) ?he ?_
  case he => (first | rfl | (go_simp; (try with_reducible rfl)))
  (try simp only [Act.put, sA, sB, sC])
  refine wpList_q (by rfl) (.int .i64 p.sq) ?he ?_
  case he => exact exec_cell 3 _ _ HBP3.out rfl rfl rfl Tryd.underlying3 rfl
  (try simp only [Act.put, sA, sB, sC])
  refine wpList_q (by rfl) (.pointer (some ⟨w.heap.size, 3, none⟩)) ?he ?_
  case he => (first | rfl | (go_simp; (try with_reducible rfl)))
  (try simp only [Act.put, sA, sB, sC])
  refine wpList_q (by rfl) (.int .i64 p.ak) ?he ?_
  case he => exact exec_cell 3 _ _ HBP3.out rfl rfl rfl Tryd.underlying3 rfl
  (try simp only [Act.put, sA, sB, sC])
  refine wpList_wp (by rfl) (fun K hK => ?_)
  refine wp_new (fun b => .slice (some ⟨b, 0, none⟩) 3 3) 3 #[.int .i64 p.ep, .int .i64 p.sq, .int .i64 p.ak] (by rintro b rfl; first | rfl | kernel_rfl) ?_
  intro bn19 w4 hge hB hb
  refine hK.out _ _ ?_
  clear hK K
  (try simp only [Act.put, sA, sB, sC])
  have HNn19P := Lib.hid (show bn19 ≠ w.heap.size by have := Blk.lt HBP3.out; omega)
  have HGn19 := Lib.hid (show w.heap.size ≤ bn19 by have := Since.size HS3.out; omega)
  have HS4 := Lib.hid (Since.trans HS3.out hb)
  have HBP4 := Lib.hid (keep_blk hb HBP3.out)
  have HFr4 := Lib.hid (keep_own hb HFr.out)
  have HFlo4 := Lib.hid (keep_lo hb HFlo.out)
  clear HS3 HBP3 HFr HFlo
  clear hb hge
  have HBn194 := Lib.hid hB
  clear hB
  refine wpList_wp (by rfl) (fun K hK => ?_)
  (try go_simp)
  refine (twoN bn11 (some ⟨bn11, 0, none⟩) 2 2 ([1, p.se % 256]) bn19 p.ep p.sq p.ak _ HFr4.out HFlo4.out HBn194.out (by omega) 8 (headL p) rfl rfl).mono ?_
  rintro e w5 ⟨A_1, c_1, rfl, hown, hgrw⟩
  (try go_wp2_with fail)
  refine hK.out _ _ ?_
  clear hK K
  (try simp only [Act.put, sA, sB, sC])
  have HS5 := Lib.hid (since_grw HS4.out hgrw HGn11.out)
  have HBP5 := Lib.hid (Grw.blk hgrw HBP4.out (by decide))
  have HBn195 := Lib.hid (Grw.blk hgrw HBn194.out (by decide))
  have HFlo5 := Lib.hid (Grw.lo hgrw HFlo4.out)
  clear HS4 HBP4 HBn194 HFr4 HFlo4
  have HFr5 := Lib.hid hown
  clear hown hgrw
  refine wpList_q (by rfl) (.slice A_1 8 c_1) ?he ?_
  case he => (first | rfl | (go_simp; (try with_reducible rfl)))
  (try simp only [Act.put, sA, sB, sC])
  refine wpList_nil ?_
  go_upto_region 5 with fail
  refine wp_region_lit ?_
  refine wpList_q (by rfl) (.pointer (some ⟨w.heap.size, 4, none⟩)) ?he ?_
  case he => (first | rfl | (go_simp; (try with_reducible rfl)))
  (try simp only [Act.put, sA, sB, sC])
  refine wpList_q (by rfl) (.bool false) ?he ?_
  case he => (rw [← H1.out]; exact exec_cell 4 _ _ HBP5.out rfl rfl rfl Tryd.underlying4 rfl)
  (try simp only [Act.put, sA, sB, sC])
  refine wpList_nil ?_
  go_upto_region 8 with fail
  refine wp_region_lit ?_
  refine wpList_q (by rfl) (.slice A_1 8 c_1) ?he ?_
  case he => (first | rfl | (go_simp; (try with_reducible rfl)))
  (try simp only [Act.put, sA, sB, sC])
  refine wpList_q (by rfl) (.slice A_1 8 c_1) ?he ?_
  case he => (first | rfl | (go_simp; (try with_reducible rfl)))
  (try simp only [Act.put, sA, sB, sC])
  refine wpList_q (by rfl) (.bool true) ?he ?_
  case he => (first | rfl | (go_simp; (try with_reducible rfl)))
  (try simp only [Act.put, sA, sB, sC])
  refine wpList_nil ?_
  (try go_wp2_with fail)
  go_ret2
  exact ⟨A_1, c_1, rfl, own_cap HFr5.out, bv_own (by rw [show bytesOf p = _ from if_neg (by rw [H1.out]; decide)]; exact HFr5.out) (bytes_isB p), HS5.out⟩
set_option maxHeartbeats 4000000 in
theorem numR (n : Int) (w : World) (h0 : 0 ≤ n) (h1 : n ≤ 2147483647) : Calls Tryd.prog 22 #[.int .i64 n] w fun e w' => ∃ b, e = .returned (.slice (some ⟨b, 0, none⟩) 4 4) ∧ w.heap.size ≤ b ∧ Blk w' b 5 #[.int .u8 (n / 16777216 % 256), .int .u8 (n / 65536 % 256), .int .u8 (n / 256 % 256), .int .u8 (n % 256)] ∧ Since w w' := by
  have H0 := Lib.hid (And.intro h0 h1)
  have H1 := Lib.hid (tdiv_pos n 16777216 h0); have H2 := Lib.hid (tdiv_pos n 65536 h0); have H3 := Lib.hid (tdiv_pos n 256 h0); have H4 := Lib.hid (tmod_pos n 256 h0)
  have H5 := Lib.hid (tmod_pos (n / 16777216) 256 (by omega)); have H6 := Lib.hid (tmod_pos (n / 65536) 256 (by omega)); have H7 := Lib.hid (tmod_pos (n / 256) 256 (by omega))
  clear h0 h1
  go_enter Tryd.func22, Tryd.ntmps22
  go_upto_region 1 with fail
  have HS1 := Lib.hid (Since.refl w)
  refine wp_region_lit ?_
  refine wpList_q (by rfl) (.int .i64 n) ?he ?_
  case he => (first | rfl | (go_simp; (try with_reducible rfl)))
  (try simp only [Act.put, sA, sB, sC])
  refine wpList_q (by rfl) (.int .i64 (n / 16777216)) ?he ?_
  case he => (have q := H1.out; have q1 := H0.out; go_simp; (try rw [q]); (try rw [wr64 _ (by omega) (by omega)]))
  (try simp only [Act.put, sA, sB, sC])
  refine wpList_q (by rfl) (.int .i64 (n / 16777216 % 256)) ?he ?_
  case he => (have q := H5.out; have q1 := H0.out; go_simp; (try rw [q]); (try rw [wr64 _ (by omega) (by omega)]))
  (try simp only [Act.put, sA, sB, sC])
  refine wpList_q (by rfl) (.int .u8 (n / 16777216 % 256)) ?he ?_
  case he => (go_simp; (try exact u8_mod _))
  (try simp only [Act.put, sA, sB, sC])
  refine wpList_q (by rfl) (.int .i64 n) ?he ?_
  case he => (first | rfl | (go_simp; (try with_reducible rfl)))
  (try simp only [Act.put, sA, sB, sC])
  refine wpList_q (by rfl) (.int .i64 (n / 65536)) ?he ?_
  case he => (have q := H2.out; have q1 := H0.out; go_simp; (try rw [q]); (try rw [wr64 _ (by omega) (by omega)]))
  (try simp only [Act.put, sA, sB, sC])
  refine wpList_q (by rfl) (.int .i64 (n / 65536 % 256)) ?he ?_
  case he => (have q := H6.out; have q1 := H0.out; go_simp; (try rw [q]); (try rw [wr64 _ (by omega) (by omega)]))
  (try simp only [Act.put, sA, sB, sC])
  refine wpList_q (by rfl) (.int .u8 (n / 65536 % 256)) ?he ?_
  case he => (go_simp; (try exact u8_mod _))
  (try simp only [Act.put, sA, sB, sC])
  refine wpList_q (by rfl) (.int .i64 n) ?he ?_
  case he => (first | rfl | (go_simp; (try with_reducible rfl)))
  (try simp only [Act.put, sA, sB, sC])
  refine wpList_q (by rfl) (.int .i64 (n / 256)) ?he ?_
  case he => (have q := H3.out; have q1 := H0.out; go_simp; (try rw [q]); (try rw [wr64 _ (by omega) (by omega)]))
  (try simp only [Act.put, sA, sB, sC])
  refine wpList_q (by rfl) (.int .i64 (n / 256 % 256)) ?he ?_
  case he => (have q := H7.out; have q1 := H0.out; go_simp; (try rw [q]); (try rw [wr64 _ (by omega) (by omega)]))
  (try simp only [Act.put, sA, sB, sC])
  refine wpList_q (by rfl) (.int .u8 (n / 256 % 256)) ?he ?_
  case he => (go_simp; (try exact u8_mod _))
  (try simp only [Act.put, sA, sB, sC])
  refine wpList_q (by rfl) (.int .i64 n) ?he ?_
  case he => (first | rfl | (go_simp; (try with_reducible rfl)))
  (try simp only [Act.put, sA, sB, sC])
  refine wpList_q (by rfl) (.int .i64 (n % 256)) ?he ?_
  case he => (have q := H4.out; have q1 := H0.out; go_simp; (try rw [q]); (try rw [wr64 _ (by omega) (by omega)]))
  (try simp only [Act.put, sA, sB, sC])
  refine wpList_q (by rfl) (.int .u8 (n % 256)) ?he ?_
  case he => (go_simp; (try exact u8_mod _))
  (try simp only [Act.put, sA, sB, sC])
  refine wpList_wp (by rfl) (fun K hK => ?_)
  refine wp_new (fun b => .slice (some ⟨b, 0, none⟩) 4 4) 5 #[.int .u8 (n / 16777216 % 256), .int .u8 (n / 65536 % 256), .int .u8 (n / 256 % 256), .int .u8 (n % 256)] (by rintro b rfl; first | rfl | kernel_rfl) ?_
  intro bn18 w2 hge hB hb
  refine hK.out _ _ ?_
  clear hK K
  (try simp only [Act.put, sA, sB, sC])
  have HGn18 := Lib.hid (show w.heap.size ≤ bn18 by have := Since.size HS1.out; omega)
  have HS2 := Lib.hid (Since.trans HS1.out hb)
  clear HS1 
  clear hb hge
  have HBn182 := Lib.hid hB
  clear hB
  refine wpList_q (by rfl) (.slice (some ⟨bn18, 0, none⟩) 4 4) ?he ?_
  case he => (first | rfl | (go_simp; (try with_reducible rfl)))
  (try simp only [Act.put, sA, sB, sC])
  refine wpList_nil ?_
  (try go_wp2_with fail)
  go_ret
  exact ⟨bn18, rfl, HGn18.out, HBn182.out, HS2.out⟩
set_option maxHeartbeats 4000000 in
theorem bytesHas (p : PktV) (h0 : mayB p = true) (h1 : p.has = true) (w : World) : Calls Tryd.prog 12 #[.agg (pktC p)] w fun e w' => ∃ A c, e = .returned (.slice A 21 c) ∧ BV w' A 21 (bytesOf p) ∧ Since w w' := by
  have HP := Lib.hid (show headB p = true ∧ (p.has = true → msgB p = true) by unfold mayB at h0; rw [Bool.and_eq_true] at h0; exact ⟨h0.1, fun hh => by have := h0.2; rwa [if_pos hh] at this⟩)
  have g0 := (head_iff p).1 HP.out.1
  have g1 := (msg_iff p).1 (HP.out.2 h1)
  have DEP := Lib.hid (tdiv_pos p.ep 256 (by omega)); have MEP := Lib.hid (tmod_pos p.ep 256 (by omega))
  have DSQ := Lib.hid (tdiv_pos p.sq 256 (by omega)); have MSQ := Lib.hid (tmod_pos p.sq 256 (by omega))
  have DAK := Lib.hid (tdiv_pos p.ak 256 (by omega)); have MAK := Lib.hid (tmod_pos p.ak 256 (by omega))
  have HA := Lib.hid (show 0 ≤ p.a ∧ p.a ≤ 2147483647 by omega); have HB := Lib.hid (show 0 ≤ p.b ∧ p.b ≤ 2147483647 by omega); have HC := Lib.hid (show 0 ≤ p.c ∧ p.c ≤ 2147483647 by omega)
  have HG0 := Lib.hid (show (0 ≤ p.ep ∧ p.ep ≤ 65535) ∧ (0 ≤ p.sq ∧ p.sq ≤ 65535) ∧ 0 ≤ p.ak ∧ p.ak ≤ 65535 by omega)
  clear h0 g0 g1
  have H1 := Lib.hid h1; clear h1 HP
  go_enter Tryd.func12, Tryd.ntmps12
  go_upto_region 1 with fail
  obtain ⟨w1, hw1⟩ : ∃ w1, w1 = (w.alloc (.cells (pktC p) 25)) := ⟨_, rfl⟩
  rw [← hw1]
  have HBP1 := Lib.hid (show Blk w1 (w.heap.size) 25 (pktC p) by rw [hw1]; exact Blk.at_ (by (try simp only [size_alloc])) _ _)
  have HS1 := Lib.hid (show Since w w1 by rw [hw1]; exact Since.alloc (Since.refl w) _)
  have hNE : w.heap.size ≤ w.heap.size := by omega
  have HNE := Lib.hid hNE
  clear hNE hw1
  have HNE3 := Lib.hid (show w.heap.size ≤ w.heap.size from HNE.out)
  clear HNE
  refine wp_region_lit ?_
  refine wpList_q (by rfl) (.pointer (some ⟨w.heap.size, 0, none⟩)) ?he ?_
  case he => (first | rfl | (go_simp; (try with_reducible rfl)))
  (try simp only [Act.put, sA, sB, sC])
  refine wpList_q (by rfl) (.int .i64 p.se) ?he ?_
  case he => exact exec_cell 3 _ _ HBP1.out rfl rfl rfl Tryd.underlying3 rfl
  (try simp only [Act.put, sA, sB, sC])
  refine wpList_q (by rfl) (.int .u8 (p.se % 256)) ?he ?_
  case he => (first | rfl | (go_simp; (try with_reducible rfl)))
  (try simp only [Act.put, sA, sB, sC])
  refine wpList_q (by rfl) (.pointer (some ⟨w.heap.size, 1, none⟩)) ?he ?_
  case he => (first | rfl | (go_simp; (try with_reducible rfl)))
  (try simp only [Act.put, sA, sB, sC])
  refine wpList_q (by rfl) (.int .i64 p.ep) ?he ?_
  case he => exact exec_cell 3 _ _ HBP1.out rfl rfl rfl Tryd.underlying3 rfl
  (try simp only [Act.put, sA, sB, sC])
  refine wpList_q (by rfl) (.int .i64 (p.ep / 256)) ?he ?_
  case he => (have q := DEP.out; have q1 := HG0.out; go_simp; (try rw [q]); (try rw [wr64 _ (by omega) (by omega)]))
  (try simp only [Act.put, sA, sB, sC])
  refine wpList_q (by rfl) (.int .u8 (p.ep / 256 % 256)) ?he ?_
  case he => (first | rfl | (go_simp; (try with_reducible rfl)))
  (try simp only [Act.put, sA, sB, sC])
  refine wpList_q (by rfl) (.pointer (some ⟨w.heap.size, 1, none⟩)) ?he ?_
  case he => (first | rfl | (go_simp; (try with_reducible rfl)))
  (try simp only [Act.put, sA, sB, sC])
  refine wpList_q (by rfl) (.int .i64 p.ep) ?he ?_
  case he => exact exec_cell 3 _ _ HBP1.out rfl rfl rfl Tryd.underlying3 rfl
  (try simp only [Act.put, sA, sB, sC])
  refine wpList_q (by rfl) (.int .i64 (p.ep % 256)) ?he ?_
  case he => (have q := MEP.out; have q1 := HG0.out; go_simp; (try rw [q]); (try rw [wr64 _ (by omega) (by omega)]))
  (try simp only [Act.put, sA, sB, sC])
  refine wpList_q (by rfl) (.int .u8 (p.ep % 256)) ?he ?_
  case he => (go_simp; (try exact u8_mod _))
  (try simp only [Act.put, sA, sB, sC])
  refine wpList_q (by rfl) (.pointer (some ⟨w.heap.size, 2, none⟩)) ?he ?_
  case he => (first | rfl | (go_simp; (try with_reducible rfl)))
  (try simp only [Act.put, sA, sB, sC])
  refine wpList_q (by rfl) (.int .i64 p.sq) ?he ?_
  case he => exact exec_cell 3 _ _ HBP1.out rfl rfl rfl Tryd.underlying3 rfl
  (try simp only [Act.put, sA, sB, sC])
  refine wpList_q (by rfl) (.int .i64 (p.sq / 256)) ?he ?_
  case he => (have q := DSQ.out; have q1 := HG0.out; go_simp; (try rw [q]); (try rw [wr64 _ (by omega) (by omega)]))
  (try simp only [Act.put, sA, sB, sC])
  refine wpList_q (by rfl) (.int .u8 (p.sq / 256 % 256)) ?he ?_
  case he => (first | rfl | (go_simp; (try with_reducible rfl)))
  (try simp only [Act.put, sA, sB, sC])
  refine wpList_q (by rfl) (.pointer (some ⟨w.heap.size, 2, none⟩)) ?he ?_
  case he => (first | rfl | (go_simp; (try with_reducible rfl)))
  (try simp only [Act.put, sA, sB, sC])
  refine wpList_q (by rfl) (.int .i64 p.sq) ?he ?_
  case he => exact exec_cell 3 _ _ HBP1.out rfl rfl rfl Tryd.underlying3 rfl
  (try simp only [Act.put, sA, sB, sC])
  refine wpList_q (by rfl) (.int .i64 (p.sq % 256)) ?he ?_
  case he => (have q := MSQ.out; have q1 := HG0.out; go_simp; (try rw [q]); (try rw [wr64 _ (by omega) (by omega)]))
  (try simp only [Act.put, sA, sB, sC])
  refine wpList_q (by rfl) (.int .u8 (p.sq % 256)) ?he ?_
  case he => (go_simp; (try exact u8_mod _))
  (try simp only [Act.put, sA, sB, sC])
  refine wpList_q (by rfl) (.pointer (some ⟨w.heap.size, 3, none⟩)) ?he ?_
  case he => (first | rfl | (go_simp; (try with_reducible rfl)))
  (try simp only [Act.put, sA, sB, sC])
  refine wpList_q (by rfl) (.int .i64 p.ak) ?he ?_
  case he => exact exec_cell 3 _ _ HBP1.out rfl rfl rfl Tryd.underlying3 rfl
  (try simp only [Act.put, sA, sB, sC])
  refine wpList_q (by rfl) (.int .i64 (p.ak / 256)) ?he ?_
  case he => (have q := DAK.out; have q1 := HG0.out; go_simp; (try rw [q]); (try rw [wr64 _ (by omega) (by omega)]))
  (try simp only [Act.put, sA, sB, sC])
  refine wpList_q (by rfl) (.int .u8 (p.ak / 256 % 256)) ?he ?_
  case he => (first | rfl | (go_simp; (try with_reducible rfl)))
  (try simp only [Act.put, sA, sB, sC])
  refine wpList_q (by rfl) (.pointer (some ⟨w.heap.size, 3, none⟩)) ?he ?_
  case he => (first | rfl | (go_simp; (try with_reducible rfl)))
  (try simp only [Act.put, sA, sB, sC])
  refine wpList_q (by rfl) (.int .i64 p.ak) ?he ?_
  case he => exact exec_cell 3 _ _ HBP1.out rfl rfl rfl Tryd.underlying3 rfl
  (try simp only [Act.put, sA, sB, sC])
  refine wpList_q (by rfl) (.int .i64 (p.ak % 256)) ?he ?_
  case he => (have q := MAK.out; have q1 := HG0.out; go_simp; (try rw [q]); (try rw [wr64 _ (by omega) (by omega)]))
  (try simp only [Act.put, sA, sB, sC])
  refine wpList_q (by rfl) (.int .u8 (p.ak % 256)) ?he ?_
  case he => (go_simp; (try exact u8_mod _))
  (try simp only [Act.put, sA, sB, sC])
  refine wpList_wp (by rfl) (fun K hK => ?_)
  refine wp_new (fun b => .slice (some ⟨b, 0, none⟩) 8 8) 5 #[.int .u8 1, .int .u8 (p.se % 256), .int .u8 (p.ep / 256 % 256), .int .u8 (p.ep % 256), .int .u8 (p.sq / 256 % 256), .int .u8 (p.sq % 256), .int .u8 (p.ak / 256 % 256), .int .u8 (p.ak % 256)] (by rintro b rfl; first | rfl | kernel_rfl) ?_
  intro bn31 w2 hge hB hb
  refine hK.out _ _ ?_
  clear hK K
  (try simp only [Act.put, sA, sB, sC])
  have HNn31P := Lib.hid (show bn31 ≠ w.heap.size by have := Blk.lt HBP1.out; omega)
  have HGn31 := Lib.hid (show w.heap.size ≤ bn31 by have := Since.size HS1.out; omega)
  have HS2 := Lib.hid (Since.trans HS1.out hb)
  have HBP2 := Lib.hid (keep_blk hb HBP1.out)
  clear HS1 HBP1
  clear hb hge
  have HBn312 := Lib.hid hB
  clear hB
  refine wpList_q (by rfl) (.slice (some ⟨bn31, 0, none⟩) 8 8) ?he ?_
  case he => (first | rfl | (go_simp; (try with_reducible rfl)))
  (try simp only [Act.put, sA, sB, sC])
  refine wpList_nil ?_
  have HFr := Lib.hid (own_new (n := 8) (base := bn31) (cs := cells [1, p.se % 256, p.ep / 256 % 256, p.ep % 256, p.sq / 256 % 256, p.sq % 256, p.ak / 256 % 256, p.ak % 256]) HBn312.out (Nat.le_refl _) rfl (by omega))
  have HFlo := Lib.hid (show bn31 ≤ w2.heap.size from Nat.le_of_lt (Blk.lt HBn312.out))
  clear HBn312
  go_upto_region 2 with fail
  refine wp_region_lit ?_
  refine wpList_q (by rfl) (.pointer (some ⟨w.heap.size, 4, none⟩)) ?he ?_
  case he => (first | rfl | (go_simp; (try with_reducible rfl)))
  (try simp only [Act.put, sA, sB, sC])
  refine wpList_q (by rfl) (.bool true) ?he ?_
  case he => (rw [← H1.out]; exact exec_cell 4 _ _ HBP2.out rfl rfl rfl Tryd.underlying4 rfl)
  (try simp only [Act.put, sA, sB, sC])
  refine wpList_nil ?_
  go_upto_region 3 with fail
  refine wp_region_lit ?_
  refine wpList_q (by rfl) (.slice (some ⟨bn31, 0, none⟩) 8 8) ?he ?_
  case he => (first | rfl | (go_simp; (try with_reducible rfl)))
  (try simp only [Act.put, sA, sB, sC])
  refine wpList_q (by rfl) (.pointer (some ⟨w.heap.size, 5, none⟩)) ?he ?_
  case he => (first | rfl | (go_simp; (try with_reducible rfl)))
  (try simp only [Act.put, sA, sB, sC])
  refine wpList_q (by rfl) (.pointer (some ⟨w.heap.size, 5, none⟩)) ?he ?_
  case he => (first | rfl | (go_simp; (try with_reducible rfl)))
  (try simp only [Act.put, sA, sB, sC])
  refine wpList_q (by rfl) (.int .i64 p.ki) ?he ?_
  case he => exact exec_cell 3 _ _ HBP2.out rfl rfl rfl Tryd.underlying3 rfl
  (try simp only [Act.put, sA, sB, sC])
  refine wpList_q (by rfl) (.int .u8 (p.ki % 256)) ?he ?_
  case he => (first | rfl | (go_simp; (try with_reducible rfl)))
  (try simp only [Act.put, sA, sB, sC])
  refine wpList_wp (by rfl) (fun K hK => ?_)
  refine wp_new (fun b => .slice (some ⟨b, 0, none⟩) 1 1) 5 #[.int .u8 (p.ki % 256)] (by rintro b rfl; first | rfl | kernel_rfl) ?_
  intro bn39 w3 hge hB hb
  refine hK.out _ _ ?_
  clear hK K
  (try simp only [Act.put, sA, sB, sC])
  have HNn39P := Lib.hid (show bn39 ≠ w.heap.size by have := Blk.lt HBP2.out; omega)
  have HGn39 := Lib.hid (show w.heap.size ≤ bn39 by have := Since.size HS2.out; omega)
  have HS3 := Lib.hid (Since.trans HS2.out hb)
  have HBP3 := Lib.hid (keep_blk hb HBP2.out)
  have HFr3 := Lib.hid (keep_own hb HFr.out)
  have HFlo3 := Lib.hid (keep_lo hb HFlo.out)
  clear HS2 HBP2 HFr HFlo
  clear hb hge
  have HBn393 := Lib.hid hB
  clear hB
  refine wpList_wp (by rfl) (fun K hK => ?_)
  refine wp_append_bytes (.tmp 34) (.tmp 39) 26 rfl bn31 5 Tryd.underlying26 (by kernel_rfl) (.slice (some ⟨bn31, 0, none⟩) 8 8) 8 ([1, p.se % 256, p.ep / 256 % 256, p.ep % 256, p.sq / 256 % 256, p.sq % 256, p.ak / 256 % 256, p.ak % 256]) rfl HFr3.out (some ⟨bn39, 0, none⟩) 1 1 ([p.ki % 256]) rfl (bv_blk (zs := [p.ki % 256]) HBn393.out rfl (by omega) (by intro z hz; simp only [List.mem_cons, List.not_mem_nil, or_false] at hz; unfold isB; omega)) (by omega) HFlo3.out 9 (headL p ++ [p.ki % 256]) rfl rfl ?_
  intro A_1 c_1 w4 hown hgrw
  refine hK.out _ _ ?_
  clear hK K
  (try simp only [Act.put, sA, sB, sC])
  have HS4 := Lib.hid (since_grw HS3.out hgrw HGn31.out)
  have HBP4 := Lib.hid (Grw.blk hgrw HBP3.out (by decide))
  have HFlo4 := Lib.hid (Grw.lo hgrw HFlo3.out)
  clear HS3 HBP3 HBn393 HFr3 HFlo3
  have HFr4 := Lib.hid hown
  clear hown hgrw
  refine wpList_q (by rfl) (.slice A_1 9 c_1) ?he ?_
  case he => (first | rfl | (go_simp; (try with_reducible rfl)))
  (try simp only [Act.put, sA, sB, sC])
  refine wpList_nil ?_
  go_upto_region 4 with fail
  have hrK : ∀ W W' : World, Since W W' → (Since w W ∧ Blk W w.heap.size 25 (pktC p)) → (Since w W' ∧ Blk W' w.heap.size 25 (pktC p)) := fun W W' k ⟨h, h0⟩ => ⟨h.trans k, keep_blk k h0⟩
  have hrS : (fun W : World => Since w W ∧ Blk W w.heap.size 25 (pktC p)) w4 := ⟨HS4.out, HBP4.out⟩
  have HRK := Lib.hid hrK
  have HRD := Lib.hid (show (fun W : World => Since w W ∧ Blk W w.heap.size 25 (pktC p)) (World.drew w4) from ⟨Since.drew hrS.1, hrS.2⟩)
  clear hrK hrS
  have HElo := Lib.hid (show bn31 ≤ ((World.drew w4)).heap.size from HFlo4.out)
  clear HFlo4
  have HEr := Lib.hid (show ((World.drew w4)).ownsRow bn31 5 1 (.slice A_1 9 c_1) 9 (Byt.cells (headL p ++ [p.ki % 256])) from HFr4.out)
  clear HFr4
  refine wp_region_held_drew (S := fun W : World => Since w W ∧ Blk W w.heap.size 25 (pktC p)) (by kernel_rfl) HRD.out (fun hHeld => ?_)
  refine wpAnyH_take (i := 0) (oi := ?o4__0) (v := .slice A_1 9 c_1) ?h4__0 (by kernel_rfl) (by kernel_rfl) (by kernel_rfl) ?q4__0 ?y4__0 (by assumption) ?_
  case h4__0 => (first | (simp only [gA, gB, gC]; done) | (simp only [gA, gB, gC]; exact rfl))
  case q4__0 => exact fun _ _ _ h => h
  case y4__0 => (refine Or.inl ⟨rfl, ?_⟩; intro w hSw; (first | rfl | (go_simp; (try with_reducible rfl))))
  (try simp only [Act.put, sA, sB, sC])
  refine wpAnyH_take (i := 1) (oi := ?o4__1) (v := .pointer (some ⟨w.heap.size, 5, none⟩)) ?h4__1 (by kernel_rfl) (by kernel_rfl) (by kernel_rfl) ?q4__1 ?y4__1 (by assumption) ?_
  case h4__1 => (first | (simp only [gA, gB, gC]; done) | (simp only [gA, gB, gC]; exact rfl))
  case q4__1 => exact fun _ _ _ h => h
  case y4__1 => (refine Or.inl ⟨rfl, ?_⟩; intro w hSw; (first | rfl | (go_simp; (try with_reducible rfl))))
  (try simp only [Act.put, sA, sB, sC])
  refine wpAnyH_take (i := 2) (oi := ?o4__2) (v := .pointer (some ⟨w.heap.size, 6, none⟩)) ?h4__2 (by kernel_rfl) (by kernel_rfl) (by kernel_rfl) ?q4__2 ?y4__2 (by assumption) ?_
  case h4__2 => (first | (simp only [gA, gB, gC]; done) | (simp only [gA, gB, gC]; exact rfl))
  case q4__2 => exact fun _ _ _ h => h
  case y4__2 => (refine Or.inl ⟨rfl, ?_⟩; intro w hSw; (first | rfl | (go_simp; (try with_reducible rfl))))
  (try simp only [Act.put, sA, sB, sC])
  refine wpAnyH_take (i := 3) (oi := ?o4__3) (v := .int .i64 p.a) ?h4__3 (by kernel_rfl) (by kernel_rfl) (by kernel_rfl) ?q4__3 ?y4__3 (by assumption) ?_
  case h4__3 => (first | (simp only [gA, gB, gC]; done) | (simp only [gA, gB, gC]; exact rfl))
  case q4__3 => exact fun _ _ _ h => h
  case y4__3 => (refine Or.inl ⟨rfl, ?_⟩; intro w hSw; exact exec_cell 3 _ _ hSw.2 rfl rfl rfl Tryd.underlying3 rfl)
  (try simp only [Act.put, sA, sB, sC])
  refine wpAnyH_take (i := 6) (oi := ?o4__6) (v := .pointer (some ⟨w.heap.size, 5, none⟩)) ?h4__6 (by kernel_rfl) (by kernel_rfl) (by kernel_rfl) ?q4__6 ?y4__6 (by assumption) ?_
  case h4__6 => (first | (simp only [gA, gB, gC]; done) | (simp only [gA, gB, gC]; exact rfl))
  case q4__6 => exact fun _ _ _ h => h
  case y4__6 => (refine Or.inl ⟨rfl, ?_⟩; intro w hSw; (first | rfl | (go_simp; (try with_reducible rfl))))
  (try simp only [Act.put, sA, sB, sC])
  refine wpAnyH_take (i := 7) (oi := ?o4__7) (v := .pointer (some ⟨w.heap.size, 7, none⟩)) ?h4__7 (by kernel_rfl) (by kernel_rfl) (by kernel_rfl) ?q4__7 ?y4__7 (by assumption) ?_
  case h4__7 => (first | (simp only [gA, gB, gC]; done) | (simp only [gA, gB, gC]; exact rfl))
  case q4__7 => exact fun _ _ _ h => h
  case y4__7 => (refine Or.inl ⟨rfl, ?_⟩; intro w hSw; (first | rfl | (go_simp; (try with_reducible rfl))))
  (try simp only [Act.put, sA, sB, sC])
  refine wpAnyH_take (i := 8) (oi := ?o4__8) (v := .int .i64 p.b) ?h4__8 (by kernel_rfl) (by kernel_rfl) (by kernel_rfl) ?q4__8 ?y4__8 (by assumption) ?_
  case h4__8 => (first | (simp only [gA, gB, gC]; done) | (simp only [gA, gB, gC]; exact rfl))
  case q4__8 => exact fun _ _ _ h => h
  case y4__8 => (refine Or.inl ⟨rfl, ?_⟩; intro w hSw; exact exec_cell 3 _ _ hSw.2 rfl rfl rfl Tryd.underlying3 rfl)
  (try simp only [Act.put, sA, sB, sC])
  refine wpAnyH_take (i := 11) (oi := ?o4__11) (v := .pointer (some ⟨w.heap.size, 5, none⟩)) ?h4__11 (by kernel_rfl) (by kernel_rfl) (by kernel_rfl) ?q4__11 ?y4__11 (by assumption) ?_
  case h4__11 => (first | (simp only [gA, gB, gC]; done) | (simp only [gA, gB, gC]; exact rfl))
  case q4__11 => exact fun _ _ _ h => h
  case y4__11 => (refine Or.inl ⟨rfl, ?_⟩; intro w hSw; (first | rfl | (go_simp; (try with_reducible rfl))))
  (try simp only [Act.put, sA, sB, sC])
  refine wpAnyH_take (i := 12) (oi := ?o4__12) (v := .pointer (some ⟨w.heap.size, 8, none⟩)) ?h4__12 (by kernel_rfl) (by kernel_rfl) (by kernel_rfl) ?q4__12 ?y4__12 (by assumption) ?_
  case h4__12 => (first | (simp only [gA, gB, gC]; done) | (simp only [gA, gB, gC]; exact rfl))
  case q4__12 => exact fun _ _ _ h => h
  case y4__12 => (refine Or.inl ⟨rfl, ?_⟩; intro w hSw; (first | rfl | (go_simp; (try with_reducible rfl))))
  (try simp only [Act.put, sA, sB, sC])
  refine wpAnyH_take (i := 13) (oi := ?o4__13) (v := .int .i64 p.c) ?h4__13 (by kernel_rfl) (by kernel_rfl) (by kernel_rfl) ?q4__13 ?y4__13 (by assumption) ?_
  case h4__13 => (first | (simp only [gA, gB, gC]; done) | (simp only [gA, gB, gC]; exact rfl))
  case q4__13 => exact fun _ _ _ h => h
  case y4__13 => (refine Or.inl ⟨rfl, ?_⟩; intro w hSw; exact exec_cell 3 _ _ hSw.2 rfl rfl rfl Tryd.underlying3 rfl)
  (try simp only [Act.put, sA, sB, sC])
  refine wpAnyH_ready (rs := [4]) (by kernel_rfl) (by simp) ?_
  refine AllReadyH.cons (o := ?o4__4) ?h4__4 (fun K hK => ?_) AllReadyH.nil
  case h4__4 => (first | (simp only [gA, gB, gC]; done) | (simp only [gA, gB, gC]; exact rfl))
  (try go_simp)
  refine (numR p.a _ HA.out.1 HA.out.2).mono ?_
  rintro e w5 ⟨bq45, rfl, hge, hB, hb⟩
  (try go_wp2_with fail)
  refine hK.out _ _ (by (apply HRK.out; exact hb; exact hHeld)) (fun hHeld2 => ?_)
  have HElok := Lib.hid (keep_lo hb HElo.out)
  clear HElo
  have HErk := Lib.hid (keep_own hb HEr.out)
  clear HEr
  have HGq45 := Lib.hid (show w.heap.size ≤ bq45 by have := Since.size hHeld.1; (try simp at this); (try simp at hge); omega)
  have HXq45 := Lib.hid hB
  clear hB
  clear hge
  clear hK K hHeld hb
  have hHeld := hHeld2
  clear hHeld2
  (try simp only [Act.put, sA, sB, sC])
  refine wpAnyH_ready (rs := [5]) (by kernel_rfl) (by simp) ?_
  refine AllReadyH.cons (o := ?o4__5) ?h4__5 (fun K hK => ?_) AllReadyH.nil
  case h4__5 => (first | (simp only [gA, gB, gC]; done) | (simp only [gA, gB, gC]; exact rfl))
  rw [if_pos (by rfl)]
  refine wp_append_bytes (.tmp 41) (.tmp 45) 26 rfl bn31 5 Tryd.underlying26 (by kernel_rfl) (.slice A_1 9 c_1) 9 (headL p ++ [p.ki % 256]) rfl HErk.out (some ⟨bq45, 0, none⟩) 4 4 (fourL p.a) rfl ((bv_blk (zs := [p.a / 16777216 % 256, p.a / 65536 % 256, p.a / 256 % 256, p.a % 256]) HXq45.out rfl (by omega) (by intro z hz; simp only [List.mem_cons, List.not_mem_nil, or_false] at hz; unfold isB; omega))) (by omega) HElok.out 13 ((headL p ++ [p.ki % 256]) ++ fourL p.a) rfl rfl ?_
  intro A_2 c_2 w6 hown hgrw
  have hHeld3 : (fun W : World => Since w W ∧ Blk W w.heap.size 25 (pktC p)) w6 := ⟨since_grw hHeld.1 hgrw HGn31.out, Grw.blk hgrw (hHeld.2) (by decide)⟩
  have HLO_w6 := Lib.hid (Grw.lo hgrw HElok.out)
  have HOW_w6 := Lib.hid hown
  refine hK.out _ _ hHeld3 (fun hHeld2 => ?_)
  clear hK K hHeld hHeld3 hgrw hown HElok HErk HXq45
  have hHeld := hHeld2
  clear hHeld2
  (try simp only [Act.put, sA, sB, sC])
  refine wpAnyH_ready (rs := [9]) (by kernel_rfl) (by simp) ?_
  refine AllReadyH.cons (o := ?o4__9) ?h4__9 (fun K hK => ?_) AllReadyH.nil
  case h4__9 => (first | (simp only [gA, gB, gC]; done) | (simp only [gA, gB, gC]; exact rfl))
  (try go_simp)
  refine (numR p.b _ HB.out.1 HB.out.2).mono ?_
  rintro e w7 ⟨bq50, rfl, hge, hB, hb⟩
  (try go_wp2_with fail)
  refine hK.out _ _ (by (apply HRK.out; exact hb; exact hHeld)) (fun hHeld2 => ?_)
  have HLO_w6k := Lib.hid (keep_lo hb HLO_w6.out)
  clear HLO_w6
  have HOW_w6k := Lib.hid (keep_own hb HOW_w6.out)
  clear HOW_w6
  have HGq50 := Lib.hid (show w.heap.size ≤ bq50 by have := Since.size hHeld.1; (try simp at this); (try simp at hge); omega)
  have HXq50 := Lib.hid hB
  clear hB
  clear hge
  clear hK K hHeld hb
  have hHeld := hHeld2
  clear hHeld2
  (try simp only [Act.put, sA, sB, sC])
  refine wpAnyH_ready (rs := [10]) (by kernel_rfl) (by simp) ?_
  refine AllReadyH.cons (o := ?o4__10) ?h4__10 (fun K hK => ?_) AllReadyH.nil
  case h4__10 => (first | (simp only [gA, gB, gC]; done) | (simp only [gA, gB, gC]; exact rfl))
  rw [if_pos (by rfl)]
  refine wp_append_bytes (.tmp 46) (.tmp 50) 26 rfl bn31 5 Tryd.underlying26 (by kernel_rfl) (.slice A_2 13 c_2) 13 ((headL p ++ [p.ki % 256]) ++ fourL p.a) rfl HOW_w6k.out (some ⟨bq50, 0, none⟩) 4 4 (fourL p.b) rfl ((bv_blk (zs := [p.b / 16777216 % 256, p.b / 65536 % 256, p.b / 256 % 256, p.b % 256]) HXq50.out rfl (by omega) (by intro z hz; simp only [List.mem_cons, List.not_mem_nil, or_false] at hz; unfold isB; omega))) (by omega) HLO_w6k.out 17 (((headL p ++ [p.ki % 256]) ++ fourL p.a) ++ fourL p.b) rfl rfl ?_
  intro A_3 c_3 w8 hown hgrw
  have hHeld3 : (fun W : World => Since w W ∧ Blk W w.heap.size 25 (pktC p)) w8 := ⟨since_grw hHeld.1 hgrw HGn31.out, Grw.blk hgrw (hHeld.2) (by decide)⟩
  have HLO_w8 := Lib.hid (Grw.lo hgrw HLO_w6k.out)
  have HOW_w8 := Lib.hid hown
  refine hK.out _ _ hHeld3 (fun hHeld2 => ?_)
  clear hK K hHeld hHeld3 hgrw hown HLO_w6k HOW_w6k HXq50
  have hHeld := hHeld2
  clear hHeld2
  (try simp only [Act.put, sA, sB, sC])
  refine wpAnyH_ready (rs := [14]) (by kernel_rfl) (by simp) ?_
  refine AllReadyH.cons (o := ?o4__14) ?h4__14 (fun K hK => ?_) AllReadyH.nil
  case h4__14 => (first | (simp only [gA, gB, gC]; done) | (simp only [gA, gB, gC]; exact rfl))
  (try go_simp)
  refine (numR p.c _ HC.out.1 HC.out.2).mono ?_
  rintro e w9 ⟨bq55, rfl, hge, hB, hb⟩
  (try go_wp2_with fail)
  refine hK.out _ _ (by (apply HRK.out; exact hb; exact hHeld)) (fun hHeld2 => ?_)
  have HLO_w8k := Lib.hid (keep_lo hb HLO_w8.out)
  clear HLO_w8
  have HOW_w8k := Lib.hid (keep_own hb HOW_w8.out)
  clear HOW_w8
  have HGq55 := Lib.hid (show w.heap.size ≤ bq55 by have := Since.size hHeld.1; (try simp at this); (try simp at hge); omega)
  have HXq55 := Lib.hid hB
  clear hB
  clear hge
  clear hK K hHeld hb
  have hHeld := hHeld2
  clear hHeld2
  (try simp only [Act.put, sA, sB, sC])
  refine wpAnyH_ready (rs := [15]) (by kernel_rfl) (by simp) ?_
  refine AllReadyH.cons (o := ?o4__15) ?h4__15 (fun K hK => ?_) AllReadyH.nil
  case h4__15 => (first | (simp only [gA, gB, gC]; done) | (simp only [gA, gB, gC]; exact rfl))
  rw [if_pos (by rfl)]
  refine wp_append_bytes (.tmp 51) (.tmp 55) 26 rfl bn31 5 Tryd.underlying26 (by kernel_rfl) (.slice A_3 17 c_3) 17 (((headL p ++ [p.ki % 256]) ++ fourL p.a) ++ fourL p.b) rfl HOW_w8k.out (some ⟨bq55, 0, none⟩) 4 4 (fourL p.c) rfl ((bv_blk (zs := [p.c / 16777216 % 256, p.c / 65536 % 256, p.c / 256 % 256, p.c % 256]) HXq55.out rfl (by omega) (by intro z hz; simp only [List.mem_cons, List.not_mem_nil, or_false] at hz; unfold isB; omega))) (by omega) HLO_w8k.out 21 ((((headL p ++ [p.ki % 256]) ++ fourL p.a) ++ fourL p.b) ++ fourL p.c) rfl rfl ?_
  intro A_4 c_4 w10 hown hgrw
  have hHeld3 : (fun W : World => Since w W ∧ Blk W w.heap.size 25 (pktC p)) w10 := ⟨since_grw hHeld.1 hgrw HGn31.out, Grw.blk hgrw (hHeld.2) (by decide)⟩
  have HLO_w10 := Lib.hid (Grw.lo hgrw HLO_w8k.out)
  have HOW_w10 := Lib.hid hown
  refine hK.out _ _ hHeld3 (fun hHeld2 => ?_)
  clear hK K hHeld hHeld3 hgrw hown HLO_w8k HOW_w8k HXq55
  have hHeld := hHeld2
  clear hHeld2
  (try simp only [Act.put, sA, sB, sC])
  refine wpAnyH_take (i := 16) (oi := ?o4__16) (v := .slice A_4 21 c_4) ?h4__16 (by kernel_rfl) (by kernel_rfl) (by kernel_rfl) ?q4__16 ?y4__16 (by assumption) ?_
  case h4__16 => (first | (simp only [gA, gB, gC]; done) | (simp only [gA, gB, gC]; exact rfl))
  case q4__16 => exact fun _ _ _ h => h
  case y4__16 => (refine Or.inl ⟨rfl, ?_⟩; intro w hSw; (first | rfl | (go_simp; (try with_reducible rfl))))
  (try simp only [Act.put, sA, sB, sC])
  refine wpAnyH_done (by kernel_rfl) ?_ _
  have HSd4 := Lib.hid hHeld.1
  have HBPd4 := Lib.hid (hHeld.2)
  clear hHeld HRK HRD HS4 HBP4
  have HFlod4 := Lib.hid HLO_w10.out
  clear HLO_w10
  have HFrd4 := Lib.hid HOW_w10.out
  clear HOW_w10
  go_upto_region 5 with fail
  refine wp_region_lit ?_
  refine wpList_q (by rfl) (.slice A_4 21 c_4) ?he ?_
  case he => (first | rfl | (go_simp; (try with_reducible rfl)))
  (try simp only [Act.put, sA, sB, sC])
  refine wpList_q (by rfl) (.slice A_4 21 c_4) ?he ?_
  case he => (first | rfl | (go_simp; (try with_reducible rfl)))
  (try simp only [Act.put, sA, sB, sC])
  refine wpList_nil ?_
  (try go_wp2_with fail)
  go_ret
  exact ⟨A_4, c_4, rfl, bv_own (by rw [show bytesOf p = _ from if_pos H1.out]; exact HFrd4.out) (bytes_isB p), HSd4.out⟩
set_option maxHeartbeats 4000000 in
theorem bytesNot (p : PktV) (h0 : mayB p = true) (h1 : p.has = false) (w : World) : Calls Tryd.prog 12 #[.agg (pktC p)] w fun e w' => ∃ A c, e = .returned (.slice A 8 c) ∧ BV w' A 8 (bytesOf p) ∧ Since w w' := by
  have HP := Lib.hid (show headB p = true ∧ (p.has = true → msgB p = true) by unfold mayB at h0; rw [Bool.and_eq_true] at h0; exact ⟨h0.1, fun hh => by have := h0.2; rwa [if_pos hh] at this⟩)
  have g0 := (head_iff p).1 HP.out.1
  have DEP := Lib.hid (tdiv_pos p.ep 256 (by omega)); have MEP := Lib.hid (tmod_pos p.ep 256 (by omega))
  have DSQ := Lib.hid (tdiv_pos p.sq 256 (by omega)); have MSQ := Lib.hid (tmod_pos p.sq 256 (by omega))
  have DAK := Lib.hid (tdiv_pos p.ak 256 (by omega)); have MAK := Lib.hid (tmod_pos p.ak 256 (by omega))
  have HG0 := Lib.hid (show (0 ≤ p.ep ∧ p.ep ≤ 65535) ∧ (0 ≤ p.sq ∧ p.sq ≤ 65535) ∧ 0 ≤ p.ak ∧ p.ak ≤ 65535 by omega)
  clear h0 g0
  have H1 := Lib.hid h1; clear h1 HP
  go_enter Tryd.func12, Tryd.ntmps12
  go_upto_region 1 with fail
  obtain ⟨w1, hw1⟩ : ∃ w1, w1 = (w.alloc (.cells (pktC p) 25)) := ⟨_, rfl⟩
  rw [← hw1]
  have HBP1 := Lib.hid (show Blk w1 (w.heap.size) 25 (pktC p) by rw [hw1]; exact Blk.at_ (by (try simp only [size_alloc])) _ _)
  have HS1 := Lib.hid (show Since w w1 by rw [hw1]; exact Since.alloc (Since.refl w) _)
  have hNE : w.heap.size ≤ w.heap.size := by omega
  have HNE := Lib.hid hNE
  clear hNE hw1
  have HNE3 := Lib.hid (show w.heap.size ≤ w.heap.size from HNE.out)
  clear HNE
  refine wp_region_lit ?_
  refine wpList_q (by rfl) (.pointer (some ⟨w.heap.size, 0, none⟩)) ?he ?_
  case he => (first | rfl | (go_simp; (try with_reducible rfl)))
  (try simp only [Act.put, sA, sB, sC])
  refine wpList_q (by rfl) (.int .i64 p.se) ?he ?_
  case he => exact exec_cell 3 _ _ HBP1.out rfl rfl rfl Tryd.underlying3 rfl
  (try simp only [Act.put, sA, sB, sC])
  refine wpList_q (by rfl) (.int .u8 (p.se % 256)) ?he ?_
  case he => (first | rfl | (go_simp; (try with_reducible rfl)))
  (try simp only [Act.put, sA, sB, sC])
  refine wpList_q (by rfl) (.pointer (some ⟨w.heap.size, 1, none⟩)) ?he ?_
  case he => (first | rfl | (go_simp; (try with_reducible rfl)))
  (try simp only [Act.put, sA, sB, sC])
  refine wpList_q (by rfl) (.int .i64 p.ep) ?he ?_
  case he => exact exec_cell 3 _ _ HBP1.out rfl rfl rfl Tryd.underlying3 rfl
  (try simp only [Act.put, sA, sB, sC])
  refine wpList_q (by rfl) (.int .i64 (p.ep / 256)) ?he ?_
  case he => (have q := DEP.out; have q1 := HG0.out; go_simp; (try rw [q]); (try rw [wr64 _ (by omega) (by omega)]))
  (try simp only [Act.put, sA, sB, sC])
  refine wpList_q (by rfl) (.int .u8 (p.ep / 256 % 256)) ?he ?_
  case he => (first | rfl | (go_simp; (try with_reducible rfl)))
  (try simp only [Act.put, sA, sB, sC])
  refine wpList_q (by rfl) (.pointer (some ⟨w.heap.size, 1, none⟩)) ?he ?_
  case he => (first | rfl | (go_simp; (try with_reducible rfl)))
  (try simp only [Act.put, sA, sB, sC])
  refine wpList_q (by rfl) (.int .i64 p.ep) ?he ?_
  case he => exact exec_cell 3 _ _ HBP1.out rfl rfl rfl Tryd.underlying3 rfl
  (try simp only [Act.put, sA, sB, sC])
  refine wpList_q (by rfl) (.int .i64 (p.ep % 256)) ?he ?_
  case he => (have q := MEP.out; have q1 := HG0.out; go_simp; (try rw [q]); (try rw [wr64 _ (by omega) (by omega)]))
  (try simp only [Act.put, sA, sB, sC])
  refine wpList_q (by rfl) (.int .u8 (p.ep % 256)) ?he ?_
  case he => (go_simp; (try exact u8_mod _))
  (try simp only [Act.put, sA, sB, sC])
  refine wpList_q (by rfl) (.pointer (some ⟨w.heap.size, 2, none⟩)) ?he ?_
  case he => (first | rfl | (go_simp; (try with_reducible rfl)))
  (try simp only [Act.put, sA, sB, sC])
  refine wpList_q (by rfl) (.int .i64 p.sq) ?he ?_
  case he => exact exec_cell 3 _ _ HBP1.out rfl rfl rfl Tryd.underlying3 rfl
  (try simp only [Act.put, sA, sB, sC])
  refine wpList_q (by rfl) (.int .i64 (p.sq / 256)) ?he ?_
  case he => (have q := DSQ.out; have q1 := HG0.out; go_simp; (try rw [q]); (try rw [wr64 _ (by omega) (by omega)]))
  (try simp only [Act.put, sA, sB, sC])
  refine wpList_q (by rfl) (.int .u8 (p.sq / 256 % 256)) ?he ?_
  case he => (first | rfl | (go_simp; (try with_reducible rfl)))
  (try simp only [Act.put, sA, sB, sC])
  refine wpList_q (by rfl) (.pointer (some ⟨w.heap.size, 2, none⟩)) ?he ?_
  case he => (first | rfl | (go_simp; (try with_reducible rfl)))
  (try simp only [Act.put, sA, sB, sC])
  refine wpList_q (by rfl) (.int .i64 p.sq) ?he ?_
  case he => exact exec_cell 3 _ _ HBP1.out rfl rfl rfl Tryd.underlying3 rfl
  (try simp only [Act.put, sA, sB, sC])
  refine wpList_q (by rfl) (.int .i64 (p.sq % 256)) ?he ?_
  case he => (have q := MSQ.out; have q1 := HG0.out; go_simp; (try rw [q]); (try rw [wr64 _ (by omega) (by omega)]))
  (try simp only [Act.put, sA, sB, sC])
  refine wpList_q (by rfl) (.int .u8 (p.sq % 256)) ?he ?_
  case he => (go_simp; (try exact u8_mod _))
  (try simp only [Act.put, sA, sB, sC])
  refine wpList_q (by rfl) (.pointer (some ⟨w.heap.size, 3, none⟩)) ?he ?_
  case he => (first | rfl | (go_simp; (try with_reducible rfl)))
  (try simp only [Act.put, sA, sB, sC])
  refine wpList_q (by rfl) (.int .i64 p.ak) ?he ?_
  case he => exact exec_cell 3 _ _ HBP1.out rfl rfl rfl Tryd.underlying3 rfl
  (try simp only [Act.put, sA, sB, sC])
  refine wpList_q (by rfl) (.int .i64 (p.ak / 256)) ?he ?_
  case he => (have q := DAK.out; have q1 := HG0.out; go_simp; (try rw [q]); (try rw [wr64 _ (by omega) (by omega)]))
  (try simp only [Act.put, sA, sB, sC])
  refine wpList_q (by rfl) (.int .u8 (p.ak / 256 % 256)) ?he ?_
  case he => (first | rfl | (go_simp; (try with_reducible rfl)))
  (try simp only [Act.put, sA, sB, sC])
  refine wpList_q (by rfl) (.pointer (some ⟨w.heap.size, 3, none⟩)) ?he ?_
  case he => (first | rfl | (go_simp; (try with_reducible rfl)))
  (try simp only [Act.put, sA, sB, sC])
  refine wpList_q (by rfl) (.int .i64 p.ak) ?he ?_
  case he => exact exec_cell 3 _ _ HBP1.out rfl rfl rfl Tryd.underlying3 rfl
  (try simp only [Act.put, sA, sB, sC])
  refine wpList_q (by rfl) (.int .i64 (p.ak % 256)) ?he ?_
  case he => (have q := MAK.out; have q1 := HG0.out; go_simp; (try rw [q]); (try rw [wr64 _ (by omega) (by omega)]))
  (try simp only [Act.put, sA, sB, sC])
  refine wpList_q (by rfl) (.int .u8 (p.ak % 256)) ?he ?_
  case he => (go_simp; (try exact u8_mod _))
  (try simp only [Act.put, sA, sB, sC])
  refine wpList_wp (by rfl) (fun K hK => ?_)
  refine wp_new (fun b => .slice (some ⟨b, 0, none⟩) 8 8) 5 #[.int .u8 1, .int .u8 (p.se % 256), .int .u8 (p.ep / 256 % 256), .int .u8 (p.ep % 256), .int .u8 (p.sq / 256 % 256), .int .u8 (p.sq % 256), .int .u8 (p.ak / 256 % 256), .int .u8 (p.ak % 256)] (by rintro b rfl; first | rfl | kernel_rfl) ?_
  intro bn31 w2 hge hB hb
  refine hK.out _ _ ?_
  clear hK K
  (try simp only [Act.put, sA, sB, sC])
  have HNn31P := Lib.hid (show bn31 ≠ w.heap.size by have := Blk.lt HBP1.out; omega)
  have HGn31 := Lib.hid (show w.heap.size ≤ bn31 by have := Since.size HS1.out; omega)
  have HS2 := Lib.hid (Since.trans HS1.out hb)
  have HBP2 := Lib.hid (keep_blk hb HBP1.out)
  clear HS1 HBP1
  clear hb hge
  have HBn312 := Lib.hid hB
  clear hB
  refine wpList_q (by rfl) (.slice (some ⟨bn31, 0, none⟩) 8 8) ?he ?_
  case he => (first | rfl | (go_simp; (try with_reducible rfl)))
  (try simp only [Act.put, sA, sB, sC])
  refine wpList_nil ?_
  have HFr := Lib.hid (own_new (n := 8) (base := bn31) (cs := cells [1, p.se % 256, p.ep / 256 % 256, p.ep % 256, p.sq / 256 % 256, p.sq % 256, p.ak / 256 % 256, p.ak % 256]) HBn312.out (Nat.le_refl _) rfl (by omega))
  have HFlo := Lib.hid (show bn31 ≤ w2.heap.size from Nat.le_of_lt (Blk.lt HBn312.out))
  clear HBn312
  go_upto_region 2 with fail
  refine wp_region_lit ?_
  refine wpList_q (by rfl) (.pointer (some ⟨w.heap.size, 4, none⟩)) ?he ?_
  case he => (first | rfl | (go_simp; (try with_reducible rfl)))
  (try simp only [Act.put, sA, sB, sC])
  refine wpList_q (by rfl) (.bool false) ?he ?_
  case he => (rw [← H1.out]; exact exec_cell 4 _ _ HBP2.out rfl rfl rfl Tryd.underlying4 rfl)
  (try simp only [Act.put, sA, sB, sC])
  refine wpList_nil ?_
  go_upto_region 5 with fail
  refine wp_region_lit ?_
  refine wpList_q (by rfl) (.slice (some ⟨bn31, 0, none⟩) 8 8) ?he ?_
  case he => (first | rfl | (go_simp; (try with_reducible rfl)))
  (try simp only [Act.put, sA, sB, sC])
  refine wpList_q (by rfl) (.slice (some ⟨bn31, 0, none⟩) 8 8) ?he ?_
  case he => (first | rfl | (go_simp; (try with_reducible rfl)))
  (try simp only [Act.put, sA, sB, sC])
  refine wpList_nil ?_
  (try go_wp2_with fail)
  go_ret
  exact ⟨(some ⟨bn31, 0, none⟩), 8, rfl, bv_own (by rw [show bytesOf p = _ from if_neg (by rw [H1.out]; decide)]; exact HFr.out) (bytes_isB p), HS2.out⟩
end Go.Proofs.YtlihhjcneedgnaaDoor.Mg
