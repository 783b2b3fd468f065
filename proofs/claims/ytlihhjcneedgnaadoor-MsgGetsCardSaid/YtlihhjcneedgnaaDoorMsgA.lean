/-
  msg's two and four, walked.
  Conditions: what stands ahead of each.
-/
import Derived.Test.YtlihhjcneedgnaaDoorMsgW
namespace Go.Proofs.YtlihhjcneedgnaaDoor.Mg
set_option linter.unusedVariables false
set_option linter.unusedSimpArgs false
open Go.RowKit Go.Proofs.YtlihhjcneedgnaaDoor.Ba Go.Proofs.YtlihhjcneedgnaaDoor.Mem
open Go.Proofs.YtlihhjcneedgnaaDoor.Byt (BV isB cells)
set_option maxRecDepth 100000
attribute [local irreducible] Go.wpList
set_option maxHeartbeats 4000000 in
theorem twoT (B : Nat) (A : Option Addr) (n c : Nat) (xs : List Int) (g : Nat) (x y z : Int) (w : World) (hO : w.ownsRow B 5 1 (.slice A n c) n (cells xs)) (hlo : B ≤ w.heap.size) (hB : Blk w g 3 #[.int .i64 x, .int .i64 y, .int .i64 z]) (hn : n ≤ 1000) :
    Calls Tryd.prog 16 #[.slice A n c, .slice (some ⟨g, 0, none⟩) 3 3] w fun e w' => ∃ A' c', e = .returned (.slice A' (n + 6) c') ∧ w'.ownsRow B 5 1 (.slice A' (n + 6) c') (n + 6) (cells (xs ++ (twoL x ++ (twoL y ++ twoL z)))) ∧ Grw 5 B w w' := by
  have HO := Lib.hid hO; have HN := Lib.hid hB; clear hO hB
  go_enter Tryd.func16, Tryd.ntmps16
  go_upto_region 1 with fail
  have HS1 := Lib.hid (show From 5 B w w from From.refl _ hlo)
  refine wp_region_lit ?_
  refine wpList_q (by rfl) (.slice (some ⟨g, 0, none⟩) 3 3) ?he ?_
  case he => (first | rfl | (go_simp; (try with_reducible rfl)))
  (try simp only [Act.put, sA, sB, sC])
  refine wpList_q (by rfl) (.int .i64 3) ?he ?_
  case he => (go_simp; (try with_reducible rfl))
  (try simp only [Act.put, sA, sB, sC])
  refine wpList_q (by rfl) (.int .i64 0) ?he ?_
  case he => (first | rfl | (go_simp; (try with_reducible rfl)))
  (try simp only [Act.put, sA, sB, sC])
  refine wpList_nil ?_
  go_wp2_with fail
  refine wp_loop_rounds 4 ?_
  rw [rounds_succ]
  go_upto_region 2 with fail
  refine wp_region_lit ?_
  refine wpList_q (by rfl) (.bool true) ?he ?_
  case he => (go_simp; (try with_reducible rfl))
  (try simp only [Act.put, sA, sB, sC])
  refine wpList_nil ?_
  go_upto_region 3 with fail
  refine wp_region_lit ?_
  refine wpList_q (by rfl) (.pointer (some ⟨g, 0, none⟩)) ?he ?_
  case he => (first | rfl | (go_simp; (try with_reducible rfl)))
  (try simp only [Act.put, sA, sB, sC])
  refine wpList_q (by rfl) (.int .i64 x) ?he ?_
  case he => exact exec_cell 3 _ _ HN.out rfl rfl rfl Tryd.underlying3 rfl
  (try simp only [Act.put, sA, sB, sC])
  refine wpList_q (by rfl) (.int .i64 x) ?he ?_
  case he => (first | rfl | (go_simp; (try with_reducible rfl)))
  (try simp only [Act.put, sA, sB, sC])
  refine wpList_nil ?_
  go_upto_region 4 with fail
  refine wp_region_lit ?_
  refine wpList_q (by rfl) (.slice A n c) ?he ?_
  case he => (first | rfl | (go_simp; (try with_reducible rfl)))
  (try simp only [Act.put, sA, sB, sC])
  refine wpList_q (by rfl) (.int .i64 x) ?he ?_
  case he => (first | rfl | (go_simp; (try with_reducible rfl)))
  (try simp only [Act.put, sA, sB, sC])
  refine wpList_q (by rfl) (.int .i64 (x / 256)) ?he ?_
  case he => (first | rfl | (go_simp; (try with_reducible rfl)))
  (try simp only [Act.put, sA, sB, sC])
  refine wpList_q (by rfl) (.int .u8 (x / 256 % 256)) ?he ?_
  case he => (first | rfl | (go_simp; (try with_reducible rfl)))
  (try simp only [Act.put, sA, sB, sC])
  refine wpList_q (by rfl) (.int .i64 x) ?he ?_
  case he => (first | rfl | (go_simp; (try with_reducible rfl)))
  (try simp only [Act.put, sA, sB, sC])
  refine wpList_q (by rfl) (.int .u8 (x % 256)) ?he ?_
  case he => (first | rfl | (go_simp; (try with_reducible rfl)))
  (try simp only [Act.put, sA, sB, sC])
  refine wpList_wp (by rfl) (fun K hK => ?_)
  refine wp_new (fun b => .slice (some ⟨b, 0, none⟩) 2 2) 5 #[.int .u8 (x / 256 % 256), .int .u8 (x % 256)] (by rintro b rfl; first | rfl | kernel_rfl) ?_
  intro bn19 w2 hge hB hb
  refine hK.out _ _ ?_
  clear hK K
  (try simp only [Act.put, sA, sB, sC])
  have HNn19N := Lib.hid (show bn19 ≠ g by have := Blk.lt HN.out; omega)
  have HGn19 := Lib.hid (show B ≤ bn19 by have := From.size HS1.out; omega)
  have HS2 := Lib.hid (From.trans HS1.out hb)
  have HBN2 := Lib.hid (keep_blk hb HN.out)
  have HFr2 := Lib.hid (keep_own hb HO.out)
  clear HS1 HN HO
  clear hb hge
  have HBn192 := Lib.hid hB
  clear hB
  refine wpList_wp (by rfl) (fun K hK => ?_)
  refine wp_append_bytes (.tmp 13) (.tmp 19) 26 rfl B 5 Tryd.underlying26 (by kernel_rfl) (.slice A n c) n (xs) rfl HFr2.out (some ⟨bn19, 0, none⟩) 2 2 ([x / 256 % 256, x % 256]) rfl (bv_blk (show Blk w2 bn19 5 (cells [x / 256 % 256, x % 256]).toArray from HBn192.out) rfl (by omega) (by intro z hz; simp only [List.mem_cons, List.not_mem_nil, or_false] at hz; unfold isB; omega)) (by omega) HS2.out.size (n + 2) ((xs ++ twoL x)) (by omega) rfl ?_
  intro A_1 c_1 w3 hown hgrw
  refine hK.out _ _ ?_
  clear hK K
  (try simp only [Act.put, sA, sB, sC])
  have HS3 := Lib.hid (From.grw HS2.out hgrw)
  have HBN3 := Lib.hid (Grw.blk hgrw HBN2.out (by decide))
  clear HS2 HBN2 HBn192 HFr2
  have HFr3 := Lib.hid hown
  clear hown hgrw
  refine wpList_q (by rfl) (.slice A_1 (n + 2) c_1) ?he ?_
  case he => (first | rfl | (go_simp; (try with_reducible rfl)))
  (try simp only [Act.put, sA, sB, sC])
  refine wpList_nil ?_
  go_upto_region 5 with fail
  refine wp_region_lit ?_
  refine wpList_q (by rfl) (.int .i64 1) ?he ?_
  case he => (first | rfl | kernel_rfl | (go_simp; (try with_reducible rfl)))
  (try simp only [Act.put, sA, sB, sC])
  refine wpList_q (by rfl) (.int .i64 1) ?he ?_
  case he => (first | rfl | (go_simp; (try with_reducible rfl)))
  (try simp only [Act.put, sA, sB, sC])
  refine wpList_nil ?_
  go_wp2_with fail
  rw [rounds_succ]
  go_upto_region 2 with fail
  refine wp_region_lit ?_
  refine wpList_q (by rfl) (.bool true) ?he ?_
  case he => (go_simp; (try with_reducible rfl))
  (try simp only [Act.put, sA, sB, sC])
  refine wpList_nil ?_
  go_upto_region 3 with fail
  refine wp_region_lit ?_
  refine wpList_q (by rfl) (.pointer (some ⟨g, 1, none⟩)) ?he ?_
  case he => (first | rfl | (go_simp; (try with_reducible rfl)))
  (try simp only [Act.put, sA, sB, sC])
  refine wpList_q (by rfl) (.int .i64 y) ?he ?_
  case he => exact exec_cell 3 _ _ HBN3.out rfl rfl rfl Tryd.underlying3 rfl
  (try simp only [Act.put, sA, sB, sC])
  refine wpList_q (by rfl) (.int .i64 y) ?he ?_
  case he => (first | rfl | (go_simp; (try with_reducible rfl)))
  (try simp only [Act.put, sA, sB, sC])
  refine wpList_nil ?_
  go_upto_region 4 with fail
  refine wp_region_lit ?_
  refine wpList_q (by rfl) (.slice A_1 (n + 2) c_1) ?he ?_
  case he => (first | rfl | (go_simp; (try with_reducible rfl)))
  (try simp only [Act.put, sA, sB, sC])
  refine wpList_q (by rfl) (.int .i64 y) ?he ?_
  case he => (first | rfl | (go_simp; (try with_reducible rfl)))
  (try simp only [Act.put, sA, sB, sC])
  refine wpList_q (by rfl) (.int .i64 (y / 256)) ?he ?_
  case he => (first | rfl | (go_simp; (try with_reducible rfl)))
  (try simp only [Act.put, sA, sB, sC])
  refine wpList_q (by rfl) (.int .u8 (y / 256 % 256)) ?he ?_
  case he => (first | rfl | (go_simp; (try with_reducible rfl)))
  (try simp only [Act.put, sA, sB, sC])
  refine wpList_q (by rfl) (.int .i64 y) ?he ?_
  case he => (first | rfl | (go_simp; (try with_reducible rfl)))
  (try simp only [Act.put, sA, sB, sC])
  refine wpList_q (by rfl) (.int .u8 (y % 256)) ?he ?_
  case he => (first | rfl | (go_simp; (try with_reducible rfl)))
  (try simp only [Act.put, sA, sB, sC])
  refine wpList_wp (by rfl) (fun K hK => ?_)
  refine wp_new (fun b => .slice (some ⟨b, 0, none⟩) 2 2) 5 #[.int .u8 (y / 256 % 256), .int .u8 (y % 256)] (by rintro b rfl; first | rfl | kernel_rfl) ?_
  intro bn19 w4 hge hB hb
  refine hK.out _ _ ?_
  clear hK K
  (try simp only [Act.put, sA, sB, sC])
  have HNn19N := Lib.hid (show bn19 ≠ g by have := Blk.lt HBN3.out; omega)
  have HGn19 := Lib.hid (show B ≤ bn19 by have := From.size HS3.out; omega)
  have HS4 := Lib.hid (From.trans HS3.out hb)
  have HBN4 := Lib.hid (keep_blk hb HBN3.out)
  have HFr4 := Lib.hid (keep_own hb HFr3.out)
  clear HS3 HBN3 HFr3
  clear hb hge
  have HBn194 := Lib.hid hB
  clear hB
  refine wpList_wp (by rfl) (fun K hK => ?_)
  refine wp_append_bytes (.tmp 13) (.tmp 19) 26 rfl B 5 Tryd.underlying26 (by kernel_rfl) (.slice A_1 (n + 2) c_1) (n + 2) ((xs ++ twoL x)) rfl HFr4.out (some ⟨bn19, 0, none⟩) 2 2 ([y / 256 % 256, y % 256]) rfl (bv_blk (show Blk w4 bn19 5 (cells [y / 256 % 256, y % 256]).toArray from HBn194.out) rfl (by omega) (by intro z hz; simp only [List.mem_cons, List.not_mem_nil, or_false] at hz; unfold isB; omega)) (by omega) HS4.out.size (n + 4) (((xs ++ twoL x) ++ twoL y)) (by omega) rfl ?_
  intro A_2 c_2 w5 hown hgrw
  refine hK.out _ _ ?_
  clear hK K
  (try simp only [Act.put, sA, sB, sC])
  have HS5 := Lib.hid (From.grw HS4.out hgrw)
  have HBN5 := Lib.hid (Grw.blk hgrw HBN4.out (by decide))
  clear HS4 HBN4 HBn194 HFr4
  have HFr5 := Lib.hid hown
  clear hown hgrw
  refine wpList_q (by rfl) (.slice A_2 (n + 4) c_2) ?he ?_
  case he => (first | rfl | (go_simp; (try with_reducible rfl)))
  (try simp only [Act.put, sA, sB, sC])
  refine wpList_nil ?_
  go_upto_region 5 with fail
  refine wp_region_lit ?_
  refine wpList_q (by rfl) (.int .i64 2) ?he ?_
  case he => (first | rfl | kernel_rfl | (go_simp; (try with_reducible rfl)))
  (try simp only [Act.put, sA, sB, sC])
  refine wpList_q (by rfl) (.int .i64 2) ?he ?_
  case he => (first | rfl | (go_simp; (try with_reducible rfl)))
  (try simp only [Act.put, sA, sB, sC])
  refine wpList_nil ?_
  go_wp2_with fail
  rw [rounds_succ]
  go_upto_region 2 with fail
  refine wp_region_lit ?_
  refine wpList_q (by rfl) (.bool true) ?he ?_
  case he => (go_simp; (try with_reducible rfl))
  (try simp only [Act.put, sA, sB, sC])
  refine wpList_nil ?_
  go_upto_region 3 with fail
  refine wp_region_lit ?_
  refine wpList_q (by rfl) (.pointer (some ⟨g, 2, none⟩)) ?he ?_
  case he => (first | rfl | (go_simp; (try with_reducible rfl)))
  (try simp only [Act.put, sA, sB, sC])
  refine wpList_q (by rfl) (.int .i64 z) ?he ?_
  case he => exact exec_cell 3 _ _ HBN5.out rfl rfl rfl Tryd.underlying3 rfl
  (try simp only [Act.put, sA, sB, sC])
  refine wpList_q (by rfl) (.int .i64 z) ?he ?_
  case he => (first | rfl | (go_simp; (try with_reducible rfl)))
  (try simp only [Act.put, sA, sB, sC])
  refine wpList_nil ?_
  go_upto_region 4 with fail
  refine wp_region_lit ?_
  refine wpList_q (by rfl) (.slice A_2 (n + 4) c_2) ?he ?_
  case he => (first | rfl | (go_simp; (try with_reducible rfl)))
  (try simp only [Act.put, sA, sB, sC])
  refine wpList_q (by rfl) (.int .i64 z) ?he ?_
  case he => (first | rfl | (go_simp; (try with_reducible rfl)))
  (try simp only [Act.put, sA, sB, sC])
  refine wpList_q (by rfl) (.int .i64 (z / 256)) ?he ?_
  case he => (first | rfl | (go_simp; (try with_reducible rfl)))
  (try simp only [Act.put, sA, sB, sC])
  refine wpList_q (by rfl) (.int .u8 (z / 256 % 256)) ?he ?_
  case he => (first | rfl | (go_simp; (try with_reducible rfl)))
  (try simp only [Act.put, sA, sB, sC])
  refine wpList_q (by rfl) (.int .i64 z) ?he ?_
  case he => (first | rfl | (go_simp; (try with_reducible rfl)))
  (try simp only [Act.put, sA, sB, sC])
  refine wpList_q (by rfl) (.int .u8 (z % 256)) ?he ?_
  case he => (first | rfl | (go_simp; (try with_reducible rfl)))
  (try simp only [Act.put, sA, sB, sC])
  refine wpList_wp (by rfl) (fun K hK => ?_)
  refine wp_new (fun b => .slice (some ⟨b, 0, none⟩) 2 2) 5 #[.int .u8 (z / 256 % 256), .int .u8 (z % 256)] (by rintro b rfl; first | rfl | kernel_rfl) ?_
  intro bn19 w6 hge hB hb
  refine hK.out _ _ ?_
  clear hK K
  (try simp only [Act.put, sA, sB, sC])
  have HNn19N := Lib.hid (show bn19 ≠ g by have := Blk.lt HBN5.out; omega)
  have HGn19 := Lib.hid (show B ≤ bn19 by have := From.size HS5.out; omega)
  have HS6 := Lib.hid (From.trans HS5.out hb)
  have HBN6 := Lib.hid (keep_blk hb HBN5.out)
  have HFr6 := Lib.hid (keep_own hb HFr5.out)
  clear HS5 HBN5 HFr5
  clear hb hge
  have HBn196 := Lib.hid hB
  clear hB
  refine wpList_wp (by rfl) (fun K hK => ?_)
  refine wp_append_bytes (.tmp 13) (.tmp 19) 26 rfl B 5 Tryd.underlying26 (by kernel_rfl) (.slice A_2 (n + 4) c_2) (n + 4) (((xs ++ twoL x) ++ twoL y)) rfl HFr6.out (some ⟨bn19, 0, none⟩) 2 2 ([z / 256 % 256, z % 256]) rfl (bv_blk (show Blk w6 bn19 5 (cells [z / 256 % 256, z % 256]).toArray from HBn196.out) rfl (by omega) (by intro z hz; simp only [List.mem_cons, List.not_mem_nil, or_false] at hz; unfold isB; omega)) (by omega) HS6.out.size (n + 6) ((((xs ++ twoL x) ++ twoL y) ++ twoL z)) (by omega) rfl ?_
  intro A_3 c_3 w7 hown hgrw
  refine hK.out _ _ ?_
  clear hK K
  (try simp only [Act.put, sA, sB, sC])
  have HS7 := Lib.hid (From.grw HS6.out hgrw)
  have HBN7 := Lib.hid (Grw.blk hgrw HBN6.out (by decide))
  clear HS6 HBN6 HBn196 HFr6
  have HFr7 := Lib.hid hown
  clear hown hgrw
  refine wpList_q (by rfl) (.slice A_3 (n + 6) c_3) ?he ?_
  case he => (first | rfl | (go_simp; (try with_reducible rfl)))
  (try simp only [Act.put, sA, sB, sC])
  refine wpList_nil ?_
  go_upto_region 5 with fail
  refine wp_region_lit ?_
  refine wpList_q (by rfl) (.int .i64 3) ?he ?_
  case he => (first | rfl | kernel_rfl | (go_simp; (try with_reducible rfl)))
  (try simp only [Act.put, sA, sB, sC])
  refine wpList_q (by rfl) (.int .i64 3) ?he ?_
  case he => (first | rfl | (go_simp; (try with_reducible rfl)))
  (try simp only [Act.put, sA, sB, sC])
  refine wpList_nil ?_
  go_wp2_with fail
  rw [rounds_succ]
  go_upto_region 2 with fail
  refine wp_region_lit ?_
  refine wpList_q (by rfl) (.bool false) ?he ?_
  case he => (go_simp; (try with_reducible rfl))
  (try simp only [Act.put, sA, sB, sC])
  refine wpList_nil ?_
  go_wp2_with fail
  go_ret
  exact ⟨A_3, c_3, rfl, by have q := HFr7.out; simpa only [List.append_assoc] using q, HS7.out.1⟩
set_option maxHeartbeats 4000000 in
theorem fourT (B : Nat) (A : Option Addr) (n c : Nat) (xs : List Int) (g : Nat) (x y z : Int) (w : World) (hO : w.ownsRow B 5 1 (.slice A n c) n (cells xs)) (hlo : B ≤ w.heap.size) (hB : Blk w g 3 #[.int .i64 x, .int .i64 y, .int .i64 z]) (hn : n ≤ 1000) :
    Calls Tryd.prog 17 #[.slice A n c, .slice (some ⟨g, 0, none⟩) 3 3] w fun e w' => ∃ A' c', e = .returned (.slice A' (n + 12) c') ∧ w'.ownsRow B 5 1 (.slice A' (n + 12) c') (n + 12) (cells (xs ++ (fourL x ++ (fourL y ++ fourL z)))) ∧ Grw 5 B w w' := by
  have HO := Lib.hid hO; have HN := Lib.hid hB; clear hO hB
  go_enter Tryd.func17, Tryd.ntmps17
  go_upto_region 1 with fail
  have HS1 := Lib.hid (show From 5 B w w from From.refl _ hlo)
  refine wp_region_lit ?_
  refine wpList_q (by rfl) (.slice (some ⟨g, 0, none⟩) 3 3) ?he ?_
  case he => (first | rfl | (go_simp; (try with_reducible rfl)))
  (try simp only [Act.put, sA, sB, sC])
  refine wpList_q (by rfl) (.int .i64 3) ?he ?_
  case he => (go_simp; (try with_reducible rfl))
  (try simp only [Act.put, sA, sB, sC])
  refine wpList_q (by rfl) (.int .i64 0) ?he ?_
  case he => (first | rfl | (go_simp; (try with_reducible rfl)))
  (try simp only [Act.put, sA, sB, sC])
  refine wpList_nil ?_
  go_wp2_with fail
  refine wp_loop_rounds 4 ?_
  rw [rounds_succ]
  go_upto_region 2 with fail
  refine wp_region_lit ?_
  refine wpList_q (by rfl) (.bool true) ?he ?_
  case he => (go_simp; (try with_reducible rfl))
  (try simp only [Act.put, sA, sB, sC])
  refine wpList_nil ?_
  go_upto_region 3 with fail
  refine wp_region_lit ?_
  refine wpList_q (by rfl) (.pointer (some ⟨g, 0, none⟩)) ?he ?_
  case he => (first | rfl | (go_simp; (try with_reducible rfl)))
  (try simp only [Act.put, sA, sB, sC])
  refine wpList_q (by rfl) (.int .i64 x) ?he ?_
  case he => exact exec_cell 3 _ _ HN.out rfl rfl rfl Tryd.underlying3 rfl
  (try simp only [Act.put, sA, sB, sC])
  refine wpList_q (by rfl) (.int .i64 x) ?he ?_
  case he => (first | rfl | (go_simp; (try with_reducible rfl)))
  (try simp only [Act.put, sA, sB, sC])
  refine wpList_nil ?_
  go_upto_region 4 with fail
  refine wp_region_lit ?_
  refine wpList_q (by rfl) (.slice A n c) ?he ?_
  case he => (first | rfl | (go_simp; (try with_reducible rfl)))
  (try simp only [Act.put, sA, sB, sC])
  refine wpList_q (by rfl) (.int .i64 x) ?he ?_
  case he => (first | rfl | (go_simp; (try with_reducible rfl)))
  (try simp only [Act.put, sA, sB, sC])
  refine wpList_q (by rfl) (.int .i64 (x / 16777216)) ?he ?_
  case he => (first | rfl | (go_simp; (try with_reducible rfl)))
  (try simp only [Act.put, sA, sB, sC])
  refine wpList_q (by rfl) (.int .u8 (x / 16777216 % 256)) ?he ?_
  case he => (first | rfl | (go_simp; (try with_reducible rfl)))
  (try simp only [Act.put, sA, sB, sC])
  refine wpList_q (by rfl) (.int .i64 x) ?he ?_
  case he => (first | rfl | (go_simp; (try with_reducible rfl)))
  (try simp only [Act.put, sA, sB, sC])
  refine wpList_q (by rfl) (.int .i64 (x / 65536)) ?he ?_
  case he => (first | rfl | (go_simp; (try with_reducible rfl)))
  (try simp only [Act.put, sA, sB, sC])
  refine wpList_q (by rfl) (.int .u8 (x / 65536 % 256)) ?he ?_
  case he => (first | rfl | (go_simp; (try with_reducible rfl)))
  (try simp only [Act.put, sA, sB, sC])
  refine wpList_q (by rfl) (.int .i64 x) ?he ?_
  case he => (first | rfl | (go_simp; (try with_reducible rfl)))
  (try simp only [Act.put, sA, sB, sC])
  refine wpList_q (by rfl) (.int .i64 (x / 256)) ?he ?_
  case he => (first | rfl | (go_simp; (try with_reducible rfl)))
  (try simp only [Act.put, sA, sB, sC])
  refine wpList_q (by rfl) (.int .u8 (x / 256 % 256)) ?he ?_
  case he => (first | rfl | (go_simp; (try with_reducible rfl)))
  (try simp only [Act.put, sA, sB, sC])
  refine wpList_q (by rfl) (.int .i64 x) ?he ?_
  case he => (first | rfl | (go_simp; (try with_reducible rfl)))
  (try simp only [Act.put, sA, sB, sC])
  refine wpList_q (by rfl) (.int .u8 (x % 256)) ?he ?_
  case he => (first | rfl | (go_simp; (try with_reducible rfl)))
  (try simp only [Act.put, sA, sB, sC])
  refine wpList_wp (by rfl) (fun K hK => ?_)
  refine wp_new (fun b => .slice (some ⟨b, 0, none⟩) 4 4) 5 #[.int .u8 (x / 16777216 % 256), .int .u8 (x / 65536 % 256), .int .u8 (x / 256 % 256), .int .u8 (x % 256)] (by rintro b rfl; first | rfl | kernel_rfl) ?_
  intro bn25 w2 hge hB hb
  refine hK.out _ _ ?_
  clear hK K
  (try simp only [Act.put, sA, sB, sC])
  have HNn25N := Lib.hid (show bn25 ≠ g by have := Blk.lt HN.out; omega)
  have HGn25 := Lib.hid (show B ≤ bn25 by have := From.size HS1.out; omega)
  have HS2 := Lib.hid (From.trans HS1.out hb)
  have HBN2 := Lib.hid (keep_blk hb HN.out)
  have HFr2 := Lib.hid (keep_own hb HO.out)
  clear HS1 HN HO
  clear hb hge
  have HBn252 := Lib.hid hB
  clear hB
  refine wpList_wp (by rfl) (fun K hK => ?_)
  refine wp_append_bytes (.tmp 13) (.tmp 25) 26 rfl B 5 Tryd.underlying26 (by kernel_rfl) (.slice A n c) n (xs) rfl HFr2.out (some ⟨bn25, 0, none⟩) 4 4 ([x / 16777216 % 256, x / 65536 % 256, x / 256 % 256, x % 256]) rfl (bv_blk (show Blk w2 bn25 5 (cells [x / 16777216 % 256, x / 65536 % 256, x / 256 % 256, x % 256]).toArray from HBn252.out) rfl (by omega) (by intro z hz; simp only [List.mem_cons, List.not_mem_nil, or_false] at hz; unfold isB; omega)) (by omega) HS2.out.size (n + 4) ((xs ++ fourL x)) (by omega) rfl ?_
  intro A_1 c_1 w3 hown hgrw
  refine hK.out _ _ ?_
  clear hK K
  (try simp only [Act.put, sA, sB, sC])
  have HS3 := Lib.hid (From.grw HS2.out hgrw)
  have HBN3 := Lib.hid (Grw.blk hgrw HBN2.out (by decide))
  clear HS2 HBN2 HBn252 HFr2
  have HFr3 := Lib.hid hown
  clear hown hgrw
  refine wpList_q (by rfl) (.slice A_1 (n + 4) c_1) ?he ?_
  case he => (first | rfl | (go_simp; (try with_reducible rfl)))
  (try simp only [Act.put, sA, sB, sC])
  refine wpList_nil ?_
  go_upto_region 5 with fail
  refine wp_region_lit ?_
  refine wpList_q (by rfl) (.int .i64 1) ?he ?_
  case he => (first | rfl | kernel_rfl | (go_simp; (try with_reducible rfl)))
  (try simp only [Act.put, sA, sB, sC])
  refine wpList_q (by rfl) (.int .i64 1) ?he ?_
  case he => (first | rfl | (go_simp; (try with_reducible rfl)))
  (try simp only [Act.put, sA, sB, sC])
  refine wpList_nil ?_
  go_wp2_with fail
  rw [rounds_succ]
  go_upto_region 2 with fail
  refine wp_region_lit ?_
  refine wpList_q (by rfl) (.bool true) ?he ?_
  case he => (go_simp; (try with_reducible rfl))
  (try simp only [Act.put, sA, sB, sC])
  refine wpList_nil ?_
  go_upto_region 3 with fail
  refine wp_region_lit ?_
  refine wpList_q (by rfl) (.pointer (some ⟨g, 1, none⟩)) ?he ?_
  case he => (first | rfl | (go_simp; (try with_reducible rfl)))
  (try simp only [Act.put, sA, sB, sC])
  refine wpList_q (by rfl) (.int .i64 y) ?he ?_
  case he => exact exec_cell 3 _ _ HBN3.out rfl rfl rfl Tryd.underlying3 rfl
  (try simp only [Act.put, sA, sB, sC])
  refine wpList_q (by rfl) (.int .i64 y) ?he ?_
  case he => (first | rfl | (go_simp; (try with_reducible rfl)))
  (try simp only [Act.put, sA, sB, sC])
  refine wpList_nil ?_
  go_upto_region 4 with fail
  refine wp_region_lit ?_
  refine wpList_q (by rfl) (.slice A_1 (n + 4) c_1) ?he ?_
  case he => (first | rfl | (go_simp; (try with_reducible rfl)))
  (try simp only [Act.put, sA, sB, sC])
  refine wpList_q (by rfl) (.int .i64 y) ?he ?_
  case he => (first | rfl | (go_simp; (try with_reducible rfl)))
  (try simp only [Act.put, sA, sB, sC])
  refine wpList_q (by rfl) (.int .i64 (y / 16777216)) ?he ?_
  case he => (first | rfl | (go_simp; (try with_reducible rfl)))
  (try simp only [Act.put, sA, sB, sC])
  refine wpList_q (by rfl) (.int .u8 (y / 16777216 % 256)) ?he ?_
  case he => (first | rfl | (go_simp; (try with_reducible rfl)))
  (try simp only [Act.put, sA, sB, sC])
  refine wpList_q (by rfl) (.int .i64 y) ?he ?_
  case he => (first | rfl | (go_simp; (try with_reducible rfl)))
  (try simp only [Act.put, sA, sB, sC])
  refine wpList_q (by rfl) (.int .i64 (y / 65536)) ?he ?_
  case he => (first | rfl | (go_simp; (try with_reducible rfl)))
  (try simp only [Act.put, sA, sB, sC])
  refine wpList_q (by rfl) (.int .u8 (y / 65536 % 256)) ?he ?_
  case he => (first | rfl | (go_simp; (try with_reducible rfl)))
  (try simp only [Act.put, sA, sB, sC])
  refine wpList_q (by rfl) (.int .i64 y) ?he ?_
  case he => (first | rfl | (go_simp; (try with_reducible rfl)))
  (try simp only [Act.put, sA, sB, sC])
  refine wpList_q (by rfl) (.int .i64 (y / 256)) ?he ?_
  case he => (first | rfl | (go_simp; (try with_reducible rfl)))
  (try simp only [Act.put, sA, sB, sC])
  refine wpList_q (by rfl) (.int .u8 (y / 256 % 256)) ?he ?_
  case he => (first | rfl | (go_simp; (try with_reducible rfl)))
  (try simp only [Act.put, sA, sB, sC])
  refine wpList_q (by rfl) (.int .i64 y) ?he ?_
  case he => (first | rfl | (go_simp; (try with_reducible rfl)))
  (try simp only [Act.put, sA, sB, sC])
  refine wpList_q (by rfl) (.int .u8 (y % 256)) ?he ?_
  case he => (first | rfl | (go_simp; (try with_reducible rfl)))
  (try simp only [Act.put, sA, sB, sC])
  refine wpList_wp (by rfl) (fun K hK => ?_)
  refine wp_new (fun b => .slice (some ⟨b, 0, none⟩) 4 4) 5 #[.int .u8 (y / 16777216 % 256), .int .u8 (y / 65536 % 256), .int .u8 (y / 256 % 256), .int .u8 (y % 256)] (by rintro b rfl; first | rfl | kernel_rfl) ?_
  intro bn25 w4 hge hB hb
  refine hK.out _ _ ?_
  clear hK K
  (try simp only [Act.put, sA, sB, sC])
  have HNn25N := Lib.hid (show bn25 ≠ g by have := Blk.lt HBN3.out; omega)
  have HGn25 := Lib.hid (show B ≤ bn25 by have := From.size HS3.out; omega)
  have HS4 := Lib.hid (From.trans HS3.out hb)
  have HBN4 := Lib.hid (keep_blk hb HBN3.out)
  have HFr4 := Lib.hid (keep_own hb HFr3.out)
  clear HS3 HBN3 HFr3
  clear hb hge
  have HBn254 := Lib.hid hB
  clear hB
  refine wpList_wp (by rfl) (fun K hK => ?_)
  refine wp_append_bytes (.tmp 13) (.tmp 25) 26 rfl B 5 Tryd.underlying26 (by kernel_rfl) (.slice A_1 (n + 4) c_1) (n + 4) ((xs ++ fourL x)) rfl HFr4.out (some ⟨bn25, 0, none⟩) 4 4 ([y / 16777216 % 256, y / 65536 % 256, y / 256 % 256, y % 256]) rfl (bv_blk (show Blk w4 bn25 5 (cells [y / 16777216 % 256, y / 65536 % 256, y / 256 % 256, y % 256]).toArray from HBn254.out) rfl (by omega) (by intro z hz; simp only [List.mem_cons, List.not_mem_nil, or_false] at hz; unfold isB; omega)) (by omega) HS4.out.size (n + 8) (((xs ++ fourL x) ++ fourL y)) (by omega) rfl ?_
  intro A_2 c_2 w5 hown hgrw
  refine hK.out _ _ ?_
  clear hK K
  (try simp only [Act.put, sA, sB, sC])
  have HS5 := Lib.hid (From.grw HS4.out hgrw)
  have HBN5 := Lib.hid (Grw.blk hgrw HBN4.out (by decide))
  clear HS4 HBN4 HBn254 HFr4
  have HFr5 := Lib.hid hown
  clear hown hgrw
  refine wpList_q (by rfl) (.slice A_2 (n + 8) c_2) ?he ?_
  case he => (first | rfl | (go_simp; (try with_reducible rfl)))
  (try simp only [Act.put, sA, sB, sC])
  refine wpList_nil ?_
  go_upto_region 5 with fail
  refine wp_region_lit ?_
  refine wpList_q (by rfl) (.int .i64 2) ?he ?_
  case he => (first | rfl | kernel_rfl | (go_simp; (try with_reducible rfl)))
  (try simp only [Act.put, sA, sB, sC])
  refine wpList_q (by rfl) (.int .i64 2) ?he ?_
  case he => (first | rfl | (go_simp; (try with_reducible rfl)))
  (try simp only [Act.put, sA, sB, sC])
  refine wpList_nil ?_
  go_wp2_with fail
  rw [rounds_succ]
  go_upto_region 2 with fail
  refine wp_region_lit ?_
  refine wpList_q (by rfl) (.bool true) ?he ?_
  case he => (go_simp; (try with_reducible rfl))
  (try simp only [Act.put, sA, sB, sC])
  refine wpList_nil ?_
  go_upto_region 3 with fail
  refine wp_region_lit ?_
  refine wpList_q (by rfl) (.pointer (some ⟨g, 2, none⟩)) ?he ?_
  case he => (first | rfl | (go_simp; (try with_reducible rfl)))
  (try simp only [Act.put, sA, sB, sC])
  refine wpList_q (by rfl) (.int .i64 z) ?he ?_
  case he => exact exec_cell 3 _ _ HBN5.out rfl rfl rfl Tryd.underlying3 rfl
  (try simp only [Act.put, sA, sB, sC])
  refine wpList_q (by rfl) (.int .i64 z) ?he ?_
  case he => (first | rfl | (go_simp; (try with_reducible rfl)))
  (try simp only [Act.put, sA, sB, sC])
  refine wpList_nil ?_
  go_upto_region 4 with fail
  refine wp_region_lit ?_
  refine wpList_q (by rfl) (.slice A_2 (n + 8) c_2) ?he ?_
  case he => (first | rfl | (go_simp; (try with_reducible rfl)))
  (try simp only [Act.put, sA, sB, sC])
  refine wpList_q (by rfl) (.int .i64 z) ?he ?_
  case he => (first | rfl | (go_simp; (try with_reducible rfl)))
  (try simp only [Act.put, sA, sB, sC])
  refine wpList_q (by rfl) (.int .i64 (z / 16777216)) ?he ?_
  case he => (first | rfl | (go_simp; (try with_reducible rfl)))
  (try simp only [Act.put, sA, sB, sC])
  refine wpList_q (by rfl) (.int .u8 (z / 16777216 % 256)) ?he ?_
  case he => (first | rfl | (go_simp; (try with_reducible rfl)))
  (try simp only [Act.put, sA, sB, sC])
  refine wpList_q (by rfl) (.int .i64 z) ?he ?_
  case he => (first | rfl | (go_simp; (try with_reducible rfl)))
  (try simp only [Act.put, sA, sB, sC])
  refine wpList_q (by rfl) (.int .i64 (z / 65536)) ?he ?_
  case he => (first | rfl | (go_simp; (try with_reducible rfl)))
  (try simp only [Act.put, sA, sB, sC])
  refine wpList_q (by rfl) (.int .u8 (z / 65536 % 256)) ?he ?_
  case he => (first | rfl | (go_simp; (try with_reducible rfl)))
  (try simp only [Act.put, sA, sB, sC])
  refine wpList_q (by rfl) (.int .i64 z) ?he ?_
  case he => (first | rfl | (go_simp; (try with_reducible rfl)))
  (try simp only [Act.put, sA, sB, sC])
  refine wpList_q (by rfl) (.int .i64 (z / 256)) ?he ?_
  case he => (first | rfl | (go_simp; (try with_reducible rfl)))
  (try simp only [Act.put, sA, sB, sC])
  refine wpList_q (by rfl) (.int .u8 (z / 256 % 256)) ?he ?_
  case he => (first | rfl | (go_simp; (try with_reducible rfl)))
  (try simp only [Act.put, sA, sB, sC])
  refine wpList_q (by rfl) (.int .i64 z) ?he ?_
  case he => (first | rfl | (go_simp; (try with_reducible rfl)))
  (try simp only [Act.put, sA, sB, sC])
  refine wpList_q (by rfl) (.int .u8 (z % 256)) ?he ?_
  case he => (first | rfl | (go_simp; (try with_reducible rfl)))
  (try simp only [Act.put, sA, sB, sC])
  refine wpList_wp (by rfl) (fun K hK => ?_)
  refine wp_new (fun b => .slice (some ⟨b, 0, none⟩) 4 4) 5 #[.int .u8 (z / 16777216 % 256), .int .u8 (z / 65536 % 256), .int .u8 (z / 256 % 256), .int .u8 (z % 256)] (by rintro b rfl; first | rfl | kernel_rfl) ?_
  intro bn25 w6 hge hB hb
  refine hK.out _ _ ?_
  clear hK K
  (try simp only [Act.put, sA, sB, sC])
  have HNn25N := Lib.hid (show bn25 ≠ g by have := Blk.lt HBN5.out; omega)
  have HGn25 := Lib.hid (show B ≤ bn25 by have := From.size HS5.out; omega)
  have HS6 := Lib.hid (From.trans HS5.out hb)
  have HBN6 := Lib.hid (keep_blk hb HBN5.out)
  have HFr6 := Lib.hid (keep_own hb HFr5.out)
  clear HS5 HBN5 HFr5
  clear hb hge
  have HBn256 := Lib.hid hB
  clear hB
  refine wpList_wp (by rfl) (fun K hK => ?_)
  refine wp_append_bytes (.tmp 13) (.tmp 25) 26 rfl B 5 Tryd.underlying26 (by kernel_rfl) (.slice A_2 (n + 8) c_2) (n + 8) (((xs ++ fourL x) ++ fourL y)) rfl HFr6.out (some ⟨bn25, 0, none⟩) 4 4 ([z / 16777216 % 256, z / 65536 % 256, z / 256 % 256, z % 256]) rfl (bv_blk (show Blk w6 bn25 5 (cells [z / 16777216 % 256, z / 65536 % 256, z / 256 % 256, z % 256]).toArray from HBn256.out) rfl (by omega) (by intro z hz; simp only [List.mem_cons, List.not_mem_nil, or_false] at hz; unfold isB; omega)) (by omega) HS6.out.size (n + 12) ((((xs ++ fourL x) ++ fourL y) ++ fourL z)) (by omega) rfl ?_
  intro A_3 c_3 w7 hown hgrw
  refine hK.out _ _ ?_
  clear hK K
  (try simp only [Act.put, sA, sB, sC])
  have HS7 := Lib.hid (From.grw HS6.out hgrw)
  have HBN7 := Lib.hid (Grw.blk hgrw HBN6.out (by decide))
  clear HS6 HBN6 HBn256 HFr6
  have HFr7 := Lib.hid hown
  clear hown hgrw
  refine wpList_q (by rfl) (.slice A_3 (n + 12) c_3) ?he ?_
  case he => (first | rfl | (go_simp; (try with_reducible rfl)))
  (try simp only [Act.put, sA, sB, sC])
  refine wpList_nil ?_
  go_upto_region 5 with fail
  refine wp_region_lit ?_
  refine wpList_q (by rfl) (.int .i64 3) ?he ?_
  case he => (first | rfl | kernel_rfl | (go_simp; (try with_reducible rfl)))
  (try simp only [Act.put, sA, sB, sC])
  refine wpList_q (by rfl) (.int .i64 3) ?he ?_
  case he => (first | rfl | (go_simp; (try with_reducible rfl)))
  (try simp only [Act.put, sA, sB, sC])
  refine wpList_nil ?_
  go_wp2_with fail
  rw [rounds_succ]
  go_upto_region 2 with fail
  refine wp_region_lit ?_
  refine wpList_q (by rfl) (.bool false) ?he ?_
  case he => (go_simp; (try with_reducible rfl))
  (try simp only [Act.put, sA, sB, sC])
  refine wpList_nil ?_
  go_wp2_with fail
  go_ret
  exact ⟨A_3, c_3, rfl, by have q := HFr7.out; simpa only [List.append_assoc] using q, HS7.out.1⟩
end Go.Proofs.YtlihhjcneedgnaaDoor.Mg
