/-
  The laws of layer 4 (msg), walked: each answers true.
  Conditions: the table of names holds what the program's text lays; a slice reads as bytes.
-/
import Derived.Test.YtlihhjcneedgnaaDoorFar
import Derived.Test.YtlihhjcneedgnaaDoorMsgE
import Derived.Test.YtlihhjcneedgnaaDoorMsgF
namespace Go.Proofs.YtlihhjcneedgnaaDoor.Mg
set_option linter.unusedVariables false
set_option linter.unusedSimpArgs false
open Go.RowKit Go.Proofs.YtlihhjcneedgnaaDoor.Ba Go.Proofs.YtlihhjcneedgnaaDoor.Mem
open Go.Proofs.YtlihhjcneedgnaaDoor.Byt (BV isB cells)
set_option maxRecDepth 100000
attribute [local irreducible] Go.wpList
def pA : PktV := ⟨3, 258, 0, 0, true, 16, 0, 0, 7⟩
theorem putA (w : World) : Calls Tryd.prog 7 #[.agg #[.int .i64 3, .int .i64 258, .int .i64 0, .int .i64 0, .bool true, .int .i64 16, .int .i64 0, .int .i64 0, .int .i64 7]] w fun e w' => ∃ A c, e = .returned (.tuple #[.slice A 21 c, .bool true]) ∧ 21 ≤ c ∧ BV w' A 21 (bytesOf pA) ∧ Since w w' := putHas pA (by decide) rfl w
theorem getQ (p : PktV) (e0 : Int) (A : Option Addr) (n c : Nat) (zs : List Int) (w : World) (h : BV w A n zs) (hc : n ≤ c) (hg : getV zs = (p, e0)) : Calls Tryd.prog 11 #[.slice A n c] w fun e w' => e = .returned (.tuple #[.agg (pktC p), .int .i64 e0]) ∧ Since w w' := by
  have := getT A n c zs w h hc; rw [hg] at this; exact this
theorem getA (A : Option Addr) (c : Nat) (w : World) (h : BV w A 21 (bytesOf pA)) (hc : 21 ≤ c) : Calls Tryd.prog 11 #[.slice A 21 c] w fun e w' => e = .returned (.tuple #[.agg #[.int .i64 3, .int .i64 258, .int .i64 0, .int .i64 0, .bool true, .int .i64 16, .int .i64 0, .int .i64 0, .int .i64 7], .int .i64 0]) ∧ Since w w' := getQ pA 0 A 21 c _ w h hc (back pA (by decide))
theorem getE (e0 : Int) (A : Option Addr) (n c : Nat) (zs : List Int) (w : World) (h : BV w A n zs) (hc : n ≤ c) (hg : getV zs = (zeroP, e0)) : Calls Tryd.prog 11 #[.slice A n c] w fun e w' => e = .returned (.tuple #[.agg #[.int .i64 0, .int .i64 0, .int .i64 0, .int .i64 0, .bool false, .int .i64 0, .int .i64 0, .int .i64 0, .int .i64 0], .int .i64 e0]) ∧ Since w w' := getQ zeroP e0 A n c zs w h hc hg
theorem getP (p : PktV) (h0 : mayB p = true) (A : Option Addr) (n c : Nat) (w : World) (h : BV w A n (bytesOf p)) (hc : n ≤ c) : Calls Tryd.prog 11 #[.slice A n c] w fun e w' => e = .returned (.tuple #[.agg (pktC p), .int .i64 0]) ∧ Since w w' := getQ p 0 A n c _ w h hc (back p h0)
theorem pktQ (p : PktV) (e0 : Int) (A : Option Addr) (n c : Nat) (zs : List Int) (w : World) (h : BV w A n zs) (hg : getV zs = (p, e0)) : Calls Tryd.prog 13 #[.slice A n c] w fun e w' => e = .returned (.tuple #[.agg (pktC p), .int .i64 e0]) ∧ Since w w' := by
  have := pktT A n c zs w h; rw [hg] at this; exact this
theorem goodA' (w : World) : Calls Tryd.prog 10 #[.agg #[.int .i64 3, .int .i64 258, .int .i64 0, .int .i64 0, .bool true, .int .i64 16, .int .i64 0, .int .i64 0, .int .i64 7]] w fun e w' => e = .returned (.bool true) ∧ Since w w' := goodV pA true w (by decide)
set_option maxHeartbeats 4000000 in
theorem ans (w : World) (hn : Nm w) : Calls Tryd.prog 9 #[] w fun e w' => e = .returned (.bool true) ∧ Since w w' := by
  have HNM := Lib.hid hn; clear hn
  go_enter Tryd.func9, Tryd.ntmps9
  go_upto_region 1 with fail
  have HS1 := Lib.hid (Since.refl w)
  refine wp_region_lit ?_
  refine wpList_q (by rfl) (.agg #[.int .i64 16, .int .i64 0, .int .i64 0, .int .i64 7]) ?he ?_
  case he => kernel_rfl
  (try simp only [Act.put, sA, sB, sC])
  refine wpList_q (by rfl) (.agg #[.int .i64 3, .int .i64 258, .int .i64 0, .int .i64 0, .bool true, .int .i64 16, .int .i64 0, .int .i64 0, .int .i64 7]) ?he ?_
  case he => kernel_rfl
  (try simp only [Act.put, sA, sB, sC])
  refine wpList_wp (by rfl) (fun K hK => ?_)
  refine wp_new (fun b => .pointer (some ⟨b, 0, none⟩)) 25 #[.int .i64 0, .int .i64 0, .int .i64 0, .int .i64 0, .bool false, .int .i64 0, .int .i64 0, .int .i64 0, .int .i64 0] (by rintro b rfl; first | rfl | kernel_rfl) ?_
  intro bn1 w2 hge hB hb
  refine hK.out _ _ ?_
  clear hK K
  (try simp only [Act.put, sA, sB, sC])
  have HGn1 := Lib.hid (show w.heap.size ≤ bn1 by have := Since.size HS1.out; omega)
  have HS2 := Lib.hid (Since.trans HS1.out hb)
  clear HS1 
  clear hb hge
  have HBn12 := Lib.hid hB
  clear hB
  refine wpList_wp (by rfl) (fun K hK => ?_)
  refine wp_st_row 25 _ _ rfl #[.int .i64 3, .int .i64 258, .int .i64 0, .int .i64 0, .bool true, .int .i64 16, .int .i64 0, .int .i64 0, .int .i64 7] rfl rfl (HasRow.of HBn12.out rfl) rfl (by simp [pktC, msgC, Value.oneCell']) (by kernel_rfl) ?_
  intro w3 hw
  refine hK.out _ _ ?_
  clear hK K
  (try simp only [Act.put, sA, sB, sC])
  have HS3 := Lib.hid (show Since w w3 by rw [hw]; exact Since.setRow HS2.out HGn1.out _)
  have HBn13 := Lib.hid (show Blk w3 bn1 25 #[.int .i64 3, .int .i64 258, .int .i64 0, .int .i64 0, .bool true, .int .i64 16, .int .i64 0, .int .i64 0, .int .i64 7] by rw [hw]; exact Blk.row HBn12.out _)
  clear hw HS2 HBn12
  refine wpList_nil ?_
  go_upto_region 2 with fail
  refine wp_region_lit ?_
  refine wpList_q (by rfl) (.agg #[.int .i64 3, .int .i64 258, .int .i64 0, .int .i64 0, .bool true, .int .i64 16, .int .i64 0, .int .i64 0, .int .i64 7]) ?he ?_
  case he => exact exec_load_row 25 _ _ HBn13.out rfl rfl Tryd.underlying25 rfl (by kernel_rfl)
  (try simp only [Act.put, sA, sB, sC])
  refine wpList_wp (by rfl) (fun K hK => ?_)
  (try go_simp)
  refine (putA _).mono ?_
  rintro e w4 ⟨A1, c1, rfl, hc1, hBV, hb⟩
  (try go_wp2_with fail)
  refine hK.out _ _ ?_
  clear hK K
  (try simp only [Act.put, sA, sB, sC])
  have HS4 := Lib.hid (Since.trans HS3.out hb)
  have HBn14 := Lib.hid (keep_blk hb HBn13.out)
  clear HS3 HBn13
  clear hb
  have HFbv4_1 := Lib.hid hBV; have HC1 := Lib.hid hc1
  clear hBV hc1
  refine wpList_q (by rfl) (.tuple #[.slice A1 21 c1, .bool true]) ?he ?_
  case he => (first | rfl | (go_simp; (try with_reducible rfl)))
  (try simp only [Act.put, sA, sB, sC])
  refine wpList_q (by rfl) (.slice A1 21 c1) ?he ?_
  case he => (first | rfl | (go_simp; (try with_reducible rfl)))
  (try simp only [Act.put, sA, sB, sC])
  refine wpList_q (by rfl) (.bool true) ?he ?_
  case he => (first | rfl | (go_simp; (try with_reducible rfl)))
  (try simp only [Act.put, sA, sB, sC])
  refine wpList_q (by rfl) (.slice A1 21 c1) ?he ?_
  case he => (first | rfl | (go_simp; (try with_reducible rfl)))
  (try simp only [Act.put, sA, sB, sC])
  refine wpList_q (by rfl) (.bool true) ?he ?_
  case he => (first | rfl | (go_simp; (try with_reducible rfl)))
  (try simp only [Act.put, sA, sB, sC])
  refine wpList_nil ?_
  go_upto_region 3 with fail
  refine wp_region_lit ?_
  refine wpList_q (by rfl) (.slice A1 21 c1) ?he ?_
  case he => (first | rfl | (go_simp; (try with_reducible rfl)))
  (try simp only [Act.put, sA, sB, sC])
  refine wpList_wp (by rfl) (fun K hK => ?_)
  (try go_simp)
  refine (getA A1 c1 _ HFbv4_1.out HC1.out).mono ?_
  rintro e w5 ⟨rfl, hb⟩
  (try go_wp2_with fail)
  refine hK.out _ _ ?_
  clear hK K
  (try simp only [Act.put, sA, sB, sC])
  have HS5 := Lib.hid (Since.trans HS4.out hb)
  have HBn15 := Lib.hid (keep_blk hb HBn14.out)
  have HFbv15 := Lib.hid (keep_bv hb HFbv4_1.out)
  clear HS4 HBn14 HFbv4_1
  clear hb
  refine wpList_q (by rfl) (.tuple #[.agg #[.int .i64 3, .int .i64 258, .int .i64 0, .int .i64 0, .bool true, .int .i64 16, .int .i64 0, .int .i64 0, .int .i64 7], .int .i64 0]) ?he ?_
  case he => (first | rfl | (go_simp; (try with_reducible rfl)))
  (try simp only [Act.put, sA, sB, sC])
  refine wpList_q (by rfl) (.agg #[.int .i64 3, .int .i64 258, .int .i64 0, .int .i64 0, .bool true, .int .i64 16, .int .i64 0, .int .i64 0, .int .i64 7]) ?he ?_
  case he => (first | rfl | (go_simp; (try with_reducible rfl)))
  (try simp only [Act.put, sA, sB, sC])
  refine wpList_q (by rfl) (.int .i64 0) ?he ?_
  case he => (first | rfl | (go_simp; (try with_reducible rfl)))
  (try simp only [Act.put, sA, sB, sC])
  refine wpList_wp (by rfl) (fun K hK => ?_)
  refine wp_new (fun b => .pointer (some ⟨b, 0, none⟩)) 25 #[.int .i64 0, .int .i64 0, .int .i64 0, .int .i64 0, .bool false, .int .i64 0, .int .i64 0, .int .i64 0, .int .i64 0] (by rintro b rfl; first | rfl | kernel_rfl) ?_
  intro bn4 w6 hge hB hb
  refine hK.out _ _ ?_
  clear hK K
  (try simp only [Act.put, sA, sB, sC])
  have HNn4n1 := Lib.hid (show bn4 ≠ bn1 by have := Blk.lt HBn15.out; omega)
  have HGn4 := Lib.hid (show w.heap.size ≤ bn4 by have := Since.size HS5.out; omega)
  have HFAn4_bv1 := Lib.hid (bv_far HFbv15.out hge)
  have HS6 := Lib.hid (Since.trans HS5.out hb)
  have HBn16 := Lib.hid (keep_blk hb HBn15.out)
  have HFbv16 := Lib.hid (keep_bv hb HFbv15.out)
  clear HS5 HBn15 HFbv15
  clear hb hge
  have HBn46 := Lib.hid hB
  clear hB
  refine wpList_wp (by rfl) (fun K hK => ?_)
  refine wp_st_row 25 _ _ rfl #[.int .i64 3, .int .i64 258, .int .i64 0, .int .i64 0, .bool true, .int .i64 16, .int .i64 0, .int .i64 0, .int .i64 7] rfl rfl (HasRow.of HBn46.out rfl) rfl (by simp [pktC, msgC, Value.oneCell']) (by kernel_rfl) ?_
  intro w7 hw
  refine hK.out _ _ ?_
  clear hK K
  (try simp only [Act.put, sA, sB, sC])
  have HS7 := Lib.hid (show Since w w7 by rw [hw]; exact Since.setRow HS6.out HGn4.out _)
  have HBn17 := Lib.hid (show Blk w7 bn1 25 #[.int .i64 3, .int .i64 258, .int .i64 0, .int .i64 0, .bool true, .int .i64 16, .int .i64 0, .int .i64 0, .int .i64 7] by rw [hw]; exact Blk.row_far HBn16.out (Ne.symm HNn4n1.out) _)
  have HBn47 := Lib.hid (show Blk w7 bn4 25 #[.int .i64 3, .int .i64 258, .int .i64 0, .int .i64 0, .bool true, .int .i64 16, .int .i64 0, .int .i64 0, .int .i64 7] by rw [hw]; exact Blk.row HBn46.out _)
  have HFbv1_7 := Lib.hid (show BV w7 A1 21 (bytesOf pA) by rw [hw]; exact bv_row_far HFbv16.out HFAn4_bv1.out _)
  clear hw HS6 HBn16 HBn46 HFbv16
  refine wpList_q (by rfl) (.int .i64 0) ?he ?_
  case he => (first | rfl | (go_simp; (try with_reducible rfl)))
  (try simp only [Act.put, sA, sB, sC])
  refine wpList_nil ?_
  go_upto_region 4 with fail
  refine wp_region_lit ?_
  refine wpList_q (by rfl) (.bool true) ?he ?_
  case he => (first | rfl | (go_simp; (try with_reducible rfl)))
  (try simp only [Act.put, sA, sB, sC])
  refine wpList_q (by rfl) (.bool true) ?he ?_
  case he => (first | rfl | (go_simp; (try with_reducible rfl)))
  (try simp only [Act.put, sA, sB, sC])
  refine wpList_q (by rfl) (.slice A1 21 c1) ?he ?_
  case he => (first | rfl | (go_simp; (try with_reducible rfl)))
  (try simp only [Act.put, sA, sB, sC])
  refine wpList_q (by rfl) (.int .i64 21) ?he ?_
  case he => (go_simp; (try with_reducible rfl))
  (try simp only [Act.put, sA, sB, sC])
  refine wpList_q (by rfl) (.bool true) ?he ?_
  case he => (go_simp; (try with_reducible rfl))
  (try simp only [Act.put, sA, sB, sC])
  refine wpList_q (by rfl) (.bool true) ?he ?_
  case he => (first | rfl | (go_simp; (try with_reducible rfl)))
  (try simp only [Act.put, sA, sB, sC])
  refine wpList_q (by rfl) (.bool true) ?he ?_
  case he => (first | rfl | (go_simp; (try with_reducible rfl)))
  (try simp only [Act.put, sA, sB, sC])
  refine wpList_q (by rfl) (.int .i64 0) ?he ?_
  case he => (first | rfl | (go_simp; (try with_reducible rfl)))
  (try simp only [Act.put, sA, sB, sC])
  refine wpList_q (by rfl) (.bool true) ?he ?_
  case he => (go_simp; (try with_reducible rfl))
  (try simp only [Act.put, sA, sB, sC])
  refine wpList_q (by rfl) (.bool true) ?he ?_
  case he => (first | rfl | (go_simp; (try with_reducible rfl)))
  (try simp only [Act.put, sA, sB, sC])
  refine wpList_q (by rfl) (.bool true) ?he ?_
  case he => (first | rfl | (go_simp; (try with_reducible rfl)))
  (try simp only [Act.put, sA, sB, sC])
  refine wpList_q (by rfl) (.agg #[.int .i64 3, .int .i64 258, .int .i64 0, .int .i64 0, .bool true, .int .i64 16, .int .i64 0, .int .i64 0, .int .i64 7]) ?he ?_
  case he => exact exec_load_row 25 _ _ HBn47.out rfl rfl Tryd.underlying25 rfl (by kernel_rfl)
  (try simp only [Act.put, sA, sB, sC])
  refine wpList_q (by rfl) (.agg #[.int .i64 3, .int .i64 258, .int .i64 0, .int .i64 0, .bool true, .int .i64 16, .int .i64 0, .int .i64 0, .int .i64 7]) ?he ?_
  case he => exact exec_load_row 25 _ _ HBn17.out rfl rfl Tryd.underlying25 rfl (by kernel_rfl)
  (try simp only [Act.put, sA, sB, sC])
  refine wpList_q (by rfl) (.bool true) ?he ?_
  case he => (go_simp; (try with_reducible rfl))
  (try simp only [Act.put, sA, sB, sC])
  refine wpList_q (by rfl) (.bool true) ?he ?_
  case he => (first | rfl | (go_simp; (try with_reducible rfl)))
  (try simp only [Act.put, sA, sB, sC])
  refine wpList_q (by rfl) (.bool true) ?he ?_
  case he => (first | rfl | (go_simp; (try with_reducible rfl)))
  (try simp only [Act.put, sA, sB, sC])
  refine wpList_q (by rfl) (.agg #[.int .i64 3, .int .i64 258, .int .i64 0, .int .i64 0, .bool true, .int .i64 16, .int .i64 0, .int .i64 0, .int .i64 7]) ?he ?_
  case he => exact exec_load_row 25 _ _ HBn17.out rfl rfl Tryd.underlying25 rfl (by kernel_rfl)
  (try simp only [Act.put, sA, sB, sC])
  refine wpList_wp (by rfl) (fun K hK => ?_)
  (try go_simp)
  refine (goodA' _).mono ?_
  rintro e w8 ⟨rfl, hb⟩
  (try go_wp2_with fail)
  refine hK.out _ _ ?_
  clear hK K
  (try simp only [Act.put, sA, sB, sC])
  have HS8 := Lib.hid (Since.trans HS7.out hb)
  have HBn18 := Lib.hid (keep_blk hb HBn17.out)
  have HBn48 := Lib.hid (keep_blk hb HBn47.out)
  have HFbv18 := Lib.hid (keep_bv hb HFbv1_7.out)
  clear HS7 HBn17 HBn47 HFbv1_7
  clear hb
  refine wpList_q (by rfl) (.bool true) ?he ?_
  case he => (first | rfl | (go_simp; (try with_reducible rfl)))
  (try simp only [Act.put, sA, sB, sC])
  refine wpList_q (by rfl) (.bool true) ?he ?_
  case he => (first | rfl | (go_simp; (try with_reducible rfl)))
  (try simp only [Act.put, sA, sB, sC])
  refine wpList_wp (by rfl) (fun K hK => ?_)
  (try go_simp)
  refine (robV 1 true _ (by decide)).mono ?_
  rintro e w' ⟨rfl, rfl⟩
  (try go_wp2_with fail)
  refine hK.out _ _ ?_
  clear hK K
  (try simp only [Act.put, sA, sB, sC])
  refine wpList_q (by rfl) (.bool true) ?he ?_
  case he => (first | rfl | (go_simp; (try with_reducible rfl)))
  (try simp only [Act.put, sA, sB, sC])
  refine wpList_q (by rfl) (.bool true) ?he ?_
  case he => (first | rfl | (go_simp; (try with_reducible rfl)))
  (try simp only [Act.put, sA, sB, sC])
  refine wpList_wp (by rfl) (fun K hK => ?_)
  (try go_simp)
  refine (nameV 16 ⟨#[101, 118, 105, 99, 116]⟩ _ (Nm.keep HS8.out HNM.out) rfl).mono ?_
  rintro e w' ⟨rfl, rfl⟩
  (try go_wp2_with fail)
  refine hK.out _ _ ?_
  clear hK K
  (try simp only [Act.put, sA, sB, sC])
  refine wpList_q (by rfl) (.bool true) ?he ?_
  case he => (go_simp; (first | done | rfl))
  (try simp only [Act.put, sA, sB, sC])
  refine wpList_q (by rfl) (.bool true) ?he ?_
  case he => (first | rfl | (go_simp; (try with_reducible rfl)))
  (try simp only [Act.put, sA, sB, sC])
  refine wpList_q (by rfl) (.bool true) ?he ?_
  case he => (first | rfl | (go_simp; (try with_reducible rfl)))
  (try simp only [Act.put, sA, sB, sC])
  refine wpList_nil ?_
  (try go_wp2_with fail)
  go_ret
  exact ⟨rfl, HS8.out⟩
set_option maxHeartbeats 4000000 in
theorem putsNo (p : PktV) (w : World) (hn : Nm w) (h0 : mayB p = false) : Calls Tryd.prog 3 #[.agg (pktC p)] w fun e w' => e = .returned (.bool true) ∧ Since w w' := by
  have HNM := Lib.hid hn; clear hn
  have H0 := Lib.hid h0; clear h0
  go_enter Tryd.func3, Tryd.ntmps3
  go_upto_region 1 with fail
  obtain ⟨w1, hw1⟩ : ∃ w1, w1 = (w.alloc (.cells (pktC p) 25)) := ⟨_, rfl⟩
  rw [← hw1]
  have HBP1 := Lib.hid (show Blk w1 (w.heap.size) 25 (pktC p) by rw [hw1]; exact Blk.at_ (by (try simp only [size_alloc])) _ _)
  have HS1 := Lib.hid (show Since w w1 by rw [hw1]; exact Since.alloc (Since.refl w) _)
  have hNE : w.heap.size ≤ w.heap.size := by omega
  have HNE := Lib.hid hNE
  clear hNE hw1
  have HNE3 := Lib.hid (show w.heap.size ≤ w.heap.size from HNE.out)
  clear HNE
  refine wp_region_lit ?_
  refine wpList_q (by rfl) (.agg (pktC p)) ?he ?_
  case he => exact exec_load_row 25 _ _ HBP1.out rfl rfl Tryd.underlying25 rfl (by kernel_rfl)
  (try simp only [Act.put, sA, sB, sC])
  refine wpList_wp (by rfl) (fun K hK => ?_)
  (try go_simp)
  refine (putNo p H0.out _).mono ?_
  rintro e w2 ⟨rfl, hb⟩
  (try go_wp2_with fail)
  refine hK.out _ _ ?_
  clear hK K
  (try simp only [Act.put, sA, sB, sC])
  have HS2 := Lib.hid (Since.trans HS1.out hb)
  have HBP2 := Lib.hid (keep_blk hb HBP1.out)
  clear HS1 HBP1
  clear hb
  refine wpList_q (by rfl) (.tuple #[.slice none 0 0, .bool false]) ?he ?_
  case he => (first | rfl | (go_simp; (try with_reducible rfl)))
  (try simp only [Act.put, sA, sB, sC])
  refine wpList_q (by rfl) (.slice none 0 0) ?he ?_
  case he => (first | rfl | (go_simp; (try with_reducible rfl)))
  (try simp only [Act.put, sA, sB, sC])
  refine wpList_q (by rfl) (.bool false) ?he ?_
  case he => (first | rfl | (go_simp; (try with_reducible rfl)))
  (try simp only [Act.put, sA, sB, sC])
  refine wpList_q (by rfl) (.slice none 0 0) ?he ?_
  case he => (first | rfl | (go_simp; (try with_reducible rfl)))
  (try simp only [Act.put, sA, sB, sC])
  refine wpList_q (by rfl) (.bool false) ?he ?_
  case he => (first | rfl | (go_simp; (try with_reducible rfl)))
  (try simp only [Act.put, sA, sB, sC])
  refine wpList_nil ?_
  go_upto_region 2 with fail
  refine wp_region_lit ?_
  refine wpList_q (by rfl) (.agg (pktC p)) ?he ?_
  case he => exact exec_load_row 25 _ _ HBP2.out rfl rfl Tryd.underlying25 rfl (by kernel_rfl)
  (try simp only [Act.put, sA, sB, sC])
  refine wpList_wp (by rfl) (fun K hK => ?_)
  (try go_simp)
  refine (mayPV p false _ H0.out).mono ?_
  rintro e w3 ⟨rfl, hb⟩
  (try go_wp2_with fail)
  refine hK.out _ _ ?_
  clear hK K
  (try simp only [Act.put, sA, sB, sC])
  have HS3 := Lib.hid (Since.trans HS2.out hb)
  have HBP3 := Lib.hid (keep_blk hb HBP2.out)
  clear HS2 HBP2
  clear hb
  refine wpList_q (by rfl) (.bool true) ?he ?_
  case he => (go_simp; (try with_reducible rfl))
  (try simp only [Act.put, sA, sB, sC])
  refine wpList_nil ?_
  go_upto_region 3 with fail
  refine wp_region_lit ?_
  refine wpList_wp (by rfl) (fun K hK => ?_)
  (try go_simp)
  refine (ans _ (Nm.keep HS3.out HNM.out)).mono ?_
  rintro e w4 ⟨rfl, hb⟩
  (try go_wp2_with fail)
  refine hK.out _ _ ?_
  clear hK K
  (try simp only [Act.put, sA, sB, sC])
  have HS4 := Lib.hid (Since.trans HS3.out hb)
  have HBP4 := Lib.hid (keep_blk hb HBP3.out)
  clear HS3 HBP3
  clear hb
  refine wpList_q (by rfl) (.bool true) ?he ?_
  case he => (first | rfl | (go_simp; (try with_reducible rfl)))
  (try simp only [Act.put, sA, sB, sC])
  refine wpList_q (by rfl) (.bool false) ?he ?_
  case he => (first | rfl | (go_simp; (try with_reducible rfl)))
  (try simp only [Act.put, sA, sB, sC])
  refine wpList_q (by rfl) (.bool true) ?he ?_
  case he => (go_simp; (try with_reducible rfl))
  (try simp only [Act.put, sA, sB, sC])
  refine wpList_q (by rfl) (.bool true) ?he ?_
  case he => (first | rfl | (go_simp; (try with_reducible rfl)))
  (try simp only [Act.put, sA, sB, sC])
  refine wpList_q (by rfl) (.bool true) ?he ?_
  case he => (first | rfl | (go_simp; (try with_reducible rfl)))
  (try simp only [Act.put, sA, sB, sC])
  refine wpList_q (by rfl) (.slice none 0 0) ?he ?_
  case he => (first | rfl | (go_simp; (try with_reducible rfl)))
  (try simp only [Act.put, sA, sB, sC])
  refine wpList_q (by rfl) (.int .i64 0) ?he ?_
  case he => (go_simp; (try with_reducible rfl))
  (try simp only [Act.put, sA, sB, sC])
  refine wpList_q (by rfl) (.bool true) ?he ?_
  case he => (go_simp; (try with_reducible rfl))
  (try simp only [Act.put, sA, sB, sC])
  refine wpList_q (by rfl) (.bool true) ?he ?_
  case he => (first | rfl | (go_simp; (try with_reducible rfl)))
  (try simp only [Act.put, sA, sB, sC])
  refine wpList_q (by rfl) (.bool true) ?he ?_
  case he => (first | rfl | (go_simp; (try with_reducible rfl)))
  (try simp only [Act.put, sA, sB, sC])
  refine wpList_q (by rfl) (.agg (pktC p)) ?he ?_
  case he => exact exec_load_row 25 _ _ HBP4.out rfl rfl Tryd.underlying25 rfl (by kernel_rfl)
  (try simp only [Act.put, sA, sB, sC])
  refine wpList_wp (by rfl) (fun K hK => ?_)
  (try go_simp)
  refine (goodV p false _ H0.out).mono ?_
  rintro e w5 ⟨rfl, hb⟩
  (try go_wp2_with fail)
  refine hK.out _ _ ?_
  clear hK K
  (try simp only [Act.put, sA, sB, sC])
  have HS5 := Lib.hid (Since.trans HS4.out hb)
  have HBP5 := Lib.hid (keep_blk hb HBP4.out)
  clear HS4 HBP4
  clear hb
  refine wpList_q (by rfl) (.bool true) ?he ?_
  case he => (go_simp; (try with_reducible rfl))
  (try simp only [Act.put, sA, sB, sC])
  refine wpList_q (by rfl) (.bool true) ?he ?_
  case he => (first | rfl | (go_simp; (try with_reducible rfl)))
  (try simp only [Act.put, sA, sB, sC])
  refine wpList_q (by rfl) (.bool true) ?he ?_
  case he => (first | rfl | (go_simp; (try with_reducible rfl)))
  (try simp only [Act.put, sA, sB, sC])
  refine wpList_nil ?_
  (try go_wp2_with fail)
  go_ret
  exact ⟨rfl, HS5.out⟩
set_option maxHeartbeats 4000000 in
theorem putsHas (p : PktV) (w : World) (hn : Nm w) (h0 : mayB p = true) (h1 : p.has = true) : Calls Tryd.prog 3 #[.agg (pktC p)] w fun e w' => e = .returned (.bool true) ∧ Since w w' := by
  have HNM := Lib.hid hn; clear hn
  have H0 := Lib.hid h0; clear h0
  have H1 := Lib.hid h1; clear h1
  go_enter Tryd.func3, Tryd.ntmps3
  go_upto_region 1 with fail
  obtain ⟨w1, hw1⟩ : ∃ w1, w1 = (w.alloc (.cells (pktC p) 25)) := ⟨_, rfl⟩
  rw [← hw1]
  have HBP1 := Lib.hid (show Blk w1 (w.heap.size) 25 (pktC p) by rw [hw1]; exact Blk.at_ (by (try simp only [size_alloc])) _ _)
  have HS1 := Lib.hid (show Since w w1 by rw [hw1]; exact Since.alloc (Since.refl w) _)
  have hNE : w.heap.size ≤ w.heap.size := by omega
  have HNE := Lib.hid hNE
  clear hNE hw1
  have HNE3 := Lib.hid (show w.heap.size ≤ w.heap.size from HNE.out)
  clear HNE
  refine wp_region_lit ?_
  refine wpList_q (by rfl) (.agg (pktC p)) ?he ?_
  case he => exact exec_load_row 25 _ _ HBP1.out rfl rfl Tryd.underlying25 rfl (by kernel_rfl)
  (try simp only [Act.put, sA, sB, sC])
  refine wpList_wp (by rfl) (fun K hK => ?_)
  (try go_simp)
  refine (putHas p H0.out H1.out _).mono ?_
  rintro e w2 ⟨A1, c1, rfl, hc1, hBV, hb⟩
  (try go_wp2_with fail)
  refine hK.out _ _ ?_
  clear hK K
  (try simp only [Act.put, sA, sB, sC])
  have HS2 := Lib.hid (Since.trans HS1.out hb)
  have HBP2 := Lib.hid (keep_blk hb HBP1.out)
  clear HS1 HBP1
  clear hb
  have HFbv2_1 := Lib.hid hBV; have HC1 := Lib.hid hc1
  clear hBV hc1
  refine wpList_q (by rfl) (.tuple #[.slice A1 21 c1, .bool true]) ?he ?_
  case he => (first | rfl | (go_simp; (try with_reducible rfl)))
  (try simp only [Act.put, sA, sB, sC])
  refine wpList_q (by rfl) (.slice A1 21 c1) ?he ?_
  case he => (first | rfl | (go_simp; (try with_reducible rfl)))
  (try simp only [Act.put, sA, sB, sC])
  refine wpList_q (by rfl) (.bool true) ?he ?_
  case he => (first | rfl | (go_simp; (try with_reducible rfl)))
  (try simp only [Act.put, sA, sB, sC])
  refine wpList_q (by rfl) (.slice A1 21 c1) ?he ?_
  case he => (first | rfl | (go_simp; (try with_reducible rfl)))
  (try simp only [Act.put, sA, sB, sC])
  refine wpList_q (by rfl) (.bool true) ?he ?_
  case he => (first | rfl | (go_simp; (try with_reducible rfl)))
  (try simp only [Act.put, sA, sB, sC])
  refine wpList_nil ?_
  go_upto_region 2 with fail
  refine wp_region_lit ?_
  refine wpList_q (by rfl) (.agg (pktC p)) ?he ?_
  case he => exact exec_load_row 25 _ _ HBP2.out rfl rfl Tryd.underlying25 rfl (by kernel_rfl)
  (try simp only [Act.put, sA, sB, sC])
  refine wpList_wp (by rfl) (fun K hK => ?_)
  (try go_simp)
  refine (mayPV p true _ H0.out).mono ?_
  rintro e w3 ⟨rfl, hb⟩
  (try go_wp2_with fail)
  refine hK.out _ _ ?_
  clear hK K
  (try simp only [Act.put, sA, sB, sC])
  have HS3 := Lib.hid (Since.trans HS2.out hb)
  have HBP3 := Lib.hid (keep_blk hb HBP2.out)
  have HFbv13 := Lib.hid (keep_bv hb HFbv2_1.out)
  clear HS2 HBP2 HFbv2_1
  clear hb
  refine wpList_q (by rfl) (.bool false) ?he ?_
  case he => (go_simp; (try with_reducible rfl))
  (try simp only [Act.put, sA, sB, sC])
  refine wpList_nil ?_
  go_upto_region 4 with fail
  refine wp_region_lit ?_
  refine wpList_q (by rfl) (.slice A1 21 c1) ?he ?_
  case he => (first | rfl | (go_simp; (try with_reducible rfl)))
  (try simp only [Act.put, sA, sB, sC])
  refine wpList_wp (by rfl) (fun K hK => ?_)
  (try go_simp)
  refine (getP p H0.out A1 21 c1 _ HFbv13.out HC1.out).mono ?_
  rintro e w4 ⟨rfl, hb⟩
  (try go_wp2_with fail)
  refine hK.out _ _ ?_
  clear hK K
  (try simp only [Act.put, sA, sB, sC])
  have HS4 := Lib.hid (Since.trans HS3.out hb)
  have HBP4 := Lib.hid (keep_blk hb HBP3.out)
  have HFbv14 := Lib.hid (keep_bv hb HFbv13.out)
  clear HS3 HBP3 HFbv13
  clear hb
  refine wpList_q (by rfl) (.tuple #[.agg (pktC p), .int .i64 0]) ?he ?_
  case he => (first | rfl | (go_simp; (try with_reducible rfl)))
  (try simp only [Act.put, sA, sB, sC])
  refine wpList_q (by rfl) (.agg (pktC p)) ?he ?_
  case he => (first | rfl | (go_simp; (try with_reducible rfl)))
  (try simp only [Act.put, sA, sB, sC])
  refine wpList_q (by rfl) (.int .i64 0) ?he ?_
  case he => (first | rfl | (go_simp; (try with_reducible rfl)))
  (try simp only [Act.put, sA, sB, sC])
  refine wpList_wp (by rfl) (fun K hK => ?_)
  refine wp_new (fun b => .pointer (some ⟨b, 0, none⟩)) 25 #[.int .i64 0, .int .i64 0, .int .i64 0, .int .i64 0, .bool false, .int .i64 0, .int .i64 0, .int .i64 0, .int .i64 0] (by rintro b rfl; first | rfl | kernel_rfl) ?_
  intro bn5 w5 hge hB hb
  refine hK.out _ _ ?_
  clear hK K
  (try simp only [Act.put, sA, sB, sC])
  have HNn5P := Lib.hid (show bn5 ≠ w.heap.size by have := Blk.lt HBP4.out; omega)
  have HGn5 := Lib.hid (show w.heap.size ≤ bn5 by have := Since.size HS4.out; omega)
  have HFAn5_bv1 := Lib.hid (bv_far HFbv14.out hge)
  have HS5 := Lib.hid (Since.trans HS4.out hb)
  have HBP5 := Lib.hid (keep_blk hb HBP4.out)
  have HFbv15 := Lib.hid (keep_bv hb HFbv14.out)
  clear HS4 HBP4 HFbv14
  clear hb hge
  have HBn55 := Lib.hid hB
  clear hB
  refine wpList_wp (by rfl) (fun K hK => ?_)
  refine wp_st_row 25 _ _ rfl (pktC p) rfl rfl (HasRow.of HBn55.out rfl) rfl (by simp [pktC, msgC, Value.oneCell']) (by kernel_rfl) ?_
  intro w6 hw
  refine hK.out _ _ ?_
  clear hK K
  (try simp only [Act.put, sA, sB, sC])
  have HS6 := Lib.hid (show Since w w6 by rw [hw]; exact Since.setRow HS5.out HGn5.out _)
  have HBP6 := Lib.hid (show Blk w6 w.heap.size 25 (pktC p) by rw [hw]; exact Blk.row_far HBP5.out (Ne.symm HNn5P.out) _)
  have HBn56 := Lib.hid (show Blk w6 bn5 25 (pktC p) by rw [hw]; exact Blk.row HBn55.out _)
  have HFbv1_6 := Lib.hid (show BV w6 A1 21 (bytesOf p) by rw [hw]; exact bv_row_far HFbv15.out HFAn5_bv1.out _)
  clear hw HS5 HBP5 HBn55 HFbv15
  refine wpList_q (by rfl) (.int .i64 0) ?he ?_
  case he => (first | rfl | (go_simp; (try with_reducible rfl)))
  (try simp only [Act.put, sA, sB, sC])
  refine wpList_nil ?_
  go_upto_region 5 with fail
  have hrK : ∀ W W' : World, Since W W' → (Since w W ∧ Blk W w.heap.size 25 (pktC p) ∧ Blk W bn5 25 (pktC p) ∧ BV W A1 21 (bytesOf p)) → (Since w W' ∧ Blk W' w.heap.size 25 (pktC p) ∧ Blk W' bn5 25 (pktC p) ∧ BV W' A1 21 (bytesOf p)) := fun W W' k ⟨h, h0, h1, h2⟩ => ⟨h.trans k, keep_blk k h0, keep_blk k h1, keep_bv k h2⟩
  have hrS : (fun W : World => Since w W ∧ Blk W w.heap.size 25 (pktC p) ∧ Blk W bn5 25 (pktC p) ∧ BV W A1 21 (bytesOf p)) w6 := ⟨HS6.out, HBP6.out, HBn56.out, HFbv1_6.out⟩
  have HRK := Lib.hid hrK
  have HRD := Lib.hid (show (fun W : World => Since w W ∧ Blk W w.heap.size 25 (pktC p) ∧ Blk W bn5 25 (pktC p) ∧ BV W A1 21 (bytesOf p)) (World.drew w6) from ⟨Since.drew hrS.1, hrS.2⟩)
  clear hrK hrS
  refine wp_region_held_drew (S := fun W : World => Since w W ∧ Blk W w.heap.size 25 (pktC p) ∧ Blk W bn5 25 (pktC p) ∧ BV W A1 21 (bytesOf p)) (by kernel_rfl) HRD.out (fun hHeld => ?_)
  refine wpAnyH_ready (rs := [0]) (by kernel_rfl) (by simp) ?_
  refine AllReadyH.cons (o := ?o5__0) ?h5__0 (fun K hK => ?_) AllReadyH.nil
  case h5__0 => (first | (simp only [gA, gB, gC]; done) | (simp only [gA, gB, gC]; exact rfl))
  (try go_simp)
  refine (ans _ (Nm.keep hHeld.1 HNM.out)).mono ?_
  rintro e w7 ⟨rfl, hb⟩
  (try go_wp2_with fail)
  refine hK.out _ _ (by (apply HRK.out; exact hb; exact hHeld)) (fun hHeld2 => ?_)
  clear hK K hHeld hb
  have hHeld := hHeld2
  clear hHeld2
  (try simp only [Act.put, sA, sB, sC])
  refine wpAnyH_take (i := 1) (oi := ?o5__1) (v := .bool true) ?h5__1 (by kernel_rfl) (by kernel_rfl) (by kernel_rfl) ?q5__1 ?y5__1 (by assumption) ?_
  case h5__1 => (first | (simp only [gA, gB, gC]; done) | (simp only [gA, gB, gC]; exact rfl))
  case q5__1 => exact fun _ _ _ h => h
  case y5__1 => (refine Or.inl ⟨rfl, ?_⟩; intro w hSw; (first | rfl | (go_simp; (try with_reducible rfl))))
  (try simp only [Act.put, sA, sB, sC])
  refine wpAnyH_take (i := 2) (oi := ?o5__2) (v := .bool true) ?h5__2 (by kernel_rfl) (by kernel_rfl) (by kernel_rfl) ?q5__2 ?y5__2 (by assumption) ?_
  case h5__2 => (first | (simp only [gA, gB, gC]; done) | (simp only [gA, gB, gC]; exact rfl))
  case q5__2 => exact fun _ _ _ h => h
  case y5__2 => (refine Or.inl ⟨rfl, ?_⟩; intro w hSw; (first | rfl | (go_simp; (try with_reducible rfl))))
  (try simp only [Act.put, sA, sB, sC])
  refine wpAnyH_take (i := 3) (oi := ?o5__3) (v := .bool true) ?h5__3 (by kernel_rfl) (by kernel_rfl) (by kernel_rfl) ?q5__3 ?y5__3 (by assumption) ?_
  case h5__3 => (first | (simp only [gA, gB, gC]; done) | (simp only [gA, gB, gC]; exact rfl))
  case q5__3 => exact fun _ _ _ h => h
  case y5__3 => (refine Or.inl ⟨rfl, ?_⟩; intro w hSw; (first | rfl | (go_simp; (try with_reducible rfl))))
  (try simp only [Act.put, sA, sB, sC])
  refine wpAnyH_take (i := 4) (oi := ?o5__4) (v := .bool true) ?h5__4 (by kernel_rfl) (by kernel_rfl) (by kernel_rfl) ?q5__4 ?y5__4 (by assumption) ?_
  case h5__4 => (first | (simp only [gA, gB, gC]; done) | (simp only [gA, gB, gC]; exact rfl))
  case q5__4 => exact fun _ _ _ h => h
  case y5__4 => (refine Or.inl ⟨rfl, ?_⟩; intro w hSw; (first | rfl | (go_simp; (try with_reducible rfl))))
  (try simp only [Act.put, sA, sB, sC])
  refine wpAnyH_take (i := 5) (oi := ?o5__5) (v := .agg (pktC p)) ?h5__5 (by kernel_rfl) (by kernel_rfl) (by kernel_rfl) ?q5__5 ?y5__5 (by assumption) ?_
  case h5__5 => (first | (simp only [gA, gB, gC]; done) | (simp only [gA, gB, gC]; exact rfl))
  case q5__5 => exact fun _ _ _ h => h
  case y5__5 => (refine Or.inl ⟨rfl, ?_⟩; intro w hSw; exact exec_load_row 25 _ _ hSw.2.1 rfl rfl Tryd.underlying25 rfl (by kernel_rfl))
  (try simp only [Act.put, sA, sB, sC])
  refine wpAnyH_ready (rs := [6]) (by kernel_rfl) (by simp) ?_
  refine AllReadyH.cons (o := ?o5__6) ?h5__6 (fun K hK => ?_) AllReadyH.nil
  case h5__6 => (first | (simp only [gA, gB, gC]; done) | (simp only [gA, gB, gC]; exact rfl))
  (try go_simp)
  refine (goodV p true _ H0.out).mono ?_
  rintro e w8 ⟨rfl, hb⟩
  (try go_wp2_with fail)
  refine hK.out _ _ (by (apply HRK.out; exact hb; exact hHeld)) (fun hHeld2 => ?_)
  clear hK K hHeld hb
  have hHeld := hHeld2
  clear hHeld2
  (try simp only [Act.put, sA, sB, sC])
  refine wpAnyH_take (i := 7) (oi := ?o5__7) (v := .bool true) ?h5__7 (by kernel_rfl) (by kernel_rfl) (by kernel_rfl) ?q5__7 ?y5__7 (by assumption) ?_
  case h5__7 => (first | (simp only [gA, gB, gC]; done) | (simp only [gA, gB, gC]; exact rfl))
  case q5__7 => exact fun _ _ _ h => h
  case y5__7 => (refine Or.inl ⟨rfl, ?_⟩; intro w hSw; (first | rfl | (go_simp; (try with_reducible rfl))))
  (try simp only [Act.put, sA, sB, sC])
  refine wpAnyH_take (i := 8) (oi := ?o5__8) (v := .bool true) ?h5__8 (by kernel_rfl) (by kernel_rfl) (by kernel_rfl) ?q5__8 ?y5__8 (by assumption) ?_
  case h5__8 => (first | (simp only [gA, gB, gC]; done) | (simp only [gA, gB, gC]; exact rfl))
  case q5__8 => exact fun _ _ _ h => h
  case y5__8 => (refine Or.inl ⟨rfl, ?_⟩; intro w hSw; (first | rfl | (go_simp; (try with_reducible rfl))))
  (try simp only [Act.put, sA, sB, sC])
  refine wpAnyH_take (i := 9) (oi := ?o5__9) (v := .slice A1 21 c1) ?h5__9 (by kernel_rfl) (by kernel_rfl) (by kernel_rfl) ?q5__9 ?y5__9 (by assumption) ?_
  case h5__9 => (first | (simp only [gA, gB, gC]; done) | (simp only [gA, gB, gC]; exact rfl))
  case q5__9 => exact fun _ _ _ h => h
  case y5__9 => (refine Or.inl ⟨rfl, ?_⟩; intro w hSw; (first | rfl | (go_simp; (try with_reducible rfl))))
  (try simp only [Act.put, sA, sB, sC])
  refine wpAnyH_take (i := 10) (oi := ?o5__10) (v := .string (strOfNums (bytesOf p))) ?h5__10 (by kernel_rfl) (by kernel_rfl) (by kernel_rfl) ?q5__10 ?y5__10 (by assumption) ?_
  case h5__10 => (first | (simp only [gA, gB, gC]; done) | (simp only [gA, gB, gC]; exact rfl))
  case q5__10 => exact fun _ _ _ h => h
  case y5__10 => (refine Or.inl ⟨rfl, ?_⟩; intro w hSw; exact exec_str 26 5 9 _ (hSw.2.2.2) rfl rfl Tryd.underlying26 Tryd.underlying5 Tryd.underlying9)
  (try simp only [Act.put, sA, sB, sC])
  refine wpAnyH_take (i := 11) (oi := ?o5__11) (v := .agg (pktC p)) ?h5__11 (by kernel_rfl) (by kernel_rfl) (by kernel_rfl) ?q5__11 ?y5__11 (by assumption) ?_
  case h5__11 => (first | (simp only [gA, gB, gC]; done) | (simp only [gA, gB, gC]; exact rfl))
  case q5__11 => exact fun _ _ _ h => h
  case y5__11 => (refine Or.inl ⟨rfl, ?_⟩; intro w hSw; exact exec_load_row 25 _ _ hSw.2.1 rfl rfl Tryd.underlying25 rfl (by kernel_rfl))
  (try simp only [Act.put, sA, sB, sC])
  refine wpAnyH_ready (rs := [12]) (by kernel_rfl) (by simp) ?_
  refine AllReadyH.cons (o := ?o5__12) ?h5__12 (fun K hK => ?_) AllReadyH.nil
  case h5__12 => (first | (simp only [gA, gB, gC]; done) | (simp only [gA, gB, gC]; exact rfl))
  (try go_simp)
  refine (bytesHas p H0.out H1.out _).mono ?_
  rintro e w9 ⟨A2, c2, rfl, hBV, hb⟩
  (try go_wp2_with fail)
  refine hK.out _ _ (by (apply HRK.out; exact hb; exact hHeld)) (fun hHeld2 => ?_)
  have HBV2 := Lib.hid hBV
  clear hBV
  clear hK K hHeld hb
  have hHeld := hHeld2
  clear hHeld2
  (try simp only [Act.put, sA, sB, sC])
  refine wpAnyH_ready (rs := [13]) (by kernel_rfl) (by simp) ?_
  refine AllReadyH.cons (o := ?o5__13) ?h5__13 (fun K hK => ?_) AllReadyH.nil
  case h5__13 => (first | (simp only [gA, gB, gC]; done) | (simp only [gA, gB, gC]; exact rfl))
  rw [if_pos (by rfl)]
  refine wp_q (.string (strOfNums (bytesOf p))) ?e5__13 ?_
  case e5__13 => exact exec_str 26 5 9 _ (HBV2.out) rfl rfl Tryd.underlying26 Tryd.underlying5 Tryd.underlying9
  refine hK.out _ _ hHeld (fun hHeld2 => ?_)
  clear hK K hHeld2
  (try simp only [Act.put, sA, sB, sC])
  refine wpAnyH_take (i := 14) (oi := ?o5__14) (v := .bool true) ?h5__14 (by kernel_rfl) (by kernel_rfl) (by kernel_rfl) ?q5__14 ?y5__14 (by assumption) ?_
  case h5__14 => (first | (simp only [gA, gB, gC]; done) | (simp only [gA, gB, gC]; exact rfl))
  case q5__14 => exact fun _ _ _ h => h
  case y5__14 => (refine Or.inl ⟨rfl, ?_⟩; intro w hSw; (go_simp; (first | done | rfl)))
  (try simp only [Act.put, sA, sB, sC])
  refine wpAnyH_take (i := 15) (oi := ?o5__15) (v := .bool true) ?h5__15 (by kernel_rfl) (by kernel_rfl) (by kernel_rfl) ?q5__15 ?y5__15 (by assumption) ?_
  case h5__15 => (first | (simp only [gA, gB, gC]; done) | (simp only [gA, gB, gC]; exact rfl))
  case q5__15 => exact fun _ _ _ h => h
  case y5__15 => (refine Or.inl ⟨rfl, ?_⟩; intro w hSw; (first | rfl | (go_simp; (try with_reducible rfl))))
  (try simp only [Act.put, sA, sB, sC])
  refine wpAnyH_take (i := 16) (oi := ?o5__16) (v := .bool true) ?h5__16 (by kernel_rfl) (by kernel_rfl) (by kernel_rfl) ?q5__16 ?y5__16 (by assumption) ?_
  case h5__16 => (first | (simp only [gA, gB, gC]; done) | (simp only [gA, gB, gC]; exact rfl))
  case q5__16 => exact fun _ _ _ h => h
  case y5__16 => (refine Or.inl ⟨rfl, ?_⟩; intro w hSw; (first | rfl | (go_simp; (try with_reducible rfl))))
  (try simp only [Act.put, sA, sB, sC])
  refine wpAnyH_take (i := 17) (oi := ?o5__17) (v := .int .i64 0) ?h5__17 (by kernel_rfl) (by kernel_rfl) (by kernel_rfl) ?q5__17 ?y5__17 (by assumption) ?_
  case h5__17 => (first | (simp only [gA, gB, gC]; done) | (simp only [gA, gB, gC]; exact rfl))
  case q5__17 => exact fun _ _ _ h => h
  case y5__17 => (refine Or.inl ⟨rfl, ?_⟩; intro w hSw; (first | rfl | (go_simp; (try with_reducible rfl))))
  (try simp only [Act.put, sA, sB, sC])
  refine wpAnyH_take (i := 18) (oi := ?o5__18) (v := .bool true) ?h5__18 (by kernel_rfl) (by kernel_rfl) (by kernel_rfl) ?q5__18 ?y5__18 (by assumption) ?_
  case h5__18 => (first | (simp only [gA, gB, gC]; done) | (simp only [gA, gB, gC]; exact rfl))
  case q5__18 => exact fun _ _ _ h => h
  case y5__18 => (refine Or.inl ⟨rfl, ?_⟩; intro w hSw; (go_simp; (try with_reducible rfl)))
  (try simp only [Act.put, sA, sB, sC])
  refine wpAnyH_take (i := 19) (oi := ?o5__19) (v := .bool true) ?h5__19 (by kernel_rfl) (by kernel_rfl) (by kernel_rfl) ?q5__19 ?y5__19 (by assumption) ?_
  case h5__19 => (first | (simp only [gA, gB, gC]; done) | (simp only [gA, gB, gC]; exact rfl))
  case q5__19 => exact fun _ _ _ h => h
  case y5__19 => (refine Or.inl ⟨rfl, ?_⟩; intro w hSw; (first | rfl | (go_simp; (try with_reducible rfl))))
  (try simp only [Act.put, sA, sB, sC])
  refine wpAnyH_take (i := 20) (oi := ?o5__20) (v := .bool true) ?h5__20 (by kernel_rfl) (by kernel_rfl) (by kernel_rfl) ?q5__20 ?y5__20 (by assumption) ?_
  case h5__20 => (first | (simp only [gA, gB, gC]; done) | (simp only [gA, gB, gC]; exact rfl))
  case q5__20 => exact fun _ _ _ h => h
  case y5__20 => (refine Or.inl ⟨rfl, ?_⟩; intro w hSw; (first | rfl | (go_simp; (try with_reducible rfl))))
  (try simp only [Act.put, sA, sB, sC])
  refine wpAnyH_take (i := 21) (oi := ?o5__21) (v := .agg (pktC p)) ?h5__21 (by kernel_rfl) (by kernel_rfl) (by kernel_rfl) ?q5__21 ?y5__21 (by assumption) ?_
  case h5__21 => (first | (simp only [gA, gB, gC]; done) | (simp only [gA, gB, gC]; exact rfl))
  case q5__21 => exact fun _ _ _ h => h
  case y5__21 => (refine Or.inl ⟨rfl, ?_⟩; intro w hSw; exact exec_load_row 25 _ _ hSw.2.2.1 rfl rfl Tryd.underlying25 rfl (by kernel_rfl))
  (try simp only [Act.put, sA, sB, sC])
  refine wpAnyH_take (i := 22) (oi := ?o5__22) (v := .agg (pktC p)) ?h5__22 (by kernel_rfl) (by kernel_rfl) (by kernel_rfl) ?q5__22 ?y5__22 (by assumption) ?_
  case h5__22 => (first | (simp only [gA, gB, gC]; done) | (simp only [gA, gB, gC]; exact rfl))
  case q5__22 => exact fun _ _ _ h => h
  case y5__22 => (refine Or.inl ⟨rfl, ?_⟩; intro w hSw; exact exec_load_row 25 _ _ hSw.2.1 rfl rfl Tryd.underlying25 rfl (by kernel_rfl))
  (try simp only [Act.put, sA, sB, sC])
  refine wpAnyH_take (i := 23) (oi := ?o5__23) (v := .bool true) ?h5__23 (by kernel_rfl) (by kernel_rfl) (by kernel_rfl) ?q5__23 ?y5__23 (by assumption) ?_
  case h5__23 => (first | (simp only [gA, gB, gC]; done) | (simp only [gA, gB, gC]; exact rfl))
  case q5__23 => exact fun _ _ _ h => h
  case y5__23 => (refine Or.inl ⟨rfl, ?_⟩; intro w hSw; (first | (go_simp; done) | (simp only [pktC]; go_simp; done) | (simp only [pktC]; go_simp; simp)))
  (try simp only [Act.put, sA, sB, sC])
  refine wpAnyH_take (i := 24) (oi := ?o5__24) (v := .bool true) ?h5__24 (by kernel_rfl) (by kernel_rfl) (by kernel_rfl) ?q5__24 ?y5__24 (by assumption) ?_
  case h5__24 => (first | (simp only [gA, gB, gC]; done) | (simp only [gA, gB, gC]; exact rfl))
  case q5__24 => exact fun _ _ _ h => h
  case y5__24 => (refine Or.inl ⟨rfl, ?_⟩; intro w hSw; (first | rfl | (go_simp; (try with_reducible rfl))))
  (try simp only [Act.put, sA, sB, sC])
  refine wpAnyH_take (i := 25) (oi := ?o5__25) (v := .bool true) ?h5__25 (by kernel_rfl) (by kernel_rfl) (by kernel_rfl) ?q5__25 ?y5__25 (by assumption) ?_
  case h5__25 => (first | (simp only [gA, gB, gC]; done) | (simp only [gA, gB, gC]; exact rfl))
  case q5__25 => exact fun _ _ _ h => h
  case y5__25 => (refine Or.inl ⟨rfl, ?_⟩; intro w hSw; (first | rfl | (go_simp; (try with_reducible rfl))))
  (try simp only [Act.put, sA, sB, sC])
  refine wpAnyH_done (by kernel_rfl) ?_ _
  have HSd5 := Lib.hid hHeld.1
  have HBPd5 := Lib.hid (hHeld.2.1)
  have HBn5d5 := Lib.hid (hHeld.2.2.1)
  have HFbv1d5 := Lib.hid (hHeld.2.2.2)
  clear hHeld HRK HRD HS6 HBP6 HBn56 HFbv1_6
  (try go_wp2_with fail)
  go_ret
  exact ⟨rfl, HSd5.out⟩
set_option maxHeartbeats 4000000 in
theorem putsNot (p : PktV) (w : World) (hn : Nm w) (h0 : mayB p = true) (h1 : p.has = false) : Calls Tryd.prog 3 #[.agg (pktC p)] w fun e w' => e = .returned (.bool true) ∧ Since w w' := by
  have HNM := Lib.hid hn; clear hn
  have H0 := Lib.hid h0; clear h0
  have H1 := Lib.hid h1; clear h1
  go_enter Tryd.func3, Tryd.ntmps3
  go_upto_region 1 with fail
  obtain ⟨w1, hw1⟩ : ∃ w1, w1 = (w.alloc (.cells (pktC p) 25)) := ⟨_, rfl⟩
  rw [← hw1]
  have HBP1 := Lib.hid (show Blk w1 (w.heap.size) 25 (pktC p) by rw [hw1]; exact Blk.at_ (by (try simp only [size_alloc])) _ _)
  have HS1 := Lib.hid (show Since w w1 by rw [hw1]; exact Since.alloc (Since.refl w) _)
  have hNE : w.heap.size ≤ w.heap.size := by omega
  have HNE := Lib.hid hNE
  clear hNE hw1
  have HNE3 := Lib.hid (show w.heap.size ≤ w.heap.size from HNE.out)
  clear HNE
  refine wp_region_lit ?_
  refine wpList_q (by rfl) (.agg (pktC p)) ?he ?_
  case he => exact exec_load_row 25 _ _ HBP1.out rfl rfl Tryd.underlying25 rfl (by kernel_rfl)
  (try simp only [Act.put, sA, sB, sC])
  refine wpList_wp (by rfl) (fun K hK => ?_)
  (try go_simp)
  refine (putNot p H0.out H1.out _).mono ?_
  rintro e w2 ⟨A1, c1, rfl, hc1, hBV, hb⟩
  (try go_wp2_with fail)
  refine hK.out _ _ ?_
  clear hK K
  (try simp only [Act.put, sA, sB, sC])
  have HS2 := Lib.hid (Since.trans HS1.out hb)
  have HBP2 := Lib.hid (keep_blk hb HBP1.out)
  clear HS1 HBP1
  clear hb
  have HFbv2_1 := Lib.hid hBV; have HC1 := Lib.hid hc1
  clear hBV hc1
  refine wpList_q (by rfl) (.tuple #[.slice A1 8 c1, .bool true]) ?he ?_
  case he => (first | rfl | (go_simp; (try with_reducible rfl)))
  (try simp only [Act.put, sA, sB, sC])
  refine wpList_q (by rfl) (.slice A1 8 c1) ?he ?_
  case he => (first | rfl | (go_simp; (try with_reducible rfl)))
  (try simp only [Act.put, sA, sB, sC])
  refine wpList_q (by rfl) (.bool true) ?he ?_
  case he => (first | rfl | (go_simp; (try with_reducible rfl)))
  (try simp only [Act.put, sA, sB, sC])
  refine wpList_q (by rfl) (.slice A1 8 c1) ?he ?_
  case he => (first | rfl | (go_simp; (try with_reducible rfl)))
  (try simp only [Act.put, sA, sB, sC])
  refine wpList_q (by rfl) (.bool true) ?he ?_
  case he => (first | rfl | (go_simp; (try with_reducible rfl)))
  (try simp only [Act.put, sA, sB, sC])
  refine wpList_nil ?_
  go_upto_region 2 with fail
  refine wp_region_lit ?_
  refine wpList_q (by rfl) (.agg (pktC p)) ?he ?_
  case he => exact exec_load_row 25 _ _ HBP2.out rfl rfl Tryd.underlying25 rfl (by kernel_rfl)
  (try simp only [Act.put, sA, sB, sC])
  refine wpList_wp (by rfl) (fun K hK => ?_)
  (try go_simp)
  refine (mayPV p true _ H0.out).mono ?_
  rintro e w3 ⟨rfl, hb⟩
  (try go_wp2_with fail)
  refine hK.out _ _ ?_
  clear hK K
  (try simp only [Act.put, sA, sB, sC])
  have HS3 := Lib.hid (Since.trans HS2.out hb)
  have HBP3 := Lib.hid (keep_blk hb HBP2.out)
  have HFbv13 := Lib.hid (keep_bv hb HFbv2_1.out)
  clear HS2 HBP2 HFbv2_1
  clear hb
  refine wpList_q (by rfl) (.bool false) ?he ?_
  case he => (go_simp; (try with_reducible rfl))
  (try simp only [Act.put, sA, sB, sC])
  refine wpList_nil ?_
  go_upto_region 4 with fail
  refine wp_region_lit ?_
  refine wpList_q (by rfl) (.slice A1 8 c1) ?he ?_
  case he => (first | rfl | (go_simp; (try with_reducible rfl)))
  (try simp only [Act.put, sA, sB, sC])
  refine wpList_wp (by rfl) (fun K hK => ?_)
  (try go_simp)
  refine (getP p H0.out A1 8 c1 _ HFbv13.out HC1.out).mono ?_
  rintro e w4 ⟨rfl, hb⟩
  (try go_wp2_with fail)
  refine hK.out _ _ ?_
  clear hK K
  (try simp only [Act.put, sA, sB, sC])
  have HS4 := Lib.hid (Since.trans HS3.out hb)
  have HBP4 := Lib.hid (keep_blk hb HBP3.out)
  have HFbv14 := Lib.hid (keep_bv hb HFbv13.out)
  clear HS3 HBP3 HFbv13
  clear hb
  refine wpList_q (by rfl) (.tuple #[.agg (pktC p), .int .i64 0]) ?he ?_
  case he => (first | rfl | (go_simp; (try with_reducible rfl)))
  (try simp only [Act.put, sA, sB, sC])
  refine wpList_q (by rfl) (.agg (pktC p)) ?he ?_
  case he => (first | rfl | (go_simp; (try with_reducible rfl)))
  (try simp only [Act.put, sA, sB, sC])
  refine wpList_q (by rfl) (.int .i64 0) ?he ?_
  case he => (first | rfl | (go_simp; (try with_reducible rfl)))
  (try simp only [Act.put, sA, sB, sC])
  refine wpList_wp (by rfl) (fun K hK => ?_)
  refine wp_new (fun b => .pointer (some ⟨b, 0, none⟩)) 25 #[.int .i64 0, .int .i64 0, .int .i64 0, .int .i64 0, .bool false, .int .i64 0, .int .i64 0, .int .i64 0, .int .i64 0] (by rintro b rfl; first | rfl | kernel_rfl) ?_
  intro bn5 w5 hge hB hb
  refine hK.out _ _ ?_
  clear hK K
  (try simp only [Act.put, sA, sB, sC])
  have HNn5P := Lib.hid (show bn5 ≠ w.heap.size by have := Blk.lt HBP4.out; omega)
  have HGn5 := Lib.hid (show w.heap.size ≤ bn5 by have := Since.size HS4.out; omega)
  have HFAn5_bv1 := Lib.hid (bv_far HFbv14.out hge)
  have HS5 := Lib.hid (Since.trans HS4.out hb)
  have HBP5 := Lib.hid (keep_blk hb HBP4.out)
  have HFbv15 := Lib.hid (keep_bv hb HFbv14.out)
  clear HS4 HBP4 HFbv14
  clear hb hge
  have HBn55 := Lib.hid hB
  clear hB
  refine wpList_wp (by rfl) (fun K hK => ?_)
  refine wp_st_row 25 _ _ rfl (pktC p) rfl rfl (HasRow.of HBn55.out rfl) rfl (by simp [pktC, msgC, Value.oneCell']) (by kernel_rfl) ?_
  intro w6 hw
  refine hK.out _ _ ?_
  clear hK K
  (try simp only [Act.put, sA, sB, sC])
  have HS6 := Lib.hid (show Since w w6 by rw [hw]; exact Since.setRow HS5.out HGn5.out _)
  have HBP6 := Lib.hid (show Blk w6 w.heap.size 25 (pktC p) by rw [hw]; exact Blk.row_far HBP5.out (Ne.symm HNn5P.out) _)
  have HBn56 := Lib.hid (show Blk w6 bn5 25 (pktC p) by rw [hw]; exact Blk.row HBn55.out _)
  have HFbv1_6 := Lib.hid (show BV w6 A1 8 (bytesOf p) by rw [hw]; exact bv_row_far HFbv15.out HFAn5_bv1.out _)
  clear hw HS5 HBP5 HBn55 HFbv15
  refine wpList_q (by rfl) (.int .i64 0) ?he ?_
  case he => (first | rfl | (go_simp; (try with_reducible rfl)))
  (try simp only [Act.put, sA, sB, sC])
  refine wpList_nil ?_
  go_upto_region 5 with fail
  have hrK : ∀ W W' : World, Since W W' → (Since w W ∧ Blk W w.heap.size 25 (pktC p) ∧ Blk W bn5 25 (pktC p) ∧ BV W A1 8 (bytesOf p)) → (Since w W' ∧ Blk W' w.heap.size 25 (pktC p) ∧ Blk W' bn5 25 (pktC p) ∧ BV W' A1 8 (bytesOf p)) := fun W W' k ⟨h, h0, h1, h2⟩ => ⟨h.trans k, keep_blk k h0, keep_blk k h1, keep_bv k h2⟩
  have hrS : (fun W : World => Since w W ∧ Blk W w.heap.size 25 (pktC p) ∧ Blk W bn5 25 (pktC p) ∧ BV W A1 8 (bytesOf p)) w6 := ⟨HS6.out, HBP6.out, HBn56.out, HFbv1_6.out⟩
  have HRK := Lib.hid hrK
  have HRD := Lib.hid (show (fun W : World => Since w W ∧ Blk W w.heap.size 25 (pktC p) ∧ Blk W bn5 25 (pktC p) ∧ BV W A1 8 (bytesOf p)) (World.drew w6) from ⟨Since.drew hrS.1, hrS.2⟩)
  clear hrK hrS
  refine wp_region_held_drew (S := fun W : World => Since w W ∧ Blk W w.heap.size 25 (pktC p) ∧ Blk W bn5 25 (pktC p) ∧ BV W A1 8 (bytesOf p)) (by kernel_rfl) HRD.out (fun hHeld => ?_)
  refine wpAnyH_ready (rs := [0]) (by kernel_rfl) (by simp) ?_
  refine AllReadyH.cons (o := ?o5__0) ?h5__0 (fun K hK => ?_) AllReadyH.nil
  case h5__0 => (first | (simp only [gA, gB, gC]; done) | (simp only [gA, gB, gC]; exact rfl))
  (try go_simp)
  refine (ans _ (Nm.keep hHeld.1 HNM.out)).mono ?_
  rintro e w7 ⟨rfl, hb⟩
  (try go_wp2_with fail)
  refine hK.out _ _ (by (apply HRK.out; exact hb; exact hHeld)) (fun hHeld2 => ?_)
  clear hK K hHeld hb
  have hHeld := hHeld2
  clear hHeld2
  (try simp only [Act.put, sA, sB, sC])
  refine wpAnyH_take (i := 1) (oi := ?o5__1) (v := .bool true) ?h5__1 (by kernel_rfl) (by kernel_rfl) (by kernel_rfl) ?q5__1 ?y5__1 (by assumption) ?_
  case h5__1 => (first | (simp only [gA, gB, gC]; done) | (simp only [gA, gB, gC]; exact rfl))
  case q5__1 => exact fun _ _ _ h => h
  case y5__1 => (refine Or.inl ⟨rfl, ?_⟩; intro w hSw; (first | rfl | (go_simp; (try with_reducible rfl))))
  (try simp only [Act.put, sA, sB, sC])
  refine wpAnyH_take (i := 2) (oi := ?o5__2) (v := .bool true) ?h5__2 (by kernel_rfl) (by kernel_rfl) (by kernel_rfl) ?q5__2 ?y5__2 (by assumption) ?_
  case h5__2 => (first | (simp only [gA, gB, gC]; done) | (simp only [gA, gB, gC]; exact rfl))
  case q5__2 => exact fun _ _ _ h => h
  case y5__2 => (refine Or.inl ⟨rfl, ?_⟩; intro w hSw; (first | rfl | (go_simp; (try with_reducible rfl))))
  (try simp only [Act.put, sA, sB, sC])
  refine wpAnyH_take (i := 3) (oi := ?o5__3) (v := .bool true) ?h5__3 (by kernel_rfl) (by kernel_rfl) (by kernel_rfl) ?q5__3 ?y5__3 (by assumption) ?_
  case h5__3 => (first | (simp only [gA, gB, gC]; done) | (simp only [gA, gB, gC]; exact rfl))
  case q5__3 => exact fun _ _ _ h => h
  case y5__3 => (refine Or.inl ⟨rfl, ?_⟩; intro w hSw; (first | rfl | (go_simp; (try with_reducible rfl))))
  (try simp only [Act.put, sA, sB, sC])
  refine wpAnyH_take (i := 4) (oi := ?o5__4) (v := .bool true) ?h5__4 (by kernel_rfl) (by kernel_rfl) (by kernel_rfl) ?q5__4 ?y5__4 (by assumption) ?_
  case h5__4 => (first | (simp only [gA, gB, gC]; done) | (simp only [gA, gB, gC]; exact rfl))
  case q5__4 => exact fun _ _ _ h => h
  case y5__4 => (refine Or.inl ⟨rfl, ?_⟩; intro w hSw; (first | rfl | (go_simp; (try with_reducible rfl))))
  (try simp only [Act.put, sA, sB, sC])
  refine wpAnyH_take (i := 5) (oi := ?o5__5) (v := .agg (pktC p)) ?h5__5 (by kernel_rfl) (by kernel_rfl) (by kernel_rfl) ?q5__5 ?y5__5 (by assumption) ?_
  case h5__5 => (first | (simp only [gA, gB, gC]; done) | (simp only [gA, gB, gC]; exact rfl))
  case q5__5 => exact fun _ _ _ h => h
  case y5__5 => (refine Or.inl ⟨rfl, ?_⟩; intro w hSw; exact exec_load_row 25 _ _ hSw.2.1 rfl rfl Tryd.underlying25 rfl (by kernel_rfl))
  (try simp only [Act.put, sA, sB, sC])
  refine wpAnyH_ready (rs := [6]) (by kernel_rfl) (by simp) ?_
  refine AllReadyH.cons (o := ?o5__6) ?h5__6 (fun K hK => ?_) AllReadyH.nil
  case h5__6 => (first | (simp only [gA, gB, gC]; done) | (simp only [gA, gB, gC]; exact rfl))
  (try go_simp)
  refine (goodV p true _ H0.out).mono ?_
  rintro e w8 ⟨rfl, hb⟩
  (try go_wp2_with fail)
  refine hK.out _ _ (by (apply HRK.out; exact hb; exact hHeld)) (fun hHeld2 => ?_)
  clear hK K hHeld hb
  have hHeld := hHeld2
  clear hHeld2
  (try simp only [Act.put, sA, sB, sC])
  refine wpAnyH_take (i := 7) (oi := ?o5__7) (v := .bool true) ?h5__7 (by kernel_rfl) (by kernel_rfl) (by kernel_rfl) ?q5__7 ?y5__7 (by assumption) ?_
  case h5__7 => (first | (simp only [gA, gB, gC]; done) | (simp only [gA, gB, gC]; exact rfl))
  case q5__7 => exact fun _ _ _ h => h
  case y5__7 => (refine Or.inl ⟨rfl, ?_⟩; intro w hSw; (first | rfl | (go_simp; (try with_reducible rfl))))
  (try simp only [Act.put, sA, sB, sC])
  refine wpAnyH_take (i := 8) (oi := ?o5__8) (v := .bool true) ?h5__8 (by kernel_rfl) (by kernel_rfl) (by kernel_rfl) ?q5__8 ?y5__8 (by assumption) ?_
  case h5__8 => (first | (simp only [gA, gB, gC]; done) | (simp only [gA, gB, gC]; exact rfl))
  case q5__8 => exact fun _ _ _ h => h
  case y5__8 => (refine Or.inl ⟨rfl, ?_⟩; intro w hSw; (first | rfl | (go_simp; (try with_reducible rfl))))
  (try simp only [Act.put, sA, sB, sC])
  refine wpAnyH_take (i := 9) (oi := ?o5__9) (v := .slice A1 8 c1) ?h5__9 (by kernel_rfl) (by kernel_rfl) (by kernel_rfl) ?q5__9 ?y5__9 (by assumption) ?_
  case h5__9 => (first | (simp only [gA, gB, gC]; done) | (simp only [gA, gB, gC]; exact rfl))
  case q5__9 => exact fun _ _ _ h => h
  case y5__9 => (refine Or.inl ⟨rfl, ?_⟩; intro w hSw; (first | rfl | (go_simp; (try with_reducible rfl))))
  (try simp only [Act.put, sA, sB, sC])
  refine wpAnyH_take (i := 10) (oi := ?o5__10) (v := .string (strOfNums (bytesOf p))) ?h5__10 (by kernel_rfl) (by kernel_rfl) (by kernel_rfl) ?q5__10 ?y5__10 (by assumption) ?_
  case h5__10 => (first | (simp only [gA, gB, gC]; done) | (simp only [gA, gB, gC]; exact rfl))
  case q5__10 => exact fun _ _ _ h => h
  case y5__10 => (refine Or.inl ⟨rfl, ?_⟩; intro w hSw; exact exec_str 26 5 9 _ (hSw.2.2.2) rfl rfl Tryd.underlying26 Tryd.underlying5 Tryd.underlying9)
  (try simp only [Act.put, sA, sB, sC])
  refine wpAnyH_take (i := 11) (oi := ?o5__11) (v := .agg (pktC p)) ?h5__11 (by kernel_rfl) (by kernel_rfl) (by kernel_rfl) ?q5__11 ?y5__11 (by assumption) ?_
  case h5__11 => (first | (simp only [gA, gB, gC]; done) | (simp only [gA, gB, gC]; exact rfl))
  case q5__11 => exact fun _ _ _ h => h
  case y5__11 => (refine Or.inl ⟨rfl, ?_⟩; intro w hSw; exact exec_load_row 25 _ _ hSw.2.1 rfl rfl Tryd.underlying25 rfl (by kernel_rfl))
  (try simp only [Act.put, sA, sB, sC])
  refine wpAnyH_ready (rs := [12]) (by kernel_rfl) (by simp) ?_
  refine AllReadyH.cons (o := ?o5__12) ?h5__12 (fun K hK => ?_) AllReadyH.nil
  case h5__12 => (first | (simp only [gA, gB, gC]; done) | (simp only [gA, gB, gC]; exact rfl))
  (try go_simp)
  refine (bytesNot p H0.out H1.out _).mono ?_
  rintro e w9 ⟨A2, c2, rfl, hBV, hb⟩
  (try go_wp2_with fail)
  refine hK.out _ _ (by (apply HRK.out; exact hb; exact hHeld)) (fun hHeld2 => ?_)
  have HBV2 := Lib.hid hBV
  clear hBV
  clear hK K hHeld hb
  have hHeld := hHeld2
  clear hHeld2
  (try simp only [Act.put, sA, sB, sC])
  refine wpAnyH_ready (rs := [13]) (by kernel_rfl) (by simp) ?_
  refine AllReadyH.cons (o := ?o5__13) ?h5__13 (fun K hK => ?_) AllReadyH.nil
  case h5__13 => (first | (simp only [gA, gB, gC]; done) | (simp only [gA, gB, gC]; exact rfl))
  rw [if_pos (by rfl)]
  refine wp_q (.string (strOfNums (bytesOf p))) ?e5__13 ?_
  case e5__13 => exact exec_str 26 5 9 _ (HBV2.out) rfl rfl Tryd.underlying26 Tryd.underlying5 Tryd.underlying9
  refine hK.out _ _ hHeld (fun hHeld2 => ?_)
  clear hK K hHeld2
  (try simp only [Act.put, sA, sB, sC])
  refine wpAnyH_take (i := 14) (oi := ?o5__14) (v := .bool true) ?h5__14 (by kernel_rfl) (by kernel_rfl) (by kernel_rfl) ?q5__14 ?y5__14 (by assumption) ?_
  case h5__14 => (first | (simp only [gA, gB, gC]; done) | (simp only [gA, gB, gC]; exact rfl))
  case q5__14 => exact fun _ _ _ h => h
  case y5__14 => (refine Or.inl ⟨rfl, ?_⟩; intro w hSw; (go_simp; (first | done | rfl)))
  (try simp only [Act.put, sA, sB, sC])
  refine wpAnyH_take (i := 15) (oi := ?o5__15) (v := .bool true) ?h5__15 (by kernel_rfl) (by kernel_rfl) (by kernel_rfl) ?q5__15 ?y5__15 (by assumption) ?_
  case h5__15 => (first | (simp only [gA, gB, gC]; done) | (simp only [gA, gB, gC]; exact rfl))
  case q5__15 => exact fun _ _ _ h => h
  case y5__15 => (refine Or.inl ⟨rfl, ?_⟩; intro w hSw; (first | rfl | (go_simp; (try with_reducible rfl))))
  (try simp only [Act.put, sA, sB, sC])
  refine wpAnyH_take (i := 16) (oi := ?o5__16) (v := .bool true) ?h5__16 (by kernel_rfl) (by kernel_rfl) (by kernel_rfl) ?q5__16 ?y5__16 (by assumption) ?_
  case h5__16 => (first | (simp only [gA, gB, gC]; done) | (simp only [gA, gB, gC]; exact rfl))
  case q5__16 => exact fun _ _ _ h => h
  case y5__16 => (refine Or.inl ⟨rfl, ?_⟩; intro w hSw; (first | rfl | (go_simp; (try with_reducible rfl))))
  (try simp only [Act.put, sA, sB, sC])
  refine wpAnyH_take (i := 17) (oi := ?o5__17) (v := .int .i64 0) ?h5__17 (by kernel_rfl) (by kernel_rfl) (by kernel_rfl) ?q5__17 ?y5__17 (by assumption) ?_
  case h5__17 => (first | (simp only [gA, gB, gC]; done) | (simp only [gA, gB, gC]; exact rfl))
  case q5__17 => exact fun _ _ _ h => h
  case y5__17 => (refine Or.inl ⟨rfl, ?_⟩; intro w hSw; (first | rfl | (go_simp; (try with_reducible rfl))))
  (try simp only [Act.put, sA, sB, sC])
  refine wpAnyH_take (i := 18) (oi := ?o5__18) (v := .bool true) ?h5__18 (by kernel_rfl) (by kernel_rfl) (by kernel_rfl) ?q5__18 ?y5__18 (by assumption) ?_
  case h5__18 => (first | (simp only [gA, gB, gC]; done) | (simp only [gA, gB, gC]; exact rfl))
  case q5__18 => exact fun _ _ _ h => h
  case y5__18 => (refine Or.inl ⟨rfl, ?_⟩; intro w hSw; (go_simp; (try with_reducible rfl)))
  (try simp only [Act.put, sA, sB, sC])
  refine wpAnyH_take (i := 19) (oi := ?o5__19) (v := .bool true) ?h5__19 (by kernel_rfl) (by kernel_rfl) (by kernel_rfl) ?q5__19 ?y5__19 (by assumption) ?_
  case h5__19 => (first | (simp only [gA, gB, gC]; done) | (simp only [gA, gB, gC]; exact rfl))
  case q5__19 => exact fun _ _ _ h => h
  case y5__19 => (refine Or.inl ⟨rfl, ?_⟩; intro w hSw; (first | rfl | (go_simp; (try with_reducible rfl))))
  (try simp only [Act.put, sA, sB, sC])
  refine wpAnyH_take (i := 20) (oi := ?o5__20) (v := .bool true) ?h5__20 (by kernel_rfl) (by kernel_rfl) (by kernel_rfl) ?q5__20 ?y5__20 (by assumption) ?_
  case h5__20 => (first | (simp only [gA, gB, gC]; done) | (simp only [gA, gB, gC]; exact rfl))
  case q5__20 => exact fun _ _ _ h => h
  case y5__20 => (refine Or.inl ⟨rfl, ?_⟩; intro w hSw; (first | rfl | (go_simp; (try with_reducible rfl))))
  (try simp only [Act.put, sA, sB, sC])
  refine wpAnyH_take (i := 21) (oi := ?o5__21) (v := .agg (pktC p)) ?h5__21 (by kernel_rfl) (by kernel_rfl) (by kernel_rfl) ?q5__21 ?y5__21 (by assumption) ?_
  case h5__21 => (first | (simp only [gA, gB, gC]; done) | (simp only [gA, gB, gC]; exact rfl))
  case q5__21 => exact fun _ _ _ h => h
  case y5__21 => (refine Or.inl ⟨rfl, ?_⟩; intro w hSw; exact exec_load_row 25 _ _ hSw.2.2.1 rfl rfl Tryd.underlying25 rfl (by kernel_rfl))
  (try simp only [Act.put, sA, sB, sC])
  refine wpAnyH_take (i := 22) (oi := ?o5__22) (v := .agg (pktC p)) ?h5__22 (by kernel_rfl) (by kernel_rfl) (by kernel_rfl) ?q5__22 ?y5__22 (by assumption) ?_
  case h5__22 => (first | (simp only [gA, gB, gC]; done) | (simp only [gA, gB, gC]; exact rfl))
  case q5__22 => exact fun _ _ _ h => h
  case y5__22 => (refine Or.inl ⟨rfl, ?_⟩; intro w hSw; exact exec_load_row 25 _ _ hSw.2.1 rfl rfl Tryd.underlying25 rfl (by kernel_rfl))
  (try simp only [Act.put, sA, sB, sC])
  refine wpAnyH_take (i := 23) (oi := ?o5__23) (v := .bool true) ?h5__23 (by kernel_rfl) (by kernel_rfl) (by kernel_rfl) ?q5__23 ?y5__23 (by assumption) ?_
  case h5__23 => (first | (simp only [gA, gB, gC]; done) | (simp only [gA, gB, gC]; exact rfl))
  case q5__23 => exact fun _ _ _ h => h
  case y5__23 => (refine Or.inl ⟨rfl, ?_⟩; intro w hSw; (first | (go_simp; done) | (simp only [pktC]; go_simp; done) | (simp only [pktC]; go_simp; simp)))
  (try simp only [Act.put, sA, sB, sC])
  refine wpAnyH_take (i := 24) (oi := ?o5__24) (v := .bool true) ?h5__24 (by kernel_rfl) (by kernel_rfl) (by kernel_rfl) ?q5__24 ?y5__24 (by assumption) ?_
  case h5__24 => (first | (simp only [gA, gB, gC]; done) | (simp only [gA, gB, gC]; exact rfl))
  case q5__24 => exact fun _ _ _ h => h
  case y5__24 => (refine Or.inl ⟨rfl, ?_⟩; intro w hSw; (first | rfl | (go_simp; (try with_reducible rfl))))
  (try simp only [Act.put, sA, sB, sC])
  refine wpAnyH_take (i := 25) (oi := ?o5__25) (v := .bool true) ?h5__25 (by kernel_rfl) (by kernel_rfl) (by kernel_rfl) ?q5__25 ?y5__25 (by assumption) ?_
  case h5__25 => (first | (simp only [gA, gB, gC]; done) | (simp only [gA, gB, gC]; exact rfl))
  case q5__25 => exact fun _ _ _ h => h
  case y5__25 => (refine Or.inl ⟨rfl, ?_⟩; intro w hSw; (first | rfl | (go_simp; (try with_reducible rfl))))
  (try simp only [Act.put, sA, sB, sC])
  refine wpAnyH_done (by kernel_rfl) ?_ _
  have HSd5 := Lib.hid hHeld.1
  have HBPd5 := Lib.hid (hHeld.2.1)
  have HBn5d5 := Lib.hid (hHeld.2.2.1)
  have HFbv1d5 := Lib.hid (hHeld.2.2.2)
  clear hHeld HRK HRD HS6 HBP6 HBn56 HFbv1_6
  (try go_wp2_with fail)
  go_ret
  exact ⟨rfl, HSd5.out⟩
theorem puts (p : PktV) (w : World) (h : Nm w) : Calls Tryd.prog 3 #[.agg (pktC p)] w fun e w' => e = .returned (.bool true) ∧ Since w w' := by
  cases h0 : mayB p
  · exact putsNo p w h h0
  · cases h1 : p.has
    · exact putsNot p w h h0 h1
    · exact putsHas p w h h0 h1
set_option maxHeartbeats 4000000 in
theorem backLong (zs : List Int) (a : Option Addr) (n cap : Nat) (w : World) (hn : Nm w) (hb : BV w a n zs) (hc : n ≤ cap) (h5 : 500 < n) : Calls Tryd.prog 5 #[.slice a n cap] w fun e w' => e = .returned (.bool true) ∧ Since w w' := by
  have HNM := Lib.hid hn; clear hn
  have HB := Lib.hid hb; clear hb
  have HC := Lib.hid hc; clear hc
  have H5 := Lib.hid h5; clear h5
  go_enter Tryd.func5, Tryd.ntmps5
  go_upto_region 1 with fail
  have HS1 := Lib.hid (Since.refl w)
  refine wp_region_lit ?_
  refine wpList_q (by rfl) (.slice a n cap) ?he ?_
  case he => (first | rfl | (go_simp; (try with_reducible rfl)))
  (try simp only [Act.put, sA, sB, sC])
  refine wpList_q (by rfl) (.int .i64 n) ?he ?_
  case he => (go_simp; (try with_reducible rfl))
  (try simp only [Act.put, sA, sB, sC])
  refine wpList_q (by rfl) (.bool true) ?he ?_
  case he => (go_simp; (first | done | (have q := H5.out; omega)))
  (try simp only [Act.put, sA, sB, sC])
  refine wpList_nil ?_
  go_upto_region 2 with fail
  refine wp_region_lit ?_
  refine wpList_wp (by rfl) (fun K hK => ?_)
  (try go_simp)
  refine (ans _ (Nm.keep HS1.out HNM.out)).mono ?_
  rintro e w2 ⟨rfl, hb⟩
  (try go_wp2_with fail)
  refine hK.out _ _ ?_
  clear hK K
  (try simp only [Act.put, sA, sB, sC])
  have HS2 := Lib.hid (Since.trans HS1.out hb)
  clear HS1 
  clear hb
  refine wpList_q (by rfl) (.bool true) ?he ?_
  case he => (first | rfl | (go_simp; (try with_reducible rfl)))
  (try simp only [Act.put, sA, sB, sC])
  refine wpList_nil ?_
  (try go_wp2_with fail)
  go_ret
  exact ⟨rfl, HS2.out⟩
set_option maxHeartbeats 4000000 in
theorem backBad (zs : List Int) (e0 : Int) (a : Option Addr) (n cap : Nat) (w : World) (hn : Nm w) (hb : BV w a n zs) (hc : n ≤ cap) (h5 : ¬ 500 < n) (hg : getV zs = (zeroP, e0)) (he : e0 ≠ 0) : Calls Tryd.prog 5 #[.slice a n cap] w fun e w' => e = .returned (.bool true) ∧ Since w w' := by
  have HNM := Lib.hid hn; clear hn
  have HB := Lib.hid hb; clear hb
  have HC := Lib.hid hc; clear hc
  have H5 := Lib.hid h5; clear h5
  have HG := Lib.hid hg; clear hg
  have HE := Lib.hid he; clear he
  go_enter Tryd.func5, Tryd.ntmps5
  go_upto_region 1 with fail
  have HS1 := Lib.hid (Since.refl w)
  refine wp_region_lit ?_
  refine wpList_q (by rfl) (.slice a n cap) ?he ?_
  case he => (first | rfl | (go_simp; (try with_reducible rfl)))
  (try simp only [Act.put, sA, sB, sC])
  refine wpList_q (by rfl) (.int .i64 n) ?he ?_
  case he => (go_simp; (try with_reducible rfl))
  (try simp only [Act.put, sA, sB, sC])
  refine wpList_q (by rfl) (.bool false) ?he ?_
  case he => (go_simp; (first | done | (have q := H5.out; omega)))
  (try simp only [Act.put, sA, sB, sC])
  refine wpList_nil ?_
  go_upto_region 3 with fail
  refine wp_region_lit ?_
  refine wpList_q (by rfl) (.slice a n cap) ?he ?_
  case he => (first | rfl | (go_simp; (try with_reducible rfl)))
  (try simp only [Act.put, sA, sB, sC])
  refine wpList_wp (by rfl) (fun K hK => ?_)
  (try go_simp)
  refine (getE e0 a n cap zs _ (keep_bv HS1.out HB.out) HC.out HG.out).mono ?_
  rintro e w2 ⟨rfl, hb⟩
  (try go_wp2_with fail)
  refine hK.out _ _ ?_
  clear hK K
  (try simp only [Act.put, sA, sB, sC])
  have HS2 := Lib.hid (Since.trans HS1.out hb)
  clear HS1 
  clear hb
  refine wpList_q (by rfl) (.tuple #[.agg #[.int .i64 0, .int .i64 0, .int .i64 0, .int .i64 0, .bool false, .int .i64 0, .int .i64 0, .int .i64 0, .int .i64 0], .int .i64 e0]) ?he ?_
  case he => (first | rfl | (go_simp; (try with_reducible rfl)))
  (try simp only [Act.put, sA, sB, sC])
  refine wpList_q (by rfl) (.agg #[.int .i64 0, .int .i64 0, .int .i64 0, .int .i64 0, .bool false, .int .i64 0, .int .i64 0, .int .i64 0, .int .i64 0]) ?he ?_
  case he => (first | rfl | (go_simp; (try with_reducible rfl)))
  (try simp only [Act.put, sA, sB, sC])
  refine wpList_q (by rfl) (.int .i64 e0) ?he ?_
  case he => (first | rfl | (go_simp; (try with_reducible rfl)))
  (try simp only [Act.put, sA, sB, sC])
  refine wpList_wp (by rfl) (fun K hK => ?_)
  refine wp_new (fun b => .pointer (some ⟨b, 0, none⟩)) 25 #[.int .i64 0, .int .i64 0, .int .i64 0, .int .i64 0, .bool false, .int .i64 0, .int .i64 0, .int .i64 0, .int .i64 0] (by rintro b rfl; first | rfl | kernel_rfl) ?_
  intro bn3 w3 hge hB hb
  refine hK.out _ _ ?_
  clear hK K
  (try simp only [Act.put, sA, sB, sC])
  have HGn3 := Lib.hid (show w.heap.size ≤ bn3 by have := Since.size HS2.out; omega)
  have HS3 := Lib.hid (Since.trans HS2.out hb)
  clear HS2 
  clear hb hge
  have HBn33 := Lib.hid hB
  clear hB
  refine wpList_wp (by rfl) (fun K hK => ?_)
  refine wp_st_row 25 _ _ rfl #[.int .i64 0, .int .i64 0, .int .i64 0, .int .i64 0, .bool false, .int .i64 0, .int .i64 0, .int .i64 0, .int .i64 0] rfl rfl (HasRow.of HBn33.out rfl) rfl (by simp [pktC, msgC, Value.oneCell']) (by kernel_rfl) ?_
  intro w4 hw
  refine hK.out _ _ ?_
  clear hK K
  (try simp only [Act.put, sA, sB, sC])
  have HS4 := Lib.hid (show Since w w4 by rw [hw]; exact Since.setRow HS3.out HGn3.out _)
  have HBn34 := Lib.hid (show Blk w4 bn3 25 #[.int .i64 0, .int .i64 0, .int .i64 0, .int .i64 0, .bool false, .int .i64 0, .int .i64 0, .int .i64 0, .int .i64 0] by rw [hw]; exact Blk.row HBn33.out _)
  clear hw HS3 HBn33
  refine wpList_q (by rfl) (.int .i64 e0) ?he ?_
  case he => (first | rfl | (go_simp; (try with_reducible rfl)))
  (try simp only [Act.put, sA, sB, sC])
  refine wpList_nil ?_
  go_upto_region 4 with fail
  refine wp_region_lit ?_
  refine wpList_q (by rfl) (.int .i64 e0) ?he ?_
  case he => (first | rfl | (go_simp; (try with_reducible rfl)))
  (try simp only [Act.put, sA, sB, sC])
  refine wpList_q (by rfl) (.bool true) ?he ?_
  case he => (go_simp; (first | done | (have q := HE.out; omega)))
  (try simp only [Act.put, sA, sB, sC])
  refine wpList_nil ?_
  go_upto_region 5 with fail
  refine wp_region_lit ?_
  refine wpList_wp (by rfl) (fun K hK => ?_)
  (try go_simp)
  refine (ans _ (Nm.keep HS4.out HNM.out)).mono ?_
  rintro e w5 ⟨rfl, hb⟩
  (try go_wp2_with fail)
  refine hK.out _ _ ?_
  clear hK K
  (try simp only [Act.put, sA, sB, sC])
  have HS5 := Lib.hid (Since.trans HS4.out hb)
  have HBn35 := Lib.hid (keep_blk hb HBn34.out)
  clear HS4 HBn34
  clear hb
  refine wpList_q (by rfl) (.bool true) ?he ?_
  case he => (first | rfl | (go_simp; (try with_reducible rfl)))
  (try simp only [Act.put, sA, sB, sC])
  refine wpList_q (by rfl) (.agg #[.int .i64 0, .int .i64 0, .int .i64 0, .int .i64 0, .bool false, .int .i64 0, .int .i64 0, .int .i64 0, .int .i64 0]) ?he ?_
  case he => exact exec_load_row 25 _ _ HBn35.out rfl rfl Tryd.underlying25 rfl (by kernel_rfl)
  (try simp only [Act.put, sA, sB, sC])
  refine wpList_q (by rfl) (.agg #[.int .i64 0, .int .i64 0, .int .i64 0, .int .i64 0, .bool false, .int .i64 0, .int .i64 0, .int .i64 0, .int .i64 0]) ?he ?_
  case he => kernel_rfl
  (try simp only [Act.put, sA, sB, sC])
  refine wpList_q (by rfl) (.bool true) ?he ?_
  case he => (go_simp; (try with_reducible rfl))
  (try simp only [Act.put, sA, sB, sC])
  refine wpList_q (by rfl) (.bool true) ?he ?_
  case he => (first | rfl | (go_simp; (try with_reducible rfl)))
  (try simp only [Act.put, sA, sB, sC])
  refine wpList_q (by rfl) (.bool true) ?he ?_
  case he => (first | rfl | (go_simp; (try with_reducible rfl)))
  (try simp only [Act.put, sA, sB, sC])
  refine wpList_nil ?_
  (try go_wp2_with fail)
  go_ret
  exact ⟨rfl, HS5.out⟩
set_option maxHeartbeats 4000000 in
theorem backHas (p : PktV) (a : Option Addr) (n cap : Nat) (w : World) (hn : Nm w) (hb : BV w a n (bytesOf p)) (hc : n ≤ cap) (h5 : ¬ 500 < n) (h0 : mayB p = true) (h1 : p.has = true) : Calls Tryd.prog 5 #[.slice a n cap] w fun e w' => e = .returned (.bool true) ∧ Since w w' := by
  have HNM := Lib.hid hn; clear hn
  have HB := Lib.hid hb; clear hb
  have HC := Lib.hid hc; clear hc
  have H5 := Lib.hid h5; clear h5
  have H0 := Lib.hid h0; clear h0
  have H1 := Lib.hid h1; clear h1
  go_enter Tryd.func5, Tryd.ntmps5
  go_upto_region 1 with fail
  have HS1 := Lib.hid (Since.refl w)
  refine wp_region_lit ?_
  refine wpList_q (by rfl) (.slice a n cap) ?he ?_
  case he => (first | rfl | (go_simp; (try with_reducible rfl)))
  (try simp only [Act.put, sA, sB, sC])
  refine wpList_q (by rfl) (.int .i64 n) ?he ?_
  case he => (go_simp; (try with_reducible rfl))
  (try simp only [Act.put, sA, sB, sC])
  refine wpList_q (by rfl) (.bool false) ?he ?_
  case he => (go_simp; (first | done | (have q := H5.out; omega)))
  (try simp only [Act.put, sA, sB, sC])
  refine wpList_nil ?_
  go_upto_region 3 with fail
  refine wp_region_lit ?_
  refine wpList_q (by rfl) (.slice a n cap) ?he ?_
  case he => (first | rfl | (go_simp; (try with_reducible rfl)))
  (try simp only [Act.put, sA, sB, sC])
  refine wpList_wp (by rfl) (fun K hK => ?_)
  (try go_simp)
  refine (getP p H0.out a n cap _ (keep_bv HS1.out HB.out) HC.out).mono ?_
  rintro e w2 ⟨rfl, hb⟩
  (try go_wp2_with fail)
  refine hK.out _ _ ?_
  clear hK K
  (try simp only [Act.put, sA, sB, sC])
  have HS2 := Lib.hid (Since.trans HS1.out hb)
  clear HS1 
  clear hb
  refine wpList_q (by rfl) (.tuple #[.agg (pktC p), .int .i64 0]) ?he ?_
  case he => (first | rfl | (go_simp; (try with_reducible rfl)))
  (try simp only [Act.put, sA, sB, sC])
  refine wpList_q (by rfl) (.agg (pktC p)) ?he ?_
  case he => (first | rfl | (go_simp; (try with_reducible rfl)))
  (try simp only [Act.put, sA, sB, sC])
  refine wpList_q (by rfl) (.int .i64 0) ?he ?_
  case he => (first | rfl | (go_simp; (try with_reducible rfl)))
  (try simp only [Act.put, sA, sB, sC])
  refine wpList_wp (by rfl) (fun K hK => ?_)
  refine wp_new (fun b => .pointer (some ⟨b, 0, none⟩)) 25 #[.int .i64 0, .int .i64 0, .int .i64 0, .int .i64 0, .bool false, .int .i64 0, .int .i64 0, .int .i64 0, .int .i64 0] (by rintro b rfl; first | rfl | kernel_rfl) ?_
  intro bn3 w3 hge hB hb
  refine hK.out _ _ ?_
  clear hK K
  (try simp only [Act.put, sA, sB, sC])
  have HGn3 := Lib.hid (show w.heap.size ≤ bn3 by have := Since.size HS2.out; omega)
  have HS3 := Lib.hid (Since.trans HS2.out hb)
  clear HS2 
  clear hb hge
  have HBn33 := Lib.hid hB
  clear hB
  refine wpList_wp (by rfl) (fun K hK => ?_)
  refine wp_st_row 25 _ _ rfl (pktC p) rfl rfl (HasRow.of HBn33.out rfl) rfl (by simp [pktC, msgC, Value.oneCell']) (by kernel_rfl) ?_
  intro w4 hw
  refine hK.out _ _ ?_
  clear hK K
  (try simp only [Act.put, sA, sB, sC])
  have HS4 := Lib.hid (show Since w w4 by rw [hw]; exact Since.setRow HS3.out HGn3.out _)
  have HBn34 := Lib.hid (show Blk w4 bn3 25 (pktC p) by rw [hw]; exact Blk.row HBn33.out _)
  clear hw HS3 HBn33
  refine wpList_q (by rfl) (.int .i64 0) ?he ?_
  case he => (first | rfl | (go_simp; (try with_reducible rfl)))
  (try simp only [Act.put, sA, sB, sC])
  refine wpList_nil ?_
  go_upto_region 4 with fail
  refine wp_region_lit ?_
  refine wpList_q (by rfl) (.int .i64 0) ?he ?_
  case he => (first | rfl | (go_simp; (try with_reducible rfl)))
  (try simp only [Act.put, sA, sB, sC])
  refine wpList_q (by rfl) (.bool false) ?he ?_
  case he => (go_simp; (try with_reducible rfl))
  (try simp only [Act.put, sA, sB, sC])
  refine wpList_nil ?_
  go_upto_region 6 with fail
  refine wp_region_lit ?_
  refine wpList_q (by rfl) (.agg (pktC p)) ?he ?_
  case he => exact exec_load_row 25 _ _ HBn34.out rfl rfl Tryd.underlying25 rfl (by kernel_rfl)
  (try simp only [Act.put, sA, sB, sC])
  refine wpList_wp (by rfl) (fun K hK => ?_)
  (try go_simp)
  refine (putHas p H0.out H1.out _).mono ?_
  rintro e w5 ⟨A1, c1, rfl, hc1, hBV, hb⟩
  (try go_wp2_with fail)
  refine hK.out _ _ ?_
  clear hK K
  (try simp only [Act.put, sA, sB, sC])
  have HS5 := Lib.hid (Since.trans HS4.out hb)
  have HBn35 := Lib.hid (keep_blk hb HBn34.out)
  clear HS4 HBn34
  clear hb
  have HFbv5_1 := Lib.hid hBV; have HC1 := Lib.hid hc1
  clear hBV hc1
  refine wpList_q (by rfl) (.tuple #[.slice A1 21 c1, .bool true]) ?he ?_
  case he => (first | rfl | (go_simp; (try with_reducible rfl)))
  (try simp only [Act.put, sA, sB, sC])
  refine wpList_q (by rfl) (.slice A1 21 c1) ?he ?_
  case he => (first | rfl | (go_simp; (try with_reducible rfl)))
  (try simp only [Act.put, sA, sB, sC])
  refine wpList_q (by rfl) (.bool true) ?he ?_
  case he => (first | rfl | (go_simp; (try with_reducible rfl)))
  (try simp only [Act.put, sA, sB, sC])
  refine wpList_q (by rfl) (.slice A1 21 c1) ?he ?_
  case he => (first | rfl | (go_simp; (try with_reducible rfl)))
  (try simp only [Act.put, sA, sB, sC])
  refine wpList_q (by rfl) (.bool true) ?he ?_
  case he => (first | rfl | (go_simp; (try with_reducible rfl)))
  (try simp only [Act.put, sA, sB, sC])
  refine wpList_nil ?_
  go_upto_region 7 with fail
  refine wp_region_lit ?_
  refine wpList_wp (by rfl) (fun K hK => ?_)
  (try go_simp)
  refine (ans _ (Nm.keep HS5.out HNM.out)).mono ?_
  rintro e w6 ⟨rfl, hb⟩
  (try go_wp2_with fail)
  refine hK.out _ _ ?_
  clear hK K
  (try simp only [Act.put, sA, sB, sC])
  have HS6 := Lib.hid (Since.trans HS5.out hb)
  have HBn36 := Lib.hid (keep_blk hb HBn35.out)
  have HFbv16 := Lib.hid (keep_bv hb HFbv5_1.out)
  clear HS5 HBn35 HFbv5_1
  clear hb
  refine wpList_q (by rfl) (.bool true) ?he ?_
  case he => (first | rfl | (go_simp; (try with_reducible rfl)))
  (try simp only [Act.put, sA, sB, sC])
  refine wpList_q (by rfl) (.bool true) ?he ?_
  case he => (first | rfl | (go_simp; (try with_reducible rfl)))
  (try simp only [Act.put, sA, sB, sC])
  refine wpList_q (by rfl) (.bool true) ?he ?_
  case he => (first | rfl | (go_simp; (try with_reducible rfl)))
  (try simp only [Act.put, sA, sB, sC])
  refine wpList_q (by rfl) (.bool true) ?he ?_
  case he => (first | rfl | (go_simp; (try with_reducible rfl)))
  (try simp only [Act.put, sA, sB, sC])
  refine wpList_q (by rfl) (.slice a n cap) ?he ?_
  case he => (first | rfl | (go_simp; (try with_reducible rfl)))
  (try simp only [Act.put, sA, sB, sC])
  refine wpList_q (by rfl) (.string (strOfNums (bytesOf p))) ?he ?_
  case he => exact exec_str 26 5 9 _ (keep_bv HS6.out HB.out) rfl rfl Tryd.underlying26 Tryd.underlying5 Tryd.underlying9
  (try simp only [Act.put, sA, sB, sC])
  refine wpList_q (by rfl) (.slice A1 21 c1) ?he ?_
  case he => (first | rfl | (go_simp; (try with_reducible rfl)))
  (try simp only [Act.put, sA, sB, sC])
  refine wpList_q (by rfl) (.string (strOfNums (bytesOf p))) ?he ?_
  case he => exact exec_str 26 5 9 _ (HFbv16.out) rfl rfl Tryd.underlying26 Tryd.underlying5 Tryd.underlying9
  (try simp only [Act.put, sA, sB, sC])
  refine wpList_q (by rfl) (.bool true) ?he ?_
  case he => (go_simp; (first | done | rfl))
  (try simp only [Act.put, sA, sB, sC])
  refine wpList_q (by rfl) (.bool true) ?he ?_
  case he => (first | rfl | (go_simp; (try with_reducible rfl)))
  (try simp only [Act.put, sA, sB, sC])
  refine wpList_q (by rfl) (.bool true) ?he ?_
  case he => (first | rfl | (go_simp; (try with_reducible rfl)))
  (try simp only [Act.put, sA, sB, sC])
  refine wpList_nil ?_
  (try go_wp2_with fail)
  go_ret
  exact ⟨rfl, HS6.out⟩
set_option maxHeartbeats 4000000 in
theorem backNot (p : PktV) (a : Option Addr) (n cap : Nat) (w : World) (hn : Nm w) (hb : BV w a n (bytesOf p)) (hc : n ≤ cap) (h5 : ¬ 500 < n) (h0 : mayB p = true) (h1 : p.has = false) : Calls Tryd.prog 5 #[.slice a n cap] w fun e w' => e = .returned (.bool true) ∧ Since w w' := by
  have HNM := Lib.hid hn; clear hn
  have HB := Lib.hid hb; clear hb
  have HC := Lib.hid hc; clear hc
  have H5 := Lib.hid h5; clear h5
  have H0 := Lib.hid h0; clear h0
  have H1 := Lib.hid h1; clear h1
  go_enter Tryd.func5, Tryd.ntmps5
  go_upto_region 1 with fail
  have HS1 := Lib.hid (Since.refl w)
  refine wp_region_lit ?_
  refine wpList_q (by rfl) (.slice a n cap) ?he ?_
  case he => (first | rfl | (go_simp; (try with_reducible rfl)))
  (try simp only [Act.put, sA, sB, sC])
  refine wpList_q (by rfl) (.int .i64 n) ?he ?_
  case he => (go_simp; (try with_reducible rfl))
  (try simp only [Act.put, sA, sB, sC])
  refine wpList_q (by rfl) (.bool false) ?he ?_
  case he => (go_simp; (first | done | (have q := H5.out; omega)))
  (try simp only [Act.put, sA, sB, sC])
  refine wpList_nil ?_
  go_upto_region 3 with fail
  refine wp_region_lit ?_
  refine wpList_q (by rfl) (.slice a n cap) ?he ?_
  case he => (first | rfl | (go_simp; (try with_reducible rfl)))
  (try simp only [Act.put, sA, sB, sC])
  refine wpList_wp (by rfl) (fun K hK => ?_)
  (try go_simp)
  refine (getP p H0.out a n cap _ (keep_bv HS1.out HB.out) HC.out).mono ?_
  rintro e w2 ⟨rfl, hb⟩
  (try go_wp2_with fail)
  refine hK.out _ _ ?_
  clear hK K
  (try simp only [Act.put, sA, sB, sC])
  have HS2 := Lib.hid (Since.trans HS1.out hb)
  clear HS1 
  clear hb
  refine wpList_q (by rfl) (.tuple #[.agg (pktC p), .int .i64 0]) ?he ?_
  case he => (first | rfl | (go_simp; (try with_reducible rfl)))
  (try simp only [Act.put, sA, sB, sC])
  refine wpList_q (by rfl) (.agg (pktC p)) ?he ?_
  case he => (first | rfl | (go_simp; (try with_reducible rfl)))
  (try simp only [Act.put, sA, sB, sC])
  refine wpList_q (by rfl) (.int .i64 0) ?he ?_
  case he => (first | rfl | (go_simp; (try with_reducible rfl)))
  (try simp only [Act.put, sA, sB, sC])
  refine wpList_wp (by rfl) (fun K hK => ?_)
  refine wp_new (fun b => .pointer (some ⟨b, 0, none⟩)) 25 #[.int .i64 0, .int .i64 0, .int .i64 0, .int .i64 0, .bool false, .int .i64 0, .int .i64 0, .int .i64 0, .int .i64 0] (by rintro b rfl; first | rfl | kernel_rfl) ?_
  intro bn3 w3 hge hB hb
  refine hK.out _ _ ?_
  clear hK K
  (try simp only [Act.put, sA, sB, sC])
  have HGn3 := Lib.hid (show w.heap.size ≤ bn3 by have := Since.size HS2.out; omega)
  have HS3 := Lib.hid (Since.trans HS2.out hb)
  clear HS2 
  clear hb hge
  have HBn33 := Lib.hid hB
  clear hB
  refine wpList_wp (by rfl) (fun K hK => ?_)
  refine wp_st_row 25 _ _ rfl (pktC p) rfl rfl (HasRow.of HBn33.out rfl) rfl (by simp [pktC, msgC, Value.oneCell']) (by kernel_rfl) ?_
  intro w4 hw
  refine hK.out _ _ ?_
  clear hK K
  (try simp only [Act.put, sA, sB, sC])
  have HS4 := Lib.hid (show Since w w4 by rw [hw]; exact Since.setRow HS3.out HGn3.out _)
  have HBn34 := Lib.hid (show Blk w4 bn3 25 (pktC p) by rw [hw]; exact Blk.row HBn33.out _)
  clear hw HS3 HBn33
  refine wpList_q (by rfl) (.int .i64 0) ?he ?_
  case he => (first | rfl | (go_simp; (try with_reducible rfl)))
  (try simp only [Act.put, sA, sB, sC])
  refine wpList_nil ?_
  go_upto_region 4 with fail
  refine wp_region_lit ?_
  refine wpList_q (by rfl) (.int .i64 0) ?he ?_
  case he => (first | rfl | (go_simp; (try with_reducible rfl)))
  (try simp only [Act.put, sA, sB, sC])
  refine wpList_q (by rfl) (.bool false) ?he ?_
  case he => (go_simp; (try with_reducible rfl))
  (try simp only [Act.put, sA, sB, sC])
  refine wpList_nil ?_
  go_upto_region 6 with fail
  refine wp_region_lit ?_
  refine wpList_q (by rfl) (.agg (pktC p)) ?he ?_
  case he => exact exec_load_row 25 _ _ HBn34.out rfl rfl Tryd.underlying25 rfl (by kernel_rfl)
  (try simp only [Act.put, sA, sB, sC])
  refine wpList_wp (by rfl) (fun K hK => ?_)
  (try go_simp)
  refine (putNot p H0.out H1.out _).mono ?_
  rintro e w5 ⟨A1, c1, rfl, hc1, hBV, hb⟩
  (try go_wp2_with fail)
  refine hK.out _ _ ?_
  clear hK K
  (try simp only [Act.put, sA, sB, sC])
  have HS5 := Lib.hid (Since.trans HS4.out hb)
  have HBn35 := Lib.hid (keep_blk hb HBn34.out)
  clear HS4 HBn34
  clear hb
  have HFbv5_1 := Lib.hid hBV; have HC1 := Lib.hid hc1
  clear hBV hc1
  refine wpList_q (by rfl) (.tuple #[.slice A1 8 c1, .bool true]) ?he ?_
  case he => (first | rfl | (go_simp; (try with_reducible rfl)))
  (try simp only [Act.put, sA, sB, sC])
  refine wpList_q (by rfl) (.slice A1 8 c1) ?he ?_
  case he => (first | rfl | (go_simp; (try with_reducible rfl)))
  (try simp only [Act.put, sA, sB, sC])
  refine wpList_q (by rfl) (.bool true) ?he ?_
  case he => (first | rfl | (go_simp; (try with_reducible rfl)))
  (try simp only [Act.put, sA, sB, sC])
  refine wpList_q (by rfl) (.slice A1 8 c1) ?he ?_
  case he => (first | rfl | (go_simp; (try with_reducible rfl)))
  (try simp only [Act.put, sA, sB, sC])
  refine wpList_q (by rfl) (.bool true) ?he ?_
  case he => (first | rfl | (go_simp; (try with_reducible rfl)))
  (try simp only [Act.put, sA, sB, sC])
  refine wpList_nil ?_
  go_upto_region 7 with fail
  refine wp_region_lit ?_
  refine wpList_wp (by rfl) (fun K hK => ?_)
  (try go_simp)
  refine (ans _ (Nm.keep HS5.out HNM.out)).mono ?_
  rintro e w6 ⟨rfl, hb⟩
  (try go_wp2_with fail)
  refine hK.out _ _ ?_
  clear hK K
  (try simp only [Act.put, sA, sB, sC])
  have HS6 := Lib.hid (Since.trans HS5.out hb)
  have HBn36 := Lib.hid (keep_blk hb HBn35.out)
  have HFbv16 := Lib.hid (keep_bv hb HFbv5_1.out)
  clear HS5 HBn35 HFbv5_1
  clear hb
  refine wpList_q (by rfl) (.bool true) ?he ?_
  case he => (first | rfl | (go_simp; (try with_reducible rfl)))
  (try simp only [Act.put, sA, sB, sC])
  refine wpList_q (by rfl) (.bool true) ?he ?_
  case he => (first | rfl | (go_simp; (try with_reducible rfl)))
  (try simp only [Act.put, sA, sB, sC])
  refine wpList_q (by rfl) (.bool true) ?he ?_
  case he => (first | rfl | (go_simp; (try with_reducible rfl)))
  (try simp only [Act.put, sA, sB, sC])
  refine wpList_q (by rfl) (.bool true) ?he ?_
  case he => (first | rfl | (go_simp; (try with_reducible rfl)))
  (try simp only [Act.put, sA, sB, sC])
  refine wpList_q (by rfl) (.slice a n cap) ?he ?_
  case he => (first | rfl | (go_simp; (try with_reducible rfl)))
  (try simp only [Act.put, sA, sB, sC])
  refine wpList_q (by rfl) (.string (strOfNums (bytesOf p))) ?he ?_
  case he => exact exec_str 26 5 9 _ (keep_bv HS6.out HB.out) rfl rfl Tryd.underlying26 Tryd.underlying5 Tryd.underlying9
  (try simp only [Act.put, sA, sB, sC])
  refine wpList_q (by rfl) (.slice A1 8 c1) ?he ?_
  case he => (first | rfl | (go_simp; (try with_reducible rfl)))
  (try simp only [Act.put, sA, sB, sC])
  refine wpList_q (by rfl) (.string (strOfNums (bytesOf p))) ?he ?_
  case he => exact exec_str 26 5 9 _ (HFbv16.out) rfl rfl Tryd.underlying26 Tryd.underlying5 Tryd.underlying9
  (try simp only [Act.put, sA, sB, sC])
  refine wpList_q (by rfl) (.bool true) ?he ?_
  case he => (go_simp; (first | done | rfl))
  (try simp only [Act.put, sA, sB, sC])
  refine wpList_q (by rfl) (.bool true) ?he ?_
  case he => (first | rfl | (go_simp; (try with_reducible rfl)))
  (try simp only [Act.put, sA, sB, sC])
  refine wpList_q (by rfl) (.bool true) ?he ?_
  case he => (first | rfl | (go_simp; (try with_reducible rfl)))
  (try simp only [Act.put, sA, sB, sC])
  refine wpList_nil ?_
  (try go_wp2_with fail)
  go_ret
  exact ⟨rfl, HS6.out⟩
theorem getV_cases (zs : List Int) (hB : ∀ z ∈ zs, isB z) : (∃ e0, e0 ≠ 0 ∧ getV zs = (zeroP, e0)) ∨ ∃ p, mayB p = true ∧ bytesOf p = zs := by
  by_cases he : (getV zs).2 = 0
  · exact .inr ⟨(getV zs).1, get_may zs hB (getV zs).1 (by rw [← he])⟩
  · exact .inl ⟨_, he, by rw [← get_bad zs he]⟩
theorem backs (a : Option Addr) (n cap : Nat) (zs : List Int) (w : World) (h : Nm w) (hb : BV w a n zs) (hc : n ≤ cap) : Calls Tryd.prog 5 #[.slice a n cap] w fun e w' => e = .returned (.bool true) ∧ Since w w' := by
  by_cases h5 : 500 < n
  · exact backLong zs a n cap w h hb hc h5
  rcases getV_cases zs hb.2.2.1 with ⟨e0, he, hg⟩ | ⟨p, h0, rfl⟩
  · exact backBad zs e0 a n cap w h hb hc h5 hg he
  · cases h1 : p.has
    · exact backNot p a n cap w h hb hc h5 h0 h1
    · exact backHas p a n cap w h hb hc h5 h0 h1
set_option maxHeartbeats 4000000 in
theorem getsLong (zs : List Int) (a : Option Addr) (n cap : Nat) (w : World) (hn : Nm w) (hb : BV w a n zs) (hc : n ≤ cap) (h5 : 500 < n) : Calls Tryd.prog 4 #[.slice a n cap] w fun e w' => e = .returned (.bool true) ∧ Since w w' := by
  have HNM := Lib.hid hn; clear hn
  have HB := Lib.hid hb; clear hb
  have HC := Lib.hid hc; clear hc
  have H5 := Lib.hid h5; clear h5
  go_enter Tryd.func4, Tryd.ntmps4
  go_upto_region 1 with fail
  have HS1 := Lib.hid (Since.refl w)
  refine wp_region_lit ?_
  refine wpList_q (by rfl) (.slice a n cap) ?he ?_
  case he => (first | rfl | (go_simp; (try with_reducible rfl)))
  (try simp only [Act.put, sA, sB, sC])
  refine wpList_q (by rfl) (.int .i64 n) ?he ?_
  case he => (go_simp; (try with_reducible rfl))
  (try simp only [Act.put, sA, sB, sC])
  refine wpList_q (by rfl) (.bool true) ?he ?_
  case he => (go_simp; (first | done | (have q := H5.out; omega)))
  (try simp only [Act.put, sA, sB, sC])
  refine wpList_nil ?_
  go_upto_region 2 with fail
  refine wp_region_lit ?_
  refine wpList_wp (by rfl) (fun K hK => ?_)
  (try go_simp)
  refine (ans _ (Nm.keep HS1.out HNM.out)).mono ?_
  rintro e w2 ⟨rfl, hb⟩
  (try go_wp2_with fail)
  refine hK.out _ _ ?_
  clear hK K
  (try simp only [Act.put, sA, sB, sC])
  have HS2 := Lib.hid (Since.trans HS1.out hb)
  clear HS1 
  clear hb
  refine wpList_q (by rfl) (.bool true) ?he ?_
  case he => (first | rfl | (go_simp; (try with_reducible rfl)))
  (try simp only [Act.put, sA, sB, sC])
  refine wpList_nil ?_
  (try go_wp2_with fail)
  go_ret
  exact ⟨rfl, HS2.out⟩
set_option maxHeartbeats 4000000 in
theorem getsAll (zs : List Int) (p : PktV) (e0 : Int) (a : Option Addr) (n cap : Nat) (w : World) (hn : Nm w) (hb : BV w a n zs) (hc : n ≤ cap) (h5 : ¬ 500 < n) (hg : getV zs = (p, e0)) : Calls Tryd.prog 4 #[.slice a n cap] w fun e w' => e = .returned (.bool true) ∧ Since w w' := by
  have HNM := Lib.hid hn; clear hn
  have HB := Lib.hid hb; clear hb
  have HC := Lib.hid hc; clear hc
  have H5 := Lib.hid h5; clear h5
  have HG := Lib.hid hg; clear hg
  go_enter Tryd.func4, Tryd.ntmps4
  go_upto_region 1 with fail
  have HS1 := Lib.hid (Since.refl w)
  have H5n := Lib.hid (show n ≤ 500 by have := H5.out; omega)
  refine wp_region_lit ?_
  refine wpList_q (by rfl) (.slice a n cap) ?he ?_
  case he => (first | rfl | (go_simp; (try with_reducible rfl)))
  (try simp only [Act.put, sA, sB, sC])
  refine wpList_q (by rfl) (.int .i64 n) ?he ?_
  case he => (go_simp; (try with_reducible rfl))
  (try simp only [Act.put, sA, sB, sC])
  refine wpList_q (by rfl) (.bool false) ?he ?_
  case he => (go_simp; (first | done | (have q := H5.out; omega)))
  (try simp only [Act.put, sA, sB, sC])
  refine wpList_nil ?_
  go_upto_region 3 with fail
  have hn5 := H5n.out
  refine wp_region_lit ?_
  refine wpList_wp (by rfl) (fun K hK => ?_)
  refine wp_new (fun b => .slice (some ⟨b, 0, none⟩) 0 0) 5 #[] (by rintro b rfl; first | rfl | kernel_rfl) ?_
  intro bn12 w2 hge hB hb
  refine hK.out _ _ ?_
  clear hK K
  (try simp only [Act.put, sA, sB, sC])
  have HGn12 := Lib.hid (show w.heap.size ≤ bn12 by have := Since.size HS1.out; omega)
  have HS2 := Lib.hid (Since.trans HS1.out hb)
  clear HS1 
  clear hb hge
  have HBn122 := Lib.hid hB
  clear hB
  refine wpList_q (by rfl) (.slice a n cap) ?he ?_
  case he => (first | rfl | (go_simp; (try with_reducible rfl)))
  (try simp only [Act.put, sA, sB, sC])
  refine wpList_wp (by rfl) (fun K hK => ?_)
  have HFr := Lib.hid (own_new (n := 0) (base := bn12) (cs := cells []) HBn122.out (Nat.le_refl _) rfl (by omega))
  have HFlo := Lib.hid (show bn12 ≤ w2.heap.size from Nat.le_of_lt (Blk.lt HBn122.out))
  clear HBn122
  refine wp_append_bytes (.tmp 12) (.tmp 13) 26 rfl bn12 5 Tryd.underlying26 (by kernel_rfl) (.slice (some ⟨bn12, 0, none⟩) 0 0) 0 ([]) rfl HFr.out a n cap (zs) rfl (keep_bv HS2.out HB.out) (by omega) HFlo.out n (zs) (Nat.zero_add _) rfl ?_
  intro A_1 c_1 w3 hown hgrw
  refine hK.out _ _ ?_
  clear hK K
  (try simp only [Act.put, sA, sB, sC])
  have HS3 := Lib.hid (since_grw HS2.out hgrw HGn12.out)
  have HFlo3 := Lib.hid (Grw.lo hgrw HFlo.out)
  clear HS2 HFr HFlo
  have HFr3 := Lib.hid hown
  clear hown hgrw
  refine wpList_wp (by rfl) (fun K hK => ?_)
  (try go_simp)
  refine (getQ p e0 A_1 n c_1 zs _ (bv_own HFr3.out HB.out.2.2.1) (own_cap HFr3.out) HG.out).mono ?_
  rintro e w4 ⟨rfl, hb⟩
  (try go_wp2_with fail)
  refine hK.out _ _ ?_
  clear hK K
  (try simp only [Act.put, sA, sB, sC])
  have HS4 := Lib.hid (Since.trans HS3.out hb)
  have HFlo4 := Lib.hid (keep_lo hb HFlo3.out)
  have HFr4 := Lib.hid (keep_own hb HFr3.out)
  clear HS3 HFlo3 HFr3
  clear hb
  refine wpList_q (by rfl) (.tuple #[.agg (pktC p), .int .i64 e0]) ?he ?_
  case he => (first | rfl | (go_simp; (try with_reducible rfl)))
  (try simp only [Act.put, sA, sB, sC])
  refine wpList_q (by rfl) (.agg (pktC p)) ?he ?_
  case he => (first | rfl | (go_simp; (try with_reducible rfl)))
  (try simp only [Act.put, sA, sB, sC])
  refine wpList_q (by rfl) (.int .i64 e0) ?he ?_
  case he => (first | rfl | (go_simp; (try with_reducible rfl)))
  (try simp only [Act.put, sA, sB, sC])
  refine wpList_wp (by rfl) (fun K hK => ?_)
  refine wp_new (fun b => .pointer (some ⟨b, 0, none⟩)) 25 #[.int .i64 0, .int .i64 0, .int .i64 0, .int .i64 0, .bool false, .int .i64 0, .int .i64 0, .int .i64 0, .int .i64 0] (by rintro b rfl; first | rfl | kernel_rfl) ?_
  intro bn3 w5 hge hB hb
  refine hK.out _ _ ?_
  clear hK K
  (try simp only [Act.put, sA, sB, sC])
  have HGn3 := Lib.hid (show w.heap.size ≤ bn3 by have := Since.size HS4.out; omega)
  have HS5 := Lib.hid (Since.trans HS4.out hb)
  have HFlo5 := Lib.hid (keep_lo hb HFlo4.out)
  have HFr5 := Lib.hid (keep_own hb HFr4.out)
  clear HS4 HFlo4 HFr4
  clear hb hge
  have HBn35 := Lib.hid hB
  clear hB
  refine wpList_wp (by rfl) (fun K hK => ?_)
  refine wp_st_row 25 _ _ rfl (pktC p) rfl rfl (HasRow.of HBn35.out rfl) rfl (by simp [pktC, msgC, Value.oneCell']) (by kernel_rfl) ?_
  intro w6 hw
  refine hK.out _ _ ?_
  clear hK K
  (try simp only [Act.put, sA, sB, sC])
  have HS6 := Lib.hid (show Since w w6 by rw [hw]; exact Since.setRow HS5.out HGn3.out _)
  have HBn36 := Lib.hid (show Blk w6 bn3 25 (pktC p) by rw [hw]; exact Blk.row HBn35.out _)
  clear hw HS5 HBn35 HFlo5 HFr5
  refine wpList_q (by rfl) (.int .i64 e0) ?he ?_
  case he => (first | rfl | (go_simp; (try with_reducible rfl)))
  (try simp only [Act.put, sA, sB, sC])
  refine wpList_nil ?_
  go_upto_region 4 with fail
  refine wp_region_lit ?_
  refine wpList_q (by rfl) (.slice a n cap) ?he ?_
  case he => (first | rfl | (go_simp; (try with_reducible rfl)))
  (try simp only [Act.put, sA, sB, sC])
  refine wpList_wp (by rfl) (fun K hK => ?_)
  (try go_simp)
  refine (pktQ p e0 a n cap zs _ (keep_bv HS6.out HB.out) HG.out).mono ?_
  rintro e w7 ⟨rfl, hb⟩
  (try go_wp2_with fail)
  refine hK.out _ _ ?_
  clear hK K
  (try simp only [Act.put, sA, sB, sC])
  have HS7 := Lib.hid (Since.trans HS6.out hb)
  have HBn37 := Lib.hid (keep_blk hb HBn36.out)
  clear HS6 HBn36
  clear hb
  refine wpList_q (by rfl) (.tuple #[.agg (pktC p), .int .i64 e0]) ?he ?_
  case he => (first | rfl | (go_simp; (try with_reducible rfl)))
  (try simp only [Act.put, sA, sB, sC])
  refine wpList_q (by rfl) (.agg (pktC p)) ?he ?_
  case he => (first | rfl | (go_simp; (try with_reducible rfl)))
  (try simp only [Act.put, sA, sB, sC])
  refine wpList_q (by rfl) (.int .i64 e0) ?he ?_
  case he => (first | rfl | (go_simp; (try with_reducible rfl)))
  (try simp only [Act.put, sA, sB, sC])
  refine wpList_wp (by rfl) (fun K hK => ?_)
  refine wp_new (fun b => .pointer (some ⟨b, 0, none⟩)) 25 #[.int .i64 0, .int .i64 0, .int .i64 0, .int .i64 0, .bool false, .int .i64 0, .int .i64 0, .int .i64 0, .int .i64 0] (by rintro b rfl; first | rfl | kernel_rfl) ?_
  intro bn5 w8 hge hB hb
  refine hK.out _ _ ?_
  clear hK K
  (try simp only [Act.put, sA, sB, sC])
  have HNn5n3 := Lib.hid (show bn5 ≠ bn3 by have := Blk.lt HBn37.out; omega)
  have HGn5 := Lib.hid (show w.heap.size ≤ bn5 by have := Since.size HS7.out; omega)
  have HS8 := Lib.hid (Since.trans HS7.out hb)
  have HBn38 := Lib.hid (keep_blk hb HBn37.out)
  clear HS7 HBn37
  clear hb hge
  have HBn58 := Lib.hid hB
  clear hB
  refine wpList_wp (by rfl) (fun K hK => ?_)
  refine wp_st_row 25 _ _ rfl (pktC p) rfl rfl (HasRow.of HBn58.out rfl) rfl (by simp [pktC, msgC, Value.oneCell']) (by kernel_rfl) ?_
  intro w9 hw
  refine hK.out _ _ ?_
  clear hK K
  (try simp only [Act.put, sA, sB, sC])
  have HS9 := Lib.hid (show Since w w9 by rw [hw]; exact Since.setRow HS8.out HGn5.out _)
  have HBn39 := Lib.hid (show Blk w9 bn3 25 (pktC p) by rw [hw]; exact Blk.row_far HBn38.out (Ne.symm HNn5n3.out) _)
  have HBn59 := Lib.hid (show Blk w9 bn5 25 (pktC p) by rw [hw]; exact Blk.row HBn58.out _)
  clear hw HS8 HBn38 HBn58
  refine wpList_q (by rfl) (.int .i64 e0) ?he ?_
  case he => (first | rfl | (go_simp; (try with_reducible rfl)))
  (try simp only [Act.put, sA, sB, sC])
  refine wpList_nil ?_
  go_upto_region 5 with fail
  refine wp_region_lit ?_
  refine wpList_wp (by rfl) (fun K hK => ?_)
  (try go_simp)
  refine (ans _ (Nm.keep HS9.out HNM.out)).mono ?_
  rintro e w10 ⟨rfl, hb⟩
  (try go_wp2_with fail)
  refine hK.out _ _ ?_
  clear hK K
  (try simp only [Act.put, sA, sB, sC])
  have HS10 := Lib.hid (Since.trans HS9.out hb)
  have HBn310 := Lib.hid (keep_blk hb HBn39.out)
  have HBn510 := Lib.hid (keep_blk hb HBn59.out)
  clear HS9 HBn39 HBn59
  clear hb
  refine wpList_q (by rfl) (.bool true) ?he ?_
  case he => (first | rfl | (go_simp; (try with_reducible rfl)))
  (try simp only [Act.put, sA, sB, sC])
  refine wpList_q (by rfl) (.agg (pktC p)) ?he ?_
  case he => exact exec_load_row 25 _ _ HBn310.out rfl rfl Tryd.underlying25 rfl (by kernel_rfl)
  (try simp only [Act.put, sA, sB, sC])
  refine wpList_q (by rfl) (.agg (pktC p)) ?he ?_
  case he => exact exec_load_row 25 _ _ HBn510.out rfl rfl Tryd.underlying25 rfl (by kernel_rfl)
  (try simp only [Act.put, sA, sB, sC])
  refine wpList_q (by rfl) (.bool true) ?he ?_
  case he => (first | (go_simp; done) | (simp only [pktC]; go_simp; done) | (simp only [pktC]; go_simp; simp))
  (try simp only [Act.put, sA, sB, sC])
  refine wpList_q (by rfl) (.bool true) ?he ?_
  case he => (first | rfl | (go_simp; (try with_reducible rfl)))
  (try simp only [Act.put, sA, sB, sC])
  refine wpList_q (by rfl) (.bool true) ?he ?_
  case he => (first | rfl | (go_simp; (try with_reducible rfl)))
  (try simp only [Act.put, sA, sB, sC])
  refine wpList_q (by rfl) (.int .i64 e0) ?he ?_
  case he => (first | rfl | (go_simp; (try with_reducible rfl)))
  (try simp only [Act.put, sA, sB, sC])
  refine wpList_q (by rfl) (.int .i64 e0) ?he ?_
  case he => (first | rfl | (go_simp; (try with_reducible rfl)))
  (try simp only [Act.put, sA, sB, sC])
  refine wpList_q (by rfl) (.bool true) ?he ?_
  case he => (go_simp; (try with_reducible rfl))
  (try simp only [Act.put, sA, sB, sC])
  refine wpList_q (by rfl) (.bool true) ?he ?_
  case he => (first | rfl | (go_simp; (try with_reducible rfl)))
  (try simp only [Act.put, sA, sB, sC])
  refine wpList_q (by rfl) (.bool true) ?he ?_
  case he => (first | rfl | (go_simp; (try with_reducible rfl)))
  (try simp only [Act.put, sA, sB, sC])
  refine wpList_nil ?_
  (try go_wp2_with fail)
  go_ret
  exact ⟨rfl, HS10.out⟩
theorem gets (a : Option Addr) (n cap : Nat) (zs : List Int) (w : World) (h : Nm w) (hb : BV w a n zs) (hc : n ≤ cap) : Calls Tryd.prog 4 #[.slice a n cap] w fun e w' => e = .returned (.bool true) ∧ Since w w' := by
  by_cases h5 : 500 < n
  · exact getsLong zs a n cap w h hb hc h5
  · exact getsAll zs (getV zs).1 (getV zs).2 a n cap w h hb hc h5 rfl
set_option maxHeartbeats 4000000 in
theorem names1 (w : World) (hn : Nm w) : Calls Tryd.prog 6 #[.int .i64 1] w fun e w' => e = .returned (.bool true) ∧ Since w w' := by
  have HNM := Lib.hid hn; clear hn
  go_enter Tryd.func6, Tryd.ntmps6
  go_upto_region 1 with fail
  have HS1 := Lib.hid (Since.refl w)
  refine wp_region_lit ?_
  refine wpList_wp (by rfl) (fun K hK => ?_)
  refine wp_new (fun b => .slice (some ⟨b, 0, none⟩) 16 16) 9 #[.string { data := #[104, 101, 108, 108, 111] }, .string { data := #[119, 101, 108, 99, 111, 109, 101] }, .string { data := #[114, 101, 113, 117, 101, 115, 116] }, .string { data := #[103, 114, 97, 110, 116] }, .string { data := #[113, 117, 101, 117, 101, 100] }, .string { data := #[98, 117, 115, 121] }, .string { data := #[100, 101, 110, 121] }, .string { data := #[97, 114, 114, 105, 118, 101, 100] }, .string { data := #[101, 110, 116, 101, 114, 101, 100] }, .string { data := #[114, 105, 100, 101, 111, 107] }, .string { data := #[114, 101, 106, 101, 99, 116] }, .string { data := #[101, 120, 105, 116] }, .string { data := #[101, 120, 105, 116, 101, 100] }, .string { data := #[101, 120, 105, 116, 111, 107] }, .string { data := #[114, 101, 110, 101, 119] }, .string { data := #[101, 118, 105, 99, 116] }] (by rintro b rfl; first | rfl | kernel_rfl) ?_
  intro bn6 w2 hge hB hb
  refine hK.out _ _ ?_
  clear hK K
  (try simp only [Act.put, sA, sB, sC])
  have HGn6 := Lib.hid (show w.heap.size ≤ bn6 by have := Since.size HS1.out; omega)
  have HS2 := Lib.hid (Since.trans HS1.out hb)
  clear HS1 
  clear hb hge
  have HBn62 := Lib.hid hB
  clear hB
  refine wpList_q (by rfl) (.slice (some ⟨bn6, 0, none⟩) 16 16) ?he ?_
  case he => (first | rfl | (go_simp; (try with_reducible rfl)))
  (try simp only [Act.put, sA, sB, sC])
  refine wpList_nil ?_
  go_upto_region 2 with fail
  refine wp_region_lit ?_
  refine wpList_q (by rfl) (.string { data := #[] }) ?he ?_
  case he => (first | rfl | (go_simp; (try with_reducible rfl)))
  (try simp only [Act.put, sA, sB, sC])
  refine wpList_nil ?_
  go_upto_region 3 with fail
  refine wp_region_lit ?_
  refine wpList_q (by rfl) (.int .i64 1) ?he ?_
  case he => (first | rfl | (go_simp; (try with_reducible rfl)))
  (try simp only [Act.put, sA, sB, sC])
  refine wpList_q (by rfl) (.bool true) ?he ?_
  case he => (go_simp; (try with_reducible rfl))
  (try simp only [Act.put, sA, sB, sC])
  refine wpList_q (by rfl) (.bool true) ?he ?_
  case he => (first | rfl | (go_simp; (try with_reducible rfl)))
  (try simp only [Act.put, sA, sB, sC])
  refine wpList_q (by rfl) (.int .i64 1) ?he ?_
  case he => (first | rfl | (go_simp; (try with_reducible rfl)))
  (try simp only [Act.put, sA, sB, sC])
  refine wpList_q (by rfl) (.bool true) ?he ?_
  case he => (go_simp; (try with_reducible rfl))
  (try simp only [Act.put, sA, sB, sC])
  refine wpList_q (by rfl) (.bool true) ?he ?_
  case he => (first | rfl | (go_simp; (try with_reducible rfl)))
  (try simp only [Act.put, sA, sB, sC])
  refine wpList_nil ?_
  go_upto_region 4 with fail
  refine wp_region_lit ?_
  refine wpList_q (by rfl) (.slice (some ⟨bn6, 0, none⟩) 16 16) ?he ?_
  case he => (first | rfl | (go_simp; (try with_reducible rfl)))
  (try simp only [Act.put, sA, sB, sC])
  refine wpList_q (by rfl) (.int .i64 1) ?he ?_
  case he => (first | rfl | (go_simp; (try with_reducible rfl)))
  (try simp only [Act.put, sA, sB, sC])
  refine wpList_q (by rfl) (.int .i64 0) ?he ?_
  case he => (first | rfl | kernel_rfl | (go_simp; (try with_reducible rfl)))
  (try simp only [Act.put, sA, sB, sC])
  refine wpList_q (by rfl) (.pointer (some ⟨bn6, 0, none⟩)) ?he ?_
  case he => (go_simp; (try with_reducible rfl))
  (try simp only [Act.put, sA, sB, sC])
  refine wpList_q (by rfl) (.string { data := #[104, 101, 108, 108, 111] }) ?he ?_
  case he => exact exec_cell 9 _ _ HBn62.out rfl rfl rfl Tryd.underlying9 rfl
  (try simp only [Act.put, sA, sB, sC])
  refine wpList_q (by rfl) (.string { data := #[104, 101, 108, 108, 111] }) ?he ?_
  case he => (first | rfl | (go_simp; (try with_reducible rfl)))
  (try simp only [Act.put, sA, sB, sC])
  refine wpList_nil ?_
  go_upto_region 5 with fail
  refine wp_region_lit ?_
  refine wpList_q (by rfl) (.int .i64 1) ?he ?_
  case he => (first | rfl | (go_simp; (try with_reducible rfl)))
  (try simp only [Act.put, sA, sB, sC])
  refine wpList_q (by rfl) (.bool true) ?he ?_
  case he => (go_simp; (try with_reducible rfl))
  (try simp only [Act.put, sA, sB, sC])
  refine wpList_q (by rfl) (.bool true) ?he ?_
  case he => (first | rfl | (go_simp; (try with_reducible rfl)))
  (try simp only [Act.put, sA, sB, sC])
  refine wpList_no (by rfl) ?_
  (try simp only [Act.put, sA, sB, sC])
  refine wpList_no (by rfl) ?_
  (try simp only [Act.put, sA, sB, sC])
  refine wpList_q (by rfl) (.bool true) ?he ?_
  case he => (first | rfl | (go_simp; (try with_reducible rfl)))
  (try simp only [Act.put, sA, sB, sC])
  refine wpList_q (by rfl) (.bool true) ?he ?_
  case he => (first | rfl | (go_simp; (try with_reducible rfl)))
  (try simp only [Act.put, sA, sB, sC])
  refine wpList_no (by rfl) ?_
  (try simp only [Act.put, sA, sB, sC])
  refine wpList_no (by rfl) ?_
  (try simp only [Act.put, sA, sB, sC])
  refine wpList_q (by rfl) (.bool true) ?he ?_
  case he => (first | rfl | (go_simp; (try with_reducible rfl)))
  (try simp only [Act.put, sA, sB, sC])
  refine wpList_q (by rfl) (.bool true) ?he ?_
  case he => (first | rfl | (go_simp; (try with_reducible rfl)))
  (try simp only [Act.put, sA, sB, sC])
  refine wpList_no (by rfl) ?_
  (try simp only [Act.put, sA, sB, sC])
  refine wpList_no (by rfl) ?_
  (try simp only [Act.put, sA, sB, sC])
  refine wpList_q (by rfl) (.bool true) ?he ?_
  case he => (first | rfl | (go_simp; (try with_reducible rfl)))
  (try simp only [Act.put, sA, sB, sC])
  refine wpList_q (by rfl) (.bool true) ?he ?_
  case he => (first | rfl | (go_simp; (try with_reducible rfl)))
  (try simp only [Act.put, sA, sB, sC])
  refine wpList_no (by rfl) ?_
  (try simp only [Act.put, sA, sB, sC])
  refine wpList_no (by rfl) ?_
  (try simp only [Act.put, sA, sB, sC])
  refine wpList_q (by rfl) (.bool true) ?he ?_
  case he => (first | rfl | (go_simp; (try with_reducible rfl)))
  (try simp only [Act.put, sA, sB, sC])
  refine wpList_q (by rfl) (.bool true) ?he ?_
  case he => (first | rfl | (go_simp; (try with_reducible rfl)))
  (try simp only [Act.put, sA, sB, sC])
  refine wpList_nil ?_
  go_upto_region 6 with fail
  refine wp_region_lit ?_
  refine wpList_wp (by rfl) (fun K hK => ?_)
  (try go_simp)
  refine (ans _ (Nm.keep HS2.out HNM.out)).mono ?_
  rintro e w3 ⟨rfl, hb⟩
  (try go_wp2_with fail)
  refine hK.out _ _ ?_
  clear hK K
  (try simp only [Act.put, sA, sB, sC])
  have HS3 := Lib.hid (Since.trans HS2.out hb)
  have HBn63 := Lib.hid (keep_blk hb HBn62.out)
  clear HS2 HBn62
  clear hb
  refine wpList_q (by rfl) (.bool true) ?he ?_
  case he => (first | rfl | (go_simp; (try with_reducible rfl)))
  (try simp only [Act.put, sA, sB, sC])
  refine wpList_q (by rfl) (.int .i64 1) ?he ?_
  case he => (first | rfl | (go_simp; (try with_reducible rfl)))
  (try simp only [Act.put, sA, sB, sC])
  refine wpList_wp (by rfl) (fun K hK => ?_)
  (try go_simp)
  refine (nameV 1 ⟨#[104, 101, 108, 108, 111]⟩ _ (Nm.keep HS3.out HNM.out) rfl).mono ?_
  rintro e w' ⟨rfl, rfl⟩
  (try go_wp2_with fail)
  refine hK.out _ _ ?_
  clear hK K
  (try simp only [Act.put, sA, sB, sC])
  refine wpList_q (by rfl) (.string { data := #[104, 101, 108, 108, 111] }) ?he ?_
  case he => (first | rfl | (go_simp; (try with_reducible rfl)))
  (try simp only [Act.put, sA, sB, sC])
  refine wpList_q (by rfl) (.bool true) ?he ?_
  case he => (go_simp; (first | done | rfl))
  (try simp only [Act.put, sA, sB, sC])
  refine wpList_q (by rfl) (.bool true) ?he ?_
  case he => (first | rfl | (go_simp; (try with_reducible rfl)))
  (try simp only [Act.put, sA, sB, sC])
  refine wpList_q (by rfl) (.bool true) ?he ?_
  case he => (first | rfl | (go_simp; (try with_reducible rfl)))
  (try simp only [Act.put, sA, sB, sC])
  refine wpList_q (by rfl) (.int .i64 1) ?he ?_
  case he => (first | rfl | (go_simp; (try with_reducible rfl)))
  (try simp only [Act.put, sA, sB, sC])
  refine wpList_wp (by rfl) (fun K hK => ?_)
  (try go_simp)
  refine (robV 1 true _ (by decide)).mono ?_
  rintro e w' ⟨rfl, rfl⟩
  (try go_wp2_with fail)
  refine hK.out _ _ ?_
  clear hK K
  (try simp only [Act.put, sA, sB, sC])
  refine wpList_q (by rfl) (.bool true) ?he ?_
  case he => (first | rfl | (go_simp; (try with_reducible rfl)))
  (try simp only [Act.put, sA, sB, sC])
  refine wpList_q (by rfl) (.bool true) ?he ?_
  case he => (go_simp; (try with_reducible rfl))
  (try simp only [Act.put, sA, sB, sC])
  refine wpList_q (by rfl) (.bool true) ?he ?_
  case he => (first | rfl | (go_simp; (try with_reducible rfl)))
  (try simp only [Act.put, sA, sB, sC])
  refine wpList_q (by rfl) (.bool true) ?he ?_
  case he => (first | rfl | (go_simp; (try with_reducible rfl)))
  (try simp only [Act.put, sA, sB, sC])
  refine wpList_nil ?_
  (try go_wp2_with fail)
  go_ret
  exact ⟨rfl, HS3.out⟩
set_option maxHeartbeats 4000000 in
theorem names3 (w : World) (hn : Nm w) : Calls Tryd.prog 6 #[.int .i64 3] w fun e w' => e = .returned (.bool true) ∧ Since w w' := by
  have HNM := Lib.hid hn; clear hn
  go_enter Tryd.func6, Tryd.ntmps6
  go_upto_region 1 with fail
  have HS1 := Lib.hid (Since.refl w)
  refine wp_region_lit ?_
  refine wpList_wp (by rfl) (fun K hK => ?_)
  refine wp_new (fun b => .slice (some ⟨b, 0, none⟩) 16 16) 9 #[.string { data := #[104, 101, 108, 108, 111] }, .string { data := #[119, 101, 108, 99, 111, 109, 101] }, .string { data := #[114, 101, 113, 117, 101, 115, 116] }, .string { data := #[103, 114, 97, 110, 116] }, .string { data := #[113, 117, 101, 117, 101, 100] }, .string { data := #[98, 117, 115, 121] }, .string { data := #[100, 101, 110, 121] }, .string { data := #[97, 114, 114, 105, 118, 101, 100] }, .string { data := #[101, 110, 116, 101, 114, 101, 100] }, .string { data := #[114, 105, 100, 101, 111, 107] }, .string { data := #[114, 101, 106, 101, 99, 116] }, .string { data := #[101, 120, 105, 116] }, .string { data := #[101, 120, 105, 116, 101, 100] }, .string { data := #[101, 120, 105, 116, 111, 107] }, .string { data := #[114, 101, 110, 101, 119] }, .string { data := #[101, 118, 105, 99, 116] }] (by rintro b rfl; first | rfl | kernel_rfl) ?_
  intro bn6 w2 hge hB hb
  refine hK.out _ _ ?_
  clear hK K
  (try simp only [Act.put, sA, sB, sC])
  have HGn6 := Lib.hid (show w.heap.size ≤ bn6 by have := Since.size HS1.out; omega)
  have HS2 := Lib.hid (Since.trans HS1.out hb)
  clear HS1 
  clear hb hge
  have HBn62 := Lib.hid hB
  clear hB
  refine wpList_q (by rfl) (.slice (some ⟨bn6, 0, none⟩) 16 16) ?he ?_
  case he => (first | rfl | (go_simp; (try with_reducible rfl)))
  (try simp only [Act.put, sA, sB, sC])
  refine wpList_nil ?_
  go_upto_region 2 with fail
  refine wp_region_lit ?_
  refine wpList_q (by rfl) (.string { data := #[] }) ?he ?_
  case he => (first | rfl | (go_simp; (try with_reducible rfl)))
  (try simp only [Act.put, sA, sB, sC])
  refine wpList_nil ?_
  go_upto_region 3 with fail
  refine wp_region_lit ?_
  refine wpList_q (by rfl) (.int .i64 3) ?he ?_
  case he => (first | rfl | (go_simp; (try with_reducible rfl)))
  (try simp only [Act.put, sA, sB, sC])
  refine wpList_q (by rfl) (.bool true) ?he ?_
  case he => (go_simp; (try with_reducible rfl))
  (try simp only [Act.put, sA, sB, sC])
  refine wpList_q (by rfl) (.bool true) ?he ?_
  case he => (first | rfl | (go_simp; (try with_reducible rfl)))
  (try simp only [Act.put, sA, sB, sC])
  refine wpList_q (by rfl) (.int .i64 3) ?he ?_
  case he => (first | rfl | (go_simp; (try with_reducible rfl)))
  (try simp only [Act.put, sA, sB, sC])
  refine wpList_q (by rfl) (.bool true) ?he ?_
  case he => (go_simp; (try with_reducible rfl))
  (try simp only [Act.put, sA, sB, sC])
  refine wpList_q (by rfl) (.bool true) ?he ?_
  case he => (first | rfl | (go_simp; (try with_reducible rfl)))
  (try simp only [Act.put, sA, sB, sC])
  refine wpList_nil ?_
  go_upto_region 4 with fail
  refine wp_region_lit ?_
  refine wpList_q (by rfl) (.slice (some ⟨bn6, 0, none⟩) 16 16) ?he ?_
  case he => (first | rfl | (go_simp; (try with_reducible rfl)))
  (try simp only [Act.put, sA, sB, sC])
  refine wpList_q (by rfl) (.int .i64 3) ?he ?_
  case he => (first | rfl | (go_simp; (try with_reducible rfl)))
  (try simp only [Act.put, sA, sB, sC])
  refine wpList_q (by rfl) (.int .i64 2) ?he ?_
  case he => (first | rfl | kernel_rfl | (go_simp; (try with_reducible rfl)))
  (try simp only [Act.put, sA, sB, sC])
  refine wpList_q (by rfl) (.pointer (some ⟨bn6, 2, none⟩)) ?he ?_
  case he => (go_simp; (try with_reducible rfl))
  (try simp only [Act.put, sA, sB, sC])
  refine wpList_q (by rfl) (.string { data := #[114, 101, 113, 117, 101, 115, 116] }) ?he ?_
  case he => exact exec_cell 9 _ _ HBn62.out rfl rfl rfl Tryd.underlying9 rfl
  (try simp only [Act.put, sA, sB, sC])
  refine wpList_q (by rfl) (.string { data := #[114, 101, 113, 117, 101, 115, 116] }) ?he ?_
  case he => (first | rfl | (go_simp; (try with_reducible rfl)))
  (try simp only [Act.put, sA, sB, sC])
  refine wpList_nil ?_
  go_upto_region 5 with fail
  refine wp_region_lit ?_
  refine wpList_q (by rfl) (.int .i64 3) ?he ?_
  case he => (first | rfl | (go_simp; (try with_reducible rfl)))
  (try simp only [Act.put, sA, sB, sC])
  refine wpList_q (by rfl) (.bool false) ?he ?_
  case he => (go_simp; (try with_reducible rfl))
  (try simp only [Act.put, sA, sB, sC])
  refine wpList_q (by rfl) (.bool false) ?he ?_
  case he => (first | rfl | (go_simp; (try with_reducible rfl)))
  (try simp only [Act.put, sA, sB, sC])
  refine wpList_q (by rfl) (.int .i64 3) ?he ?_
  case he => (first | rfl | (go_simp; (try with_reducible rfl)))
  (try simp only [Act.put, sA, sB, sC])
  refine wpList_q (by rfl) (.bool true) ?he ?_
  case he => (go_simp; (try with_reducible rfl))
  (try simp only [Act.put, sA, sB, sC])
  refine wpList_q (by rfl) (.bool true) ?he ?_
  case he => (first | rfl | (go_simp; (try with_reducible rfl)))
  (try simp only [Act.put, sA, sB, sC])
  refine wpList_q (by rfl) (.bool true) ?he ?_
  case he => (first | rfl | (go_simp; (try with_reducible rfl)))
  (try simp only [Act.put, sA, sB, sC])
  refine wpList_no (by rfl) ?_
  (try simp only [Act.put, sA, sB, sC])
  refine wpList_no (by rfl) ?_
  (try simp only [Act.put, sA, sB, sC])
  refine wpList_q (by rfl) (.bool true) ?he ?_
  case he => (first | rfl | (go_simp; (try with_reducible rfl)))
  (try simp only [Act.put, sA, sB, sC])
  refine wpList_q (by rfl) (.bool true) ?he ?_
  case he => (first | rfl | (go_simp; (try with_reducible rfl)))
  (try simp only [Act.put, sA, sB, sC])
  refine wpList_no (by rfl) ?_
  (try simp only [Act.put, sA, sB, sC])
  refine wpList_no (by rfl) ?_
  (try simp only [Act.put, sA, sB, sC])
  refine wpList_q (by rfl) (.bool true) ?he ?_
  case he => (first | rfl | (go_simp; (try with_reducible rfl)))
  (try simp only [Act.put, sA, sB, sC])
  refine wpList_q (by rfl) (.bool true) ?he ?_
  case he => (first | rfl | (go_simp; (try with_reducible rfl)))
  (try simp only [Act.put, sA, sB, sC])
  refine wpList_no (by rfl) ?_
  (try simp only [Act.put, sA, sB, sC])
  refine wpList_no (by rfl) ?_
  (try simp only [Act.put, sA, sB, sC])
  refine wpList_q (by rfl) (.bool true) ?he ?_
  case he => (first | rfl | (go_simp; (try with_reducible rfl)))
  (try simp only [Act.put, sA, sB, sC])
  refine wpList_q (by rfl) (.bool true) ?he ?_
  case he => (first | rfl | (go_simp; (try with_reducible rfl)))
  (try simp only [Act.put, sA, sB, sC])
  refine wpList_nil ?_
  go_upto_region 6 with fail
  refine wp_region_lit ?_
  refine wpList_wp (by rfl) (fun K hK => ?_)
  (try go_simp)
  refine (ans _ (Nm.keep HS2.out HNM.out)).mono ?_
  rintro e w3 ⟨rfl, hb⟩
  (try go_wp2_with fail)
  refine hK.out _ _ ?_
  clear hK K
  (try simp only [Act.put, sA, sB, sC])
  have HS3 := Lib.hid (Since.trans HS2.out hb)
  have HBn63 := Lib.hid (keep_blk hb HBn62.out)
  clear HS2 HBn62
  clear hb
  refine wpList_q (by rfl) (.bool true) ?he ?_
  case he => (first | rfl | (go_simp; (try with_reducible rfl)))
  (try simp only [Act.put, sA, sB, sC])
  refine wpList_q (by rfl) (.int .i64 3) ?he ?_
  case he => (first | rfl | (go_simp; (try with_reducible rfl)))
  (try simp only [Act.put, sA, sB, sC])
  refine wpList_wp (by rfl) (fun K hK => ?_)
  (try go_simp)
  refine (nameV 3 ⟨#[114, 101, 113, 117, 101, 115, 116]⟩ _ (Nm.keep HS3.out HNM.out) rfl).mono ?_
  rintro e w' ⟨rfl, rfl⟩
  (try go_wp2_with fail)
  refine hK.out _ _ ?_
  clear hK K
  (try simp only [Act.put, sA, sB, sC])
  refine wpList_q (by rfl) (.string { data := #[114, 101, 113, 117, 101, 115, 116] }) ?he ?_
  case he => (first | rfl | (go_simp; (try with_reducible rfl)))
  (try simp only [Act.put, sA, sB, sC])
  refine wpList_q (by rfl) (.bool true) ?he ?_
  case he => (go_simp; (first | done | rfl))
  (try simp only [Act.put, sA, sB, sC])
  refine wpList_q (by rfl) (.bool true) ?he ?_
  case he => (first | rfl | (go_simp; (try with_reducible rfl)))
  (try simp only [Act.put, sA, sB, sC])
  refine wpList_q (by rfl) (.bool true) ?he ?_
  case he => (first | rfl | (go_simp; (try with_reducible rfl)))
  (try simp only [Act.put, sA, sB, sC])
  refine wpList_q (by rfl) (.int .i64 3) ?he ?_
  case he => (first | rfl | (go_simp; (try with_reducible rfl)))
  (try simp only [Act.put, sA, sB, sC])
  refine wpList_wp (by rfl) (fun K hK => ?_)
  (try go_simp)
  refine (robV 3 true _ (by decide)).mono ?_
  rintro e w' ⟨rfl, rfl⟩
  (try go_wp2_with fail)
  refine hK.out _ _ ?_
  clear hK K
  (try simp only [Act.put, sA, sB, sC])
  refine wpList_q (by rfl) (.bool true) ?he ?_
  case he => (first | rfl | (go_simp; (try with_reducible rfl)))
  (try simp only [Act.put, sA, sB, sC])
  refine wpList_q (by rfl) (.bool true) ?he ?_
  case he => (go_simp; (try with_reducible rfl))
  (try simp only [Act.put, sA, sB, sC])
  refine wpList_q (by rfl) (.bool true) ?he ?_
  case he => (first | rfl | (go_simp; (try with_reducible rfl)))
  (try simp only [Act.put, sA, sB, sC])
  refine wpList_q (by rfl) (.bool true) ?he ?_
  case he => (first | rfl | (go_simp; (try with_reducible rfl)))
  (try simp only [Act.put, sA, sB, sC])
  refine wpList_nil ?_
  (try go_wp2_with fail)
  go_ret
  exact ⟨rfl, HS3.out⟩
set_option maxHeartbeats 4000000 in
theorem names9 (w : World) (hn : Nm w) : Calls Tryd.prog 6 #[.int .i64 9] w fun e w' => e = .returned (.bool true) ∧ Since w w' := by
  have HNM := Lib.hid hn; clear hn
  go_enter Tryd.func6, Tryd.ntmps6
  go_upto_region 1 with fail
  have HS1 := Lib.hid (Since.refl w)
  refine wp_region_lit ?_
  refine wpList_wp (by rfl) (fun K hK => ?_)
  refine wp_new (fun b => .slice (some ⟨b, 0, none⟩) 16 16) 9 #[.string { data := #[104, 101, 108, 108, 111] }, .string { data := #[119, 101, 108, 99, 111, 109, 101] }, .string { data := #[114, 101, 113, 117, 101, 115, 116] }, .string { data := #[103, 114, 97, 110, 116] }, .string { data := #[113, 117, 101, 117, 101, 100] }, .string { data := #[98, 117, 115, 121] }, .string { data := #[100, 101, 110, 121] }, .string { data := #[97, 114, 114, 105, 118, 101, 100] }, .string { data := #[101, 110, 116, 101, 114, 101, 100] }, .string { data := #[114, 105, 100, 101, 111, 107] }, .string { data := #[114, 101, 106, 101, 99, 116] }, .string { data := #[101, 120, 105, 116] }, .string { data := #[101, 120, 105, 116, 101, 100] }, .string { data := #[101, 120, 105, 116, 111, 107] }, .string { data := #[114, 101, 110, 101, 119] }, .string { data := #[101, 118, 105, 99, 116] }] (by rintro b rfl; first | rfl | kernel_rfl) ?_
  intro bn6 w2 hge hB hb
  refine hK.out _ _ ?_
  clear hK K
  (try simp only [Act.put, sA, sB, sC])
  have HGn6 := Lib.hid (show w.heap.size ≤ bn6 by have := Since.size HS1.out; omega)
  have HS2 := Lib.hid (Since.trans HS1.out hb)
  clear HS1 
  clear hb hge
  have HBn62 := Lib.hid hB
  clear hB
  refine wpList_q (by rfl) (.slice (some ⟨bn6, 0, none⟩) 16 16) ?he ?_
  case he => (first | rfl | (go_simp; (try with_reducible rfl)))
  (try simp only [Act.put, sA, sB, sC])
  refine wpList_nil ?_
  go_upto_region 2 with fail
  refine wp_region_lit ?_
  refine wpList_q (by rfl) (.string { data := #[] }) ?he ?_
  case he => (first | rfl | (go_simp; (try with_reducible rfl)))
  (try simp only [Act.put, sA, sB, sC])
  refine wpList_nil ?_
  go_upto_region 3 with fail
  refine wp_region_lit ?_
  refine wpList_q (by rfl) (.int .i64 9) ?he ?_
  case he => (first | rfl | (go_simp; (try with_reducible rfl)))
  (try simp only [Act.put, sA, sB, sC])
  refine wpList_q (by rfl) (.bool true) ?he ?_
  case he => (go_simp; (try with_reducible rfl))
  (try simp only [Act.put, sA, sB, sC])
  refine wpList_q (by rfl) (.bool true) ?he ?_
  case he => (first | rfl | (go_simp; (try with_reducible rfl)))
  (try simp only [Act.put, sA, sB, sC])
  refine wpList_q (by rfl) (.int .i64 9) ?he ?_
  case he => (first | rfl | (go_simp; (try with_reducible rfl)))
  (try simp only [Act.put, sA, sB, sC])
  refine wpList_q (by rfl) (.bool true) ?he ?_
  case he => (go_simp; (try with_reducible rfl))
  (try simp only [Act.put, sA, sB, sC])
  refine wpList_q (by rfl) (.bool true) ?he ?_
  case he => (first | rfl | (go_simp; (try with_reducible rfl)))
  (try simp only [Act.put, sA, sB, sC])
  refine wpList_nil ?_
  go_upto_region 4 with fail
  refine wp_region_lit ?_
  refine wpList_q (by rfl) (.slice (some ⟨bn6, 0, none⟩) 16 16) ?he ?_
  case he => (first | rfl | (go_simp; (try with_reducible rfl)))
  (try simp only [Act.put, sA, sB, sC])
  refine wpList_q (by rfl) (.int .i64 9) ?he ?_
  case he => (first | rfl | (go_simp; (try with_reducible rfl)))
  (try simp only [Act.put, sA, sB, sC])
  refine wpList_q (by rfl) (.int .i64 8) ?he ?_
  case he => (first | rfl | kernel_rfl | (go_simp; (try with_reducible rfl)))
  (try simp only [Act.put, sA, sB, sC])
  refine wpList_q (by rfl) (.pointer (some ⟨bn6, 8, none⟩)) ?he ?_
  case he => (go_simp; (try with_reducible rfl))
  (try simp only [Act.put, sA, sB, sC])
  refine wpList_q (by rfl) (.string { data := #[101, 110, 116, 101, 114, 101, 100] }) ?he ?_
  case he => exact exec_cell 9 _ _ HBn62.out rfl rfl rfl Tryd.underlying9 rfl
  (try simp only [Act.put, sA, sB, sC])
  refine wpList_q (by rfl) (.string { data := #[101, 110, 116, 101, 114, 101, 100] }) ?he ?_
  case he => (first | rfl | (go_simp; (try with_reducible rfl)))
  (try simp only [Act.put, sA, sB, sC])
  refine wpList_nil ?_
  go_upto_region 5 with fail
  refine wp_region_lit ?_
  refine wpList_q (by rfl) (.int .i64 9) ?he ?_
  case he => (first | rfl | (go_simp; (try with_reducible rfl)))
  (try simp only [Act.put, sA, sB, sC])
  refine wpList_q (by rfl) (.bool false) ?he ?_
  case he => (go_simp; (try with_reducible rfl))
  (try simp only [Act.put, sA, sB, sC])
  refine wpList_q (by rfl) (.bool false) ?he ?_
  case he => (first | rfl | (go_simp; (try with_reducible rfl)))
  (try simp only [Act.put, sA, sB, sC])
  refine wpList_q (by rfl) (.int .i64 9) ?he ?_
  case he => (first | rfl | (go_simp; (try with_reducible rfl)))
  (try simp only [Act.put, sA, sB, sC])
  refine wpList_q (by rfl) (.bool false) ?he ?_
  case he => (go_simp; (try with_reducible rfl))
  (try simp only [Act.put, sA, sB, sC])
  refine wpList_q (by rfl) (.bool false) ?he ?_
  case he => (first | rfl | (go_simp; (try with_reducible rfl)))
  (try simp only [Act.put, sA, sB, sC])
  refine wpList_q (by rfl) (.bool false) ?he ?_
  case he => (first | rfl | (go_simp; (try with_reducible rfl)))
  (try simp only [Act.put, sA, sB, sC])
  refine wpList_q (by rfl) (.int .i64 9) ?he ?_
  case he => (first | rfl | (go_simp; (try with_reducible rfl)))
  (try simp only [Act.put, sA, sB, sC])
  refine wpList_q (by rfl) (.bool true) ?he ?_
  case he => (go_simp; (try with_reducible rfl))
  (try simp only [Act.put, sA, sB, sC])
  refine wpList_q (by rfl) (.bool true) ?he ?_
  case he => (first | rfl | (go_simp; (try with_reducible rfl)))
  (try simp only [Act.put, sA, sB, sC])
  refine wpList_q (by rfl) (.bool true) ?he ?_
  case he => (first | rfl | (go_simp; (try with_reducible rfl)))
  (try simp only [Act.put, sA, sB, sC])
  refine wpList_no (by rfl) ?_
  (try simp only [Act.put, sA, sB, sC])
  refine wpList_no (by rfl) ?_
  (try simp only [Act.put, sA, sB, sC])
  refine wpList_q (by rfl) (.bool true) ?he ?_
  case he => (first | rfl | (go_simp; (try with_reducible rfl)))
  (try simp only [Act.put, sA, sB, sC])
  refine wpList_q (by rfl) (.bool true) ?he ?_
  case he => (first | rfl | (go_simp; (try with_reducible rfl)))
  (try simp only [Act.put, sA, sB, sC])
  refine wpList_no (by rfl) ?_
  (try simp only [Act.put, sA, sB, sC])
  refine wpList_no (by rfl) ?_
  (try simp only [Act.put, sA, sB, sC])
  refine wpList_q (by rfl) (.bool true) ?he ?_
  case he => (first | rfl | (go_simp; (try with_reducible rfl)))
  (try simp only [Act.put, sA, sB, sC])
  refine wpList_q (by rfl) (.bool true) ?he ?_
  case he => (first | rfl | (go_simp; (try with_reducible rfl)))
  (try simp only [Act.put, sA, sB, sC])
  refine wpList_nil ?_
  go_upto_region 6 with fail
  refine wp_region_lit ?_
  refine wpList_wp (by rfl) (fun K hK => ?_)
  (try go_simp)
  refine (ans _ (Nm.keep HS2.out HNM.out)).mono ?_
  rintro e w3 ⟨rfl, hb⟩
  (try go_wp2_with fail)
  refine hK.out _ _ ?_
  clear hK K
  (try simp only [Act.put, sA, sB, sC])
  have HS3 := Lib.hid (Since.trans HS2.out hb)
  have HBn63 := Lib.hid (keep_blk hb HBn62.out)
  clear HS2 HBn62
  clear hb
  refine wpList_q (by rfl) (.bool true) ?he ?_
  case he => (first | rfl | (go_simp; (try with_reducible rfl)))
  (try simp only [Act.put, sA, sB, sC])
  refine wpList_q (by rfl) (.int .i64 9) ?he ?_
  case he => (first | rfl | (go_simp; (try with_reducible rfl)))
  (try simp only [Act.put, sA, sB, sC])
  refine wpList_wp (by rfl) (fun K hK => ?_)
  (try go_simp)
  refine (nameV 9 ⟨#[101, 110, 116, 101, 114, 101, 100]⟩ _ (Nm.keep HS3.out HNM.out) rfl).mono ?_
  rintro e w' ⟨rfl, rfl⟩
  (try go_wp2_with fail)
  refine hK.out _ _ ?_
  clear hK K
  (try simp only [Act.put, sA, sB, sC])
  refine wpList_q (by rfl) (.string { data := #[101, 110, 116, 101, 114, 101, 100] }) ?he ?_
  case he => (first | rfl | (go_simp; (try with_reducible rfl)))
  (try simp only [Act.put, sA, sB, sC])
  refine wpList_q (by rfl) (.bool true) ?he ?_
  case he => (go_simp; (first | done | rfl))
  (try simp only [Act.put, sA, sB, sC])
  refine wpList_q (by rfl) (.bool true) ?he ?_
  case he => (first | rfl | (go_simp; (try with_reducible rfl)))
  (try simp only [Act.put, sA, sB, sC])
  refine wpList_q (by rfl) (.bool true) ?he ?_
  case he => (first | rfl | (go_simp; (try with_reducible rfl)))
  (try simp only [Act.put, sA, sB, sC])
  refine wpList_q (by rfl) (.int .i64 9) ?he ?_
  case he => (first | rfl | (go_simp; (try with_reducible rfl)))
  (try simp only [Act.put, sA, sB, sC])
  refine wpList_wp (by rfl) (fun K hK => ?_)
  (try go_simp)
  refine (robV 9 true _ (by decide)).mono ?_
  rintro e w' ⟨rfl, rfl⟩
  (try go_wp2_with fail)
  refine hK.out _ _ ?_
  clear hK K
  (try simp only [Act.put, sA, sB, sC])
  refine wpList_q (by rfl) (.bool true) ?he ?_
  case he => (first | rfl | (go_simp; (try with_reducible rfl)))
  (try simp only [Act.put, sA, sB, sC])
  refine wpList_q (by rfl) (.bool true) ?he ?_
  case he => (go_simp; (try with_reducible rfl))
  (try simp only [Act.put, sA, sB, sC])
  refine wpList_q (by rfl) (.bool true) ?he ?_
  case he => (first | rfl | (go_simp; (try with_reducible rfl)))
  (try simp only [Act.put, sA, sB, sC])
  refine wpList_q (by rfl) (.bool true) ?he ?_
  case he => (first | rfl | (go_simp; (try with_reducible rfl)))
  (try simp only [Act.put, sA, sB, sC])
  refine wpList_nil ?_
  (try go_wp2_with fail)
  go_ret
  exact ⟨rfl, HS3.out⟩
set_option maxHeartbeats 4000000 in
theorem names13 (w : World) (hn : Nm w) : Calls Tryd.prog 6 #[.int .i64 13] w fun e w' => e = .returned (.bool true) ∧ Since w w' := by
  have HNM := Lib.hid hn; clear hn
  go_enter Tryd.func6, Tryd.ntmps6
  go_upto_region 1 with fail
  have HS1 := Lib.hid (Since.refl w)
  refine wp_region_lit ?_
  refine wpList_wp (by rfl) (fun K hK => ?_)
  refine wp_new (fun b => .slice (some ⟨b, 0, none⟩) 16 16) 9 #[.string { data := #[104, 101, 108, 108, 111] }, .string { data := #[119, 101, 108, 99, 111, 109, 101] }, .string { data := #[114, 101, 113, 117, 101, 115, 116] }, .string { data := #[103, 114, 97, 110, 116] }, .string { data := #[113, 117, 101, 117, 101, 100] }, .string { data := #[98, 117, 115, 121] }, .string { data := #[100, 101, 110, 121] }, .string { data := #[97, 114, 114, 105, 118, 101, 100] }, .string { data := #[101, 110, 116, 101, 114, 101, 100] }, .string { data := #[114, 105, 100, 101, 111, 107] }, .string { data := #[114, 101, 106, 101, 99, 116] }, .string { data := #[101, 120, 105, 116] }, .string { data := #[101, 120, 105, 116, 101, 100] }, .string { data := #[101, 120, 105, 116, 111, 107] }, .string { data := #[114, 101, 110, 101, 119] }, .string { data := #[101, 118, 105, 99, 116] }] (by rintro b rfl; first | rfl | kernel_rfl) ?_
  intro bn6 w2 hge hB hb
  refine hK.out _ _ ?_
  clear hK K
  (try simp only [Act.put, sA, sB, sC])
  have HGn6 := Lib.hid (show w.heap.size ≤ bn6 by have := Since.size HS1.out; omega)
  have HS2 := Lib.hid (Since.trans HS1.out hb)
  clear HS1 
  clear hb hge
  have HBn62 := Lib.hid hB
  clear hB
  refine wpList_q (by rfl) (.slice (some ⟨bn6, 0, none⟩) 16 16) ?he ?_
  case he => (first | rfl | (go_simp; (try with_reducible rfl)))
  (try simp only [Act.put, sA, sB, sC])
  refine wpList_nil ?_
  go_upto_region 2 with fail
  refine wp_region_lit ?_
  refine wpList_q (by rfl) (.string { data := #[] }) ?he ?_
  case he => (first | rfl | (go_simp; (try with_reducible rfl)))
  (try simp only [Act.put, sA, sB, sC])
  refine wpList_nil ?_
  go_upto_region 3 with fail
  refine wp_region_lit ?_
  refine wpList_q (by rfl) (.int .i64 13) ?he ?_
  case he => (first | rfl | (go_simp; (try with_reducible rfl)))
  (try simp only [Act.put, sA, sB, sC])
  refine wpList_q (by rfl) (.bool true) ?he ?_
  case he => (go_simp; (try with_reducible rfl))
  (try simp only [Act.put, sA, sB, sC])
  refine wpList_q (by rfl) (.bool true) ?he ?_
  case he => (first | rfl | (go_simp; (try with_reducible rfl)))
  (try simp only [Act.put, sA, sB, sC])
  refine wpList_q (by rfl) (.int .i64 13) ?he ?_
  case he => (first | rfl | (go_simp; (try with_reducible rfl)))
  (try simp only [Act.put, sA, sB, sC])
  refine wpList_q (by rfl) (.bool true) ?he ?_
  case he => (go_simp; (try with_reducible rfl))
  (try simp only [Act.put, sA, sB, sC])
  refine wpList_q (by rfl) (.bool true) ?he ?_
  case he => (first | rfl | (go_simp; (try with_reducible rfl)))
  (try simp only [Act.put, sA, sB, sC])
  refine wpList_nil ?_
  go_upto_region 4 with fail
  refine wp_region_lit ?_
  refine wpList_q (by rfl) (.slice (some ⟨bn6, 0, none⟩) 16 16) ?he ?_
  case he => (first | rfl | (go_simp; (try with_reducible rfl)))
  (try simp only [Act.put, sA, sB, sC])
  refine wpList_q (by rfl) (.int .i64 13) ?he ?_
  case he => (first | rfl | (go_simp; (try with_reducible rfl)))
  (try simp only [Act.put, sA, sB, sC])
  refine wpList_q (by rfl) (.int .i64 12) ?he ?_
  case he => (first | rfl | kernel_rfl | (go_simp; (try with_reducible rfl)))
  (try simp only [Act.put, sA, sB, sC])
  refine wpList_q (by rfl) (.pointer (some ⟨bn6, 12, none⟩)) ?he ?_
  case he => (go_simp; (try with_reducible rfl))
  (try simp only [Act.put, sA, sB, sC])
  refine wpList_q (by rfl) (.string { data := #[101, 120, 105, 116, 101, 100] }) ?he ?_
  case he => exact exec_cell 9 _ _ HBn62.out rfl rfl rfl Tryd.underlying9 rfl
  (try simp only [Act.put, sA, sB, sC])
  refine wpList_q (by rfl) (.string { data := #[101, 120, 105, 116, 101, 100] }) ?he ?_
  case he => (first | rfl | (go_simp; (try with_reducible rfl)))
  (try simp only [Act.put, sA, sB, sC])
  refine wpList_nil ?_
  go_upto_region 5 with fail
  refine wp_region_lit ?_
  refine wpList_q (by rfl) (.int .i64 13) ?he ?_
  case he => (first | rfl | (go_simp; (try with_reducible rfl)))
  (try simp only [Act.put, sA, sB, sC])
  refine wpList_q (by rfl) (.bool false) ?he ?_
  case he => (go_simp; (try with_reducible rfl))
  (try simp only [Act.put, sA, sB, sC])
  refine wpList_q (by rfl) (.bool false) ?he ?_
  case he => (first | rfl | (go_simp; (try with_reducible rfl)))
  (try simp only [Act.put, sA, sB, sC])
  refine wpList_q (by rfl) (.int .i64 13) ?he ?_
  case he => (first | rfl | (go_simp; (try with_reducible rfl)))
  (try simp only [Act.put, sA, sB, sC])
  refine wpList_q (by rfl) (.bool false) ?he ?_
  case he => (go_simp; (try with_reducible rfl))
  (try simp only [Act.put, sA, sB, sC])
  refine wpList_q (by rfl) (.bool false) ?he ?_
  case he => (first | rfl | (go_simp; (try with_reducible rfl)))
  (try simp only [Act.put, sA, sB, sC])
  refine wpList_q (by rfl) (.bool false) ?he ?_
  case he => (first | rfl | (go_simp; (try with_reducible rfl)))
  (try simp only [Act.put, sA, sB, sC])
  refine wpList_q (by rfl) (.int .i64 13) ?he ?_
  case he => (first | rfl | (go_simp; (try with_reducible rfl)))
  (try simp only [Act.put, sA, sB, sC])
  refine wpList_q (by rfl) (.bool false) ?he ?_
  case he => (go_simp; (try with_reducible rfl))
  (try simp only [Act.put, sA, sB, sC])
  refine wpList_q (by rfl) (.bool false) ?he ?_
  case he => (first | rfl | (go_simp; (try with_reducible rfl)))
  (try simp only [Act.put, sA, sB, sC])
  refine wpList_q (by rfl) (.bool false) ?he ?_
  case he => (first | rfl | (go_simp; (try with_reducible rfl)))
  (try simp only [Act.put, sA, sB, sC])
  refine wpList_q (by rfl) (.int .i64 13) ?he ?_
  case he => (first | rfl | (go_simp; (try with_reducible rfl)))
  (try simp only [Act.put, sA, sB, sC])
  refine wpList_q (by rfl) (.bool true) ?he ?_
  case he => (go_simp; (try with_reducible rfl))
  (try simp only [Act.put, sA, sB, sC])
  refine wpList_q (by rfl) (.bool true) ?he ?_
  case he => (first | rfl | (go_simp; (try with_reducible rfl)))
  (try simp only [Act.put, sA, sB, sC])
  refine wpList_q (by rfl) (.bool true) ?he ?_
  case he => (first | rfl | (go_simp; (try with_reducible rfl)))
  (try simp only [Act.put, sA, sB, sC])
  refine wpList_no (by rfl) ?_
  (try simp only [Act.put, sA, sB, sC])
  refine wpList_no (by rfl) ?_
  (try simp only [Act.put, sA, sB, sC])
  refine wpList_q (by rfl) (.bool true) ?he ?_
  case he => (first | rfl | (go_simp; (try with_reducible rfl)))
  (try simp only [Act.put, sA, sB, sC])
  refine wpList_q (by rfl) (.bool true) ?he ?_
  case he => (first | rfl | (go_simp; (try with_reducible rfl)))
  (try simp only [Act.put, sA, sB, sC])
  refine wpList_nil ?_
  go_upto_region 6 with fail
  refine wp_region_lit ?_
  refine wpList_wp (by rfl) (fun K hK => ?_)
  (try go_simp)
  refine (ans _ (Nm.keep HS2.out HNM.out)).mono ?_
  rintro e w3 ⟨rfl, hb⟩
  (try go_wp2_with fail)
  refine hK.out _ _ ?_
  clear hK K
  (try simp only [Act.put, sA, sB, sC])
  have HS3 := Lib.hid (Since.trans HS2.out hb)
  have HBn63 := Lib.hid (keep_blk hb HBn62.out)
  clear HS2 HBn62
  clear hb
  refine wpList_q (by rfl) (.bool true) ?he ?_
  case he => (first | rfl | (go_simp; (try with_reducible rfl)))
  (try simp only [Act.put, sA, sB, sC])
  refine wpList_q (by rfl) (.int .i64 13) ?he ?_
  case he => (first | rfl | (go_simp; (try with_reducible rfl)))
  (try simp only [Act.put, sA, sB, sC])
  refine wpList_wp (by rfl) (fun K hK => ?_)
  (try go_simp)
  refine (nameV 13 ⟨#[101, 120, 105, 116, 101, 100]⟩ _ (Nm.keep HS3.out HNM.out) rfl).mono ?_
  rintro e w' ⟨rfl, rfl⟩
  (try go_wp2_with fail)
  refine hK.out _ _ ?_
  clear hK K
  (try simp only [Act.put, sA, sB, sC])
  refine wpList_q (by rfl) (.string { data := #[101, 120, 105, 116, 101, 100] }) ?he ?_
  case he => (first | rfl | (go_simp; (try with_reducible rfl)))
  (try simp only [Act.put, sA, sB, sC])
  refine wpList_q (by rfl) (.bool true) ?he ?_
  case he => (go_simp; (first | done | rfl))
  (try simp only [Act.put, sA, sB, sC])
  refine wpList_q (by rfl) (.bool true) ?he ?_
  case he => (first | rfl | (go_simp; (try with_reducible rfl)))
  (try simp only [Act.put, sA, sB, sC])
  refine wpList_q (by rfl) (.bool true) ?he ?_
  case he => (first | rfl | (go_simp; (try with_reducible rfl)))
  (try simp only [Act.put, sA, sB, sC])
  refine wpList_q (by rfl) (.int .i64 13) ?he ?_
  case he => (first | rfl | (go_simp; (try with_reducible rfl)))
  (try simp only [Act.put, sA, sB, sC])
  refine wpList_wp (by rfl) (fun K hK => ?_)
  (try go_simp)
  refine (robV 13 true _ (by decide)).mono ?_
  rintro e w' ⟨rfl, rfl⟩
  (try go_wp2_with fail)
  refine hK.out _ _ ?_
  clear hK K
  (try simp only [Act.put, sA, sB, sC])
  refine wpList_q (by rfl) (.bool true) ?he ?_
  case he => (first | rfl | (go_simp; (try with_reducible rfl)))
  (try simp only [Act.put, sA, sB, sC])
  refine wpList_q (by rfl) (.bool true) ?he ?_
  case he => (go_simp; (try with_reducible rfl))
  (try simp only [Act.put, sA, sB, sC])
  refine wpList_q (by rfl) (.bool true) ?he ?_
  case he => (first | rfl | (go_simp; (try with_reducible rfl)))
  (try simp only [Act.put, sA, sB, sC])
  refine wpList_q (by rfl) (.bool true) ?he ?_
  case he => (first | rfl | (go_simp; (try with_reducible rfl)))
  (try simp only [Act.put, sA, sB, sC])
  refine wpList_nil ?_
  (try go_wp2_with fail)
  go_ret
  exact ⟨rfl, HS3.out⟩
set_option maxHeartbeats 4000000 in
theorem names15 (w : World) (hn : Nm w) : Calls Tryd.prog 6 #[.int .i64 15] w fun e w' => e = .returned (.bool true) ∧ Since w w' := by
  have HNM := Lib.hid hn; clear hn
  go_enter Tryd.func6, Tryd.ntmps6
  go_upto_region 1 with fail
  have HS1 := Lib.hid (Since.refl w)
  refine wp_region_lit ?_
  refine wpList_wp (by rfl) (fun K hK => ?_)
  refine wp_new (fun b => .slice (some ⟨b, 0, none⟩) 16 16) 9 #[.string { data := #[104, 101, 108, 108, 111] }, .string { data := #[119, 101, 108, 99, 111, 109, 101] }, .string { data := #[114, 101, 113, 117, 101, 115, 116] }, .string { data := #[103, 114, 97, 110, 116] }, .string { data := #[113, 117, 101, 117, 101, 100] }, .string { data := #[98, 117, 115, 121] }, .string { data := #[100, 101, 110, 121] }, .string { data := #[97, 114, 114, 105, 118, 101, 100] }, .string { data := #[101, 110, 116, 101, 114, 101, 100] }, .string { data := #[114, 105, 100, 101, 111, 107] }, .string { data := #[114, 101, 106, 101, 99, 116] }, .string { data := #[101, 120, 105, 116] }, .string { data := #[101, 120, 105, 116, 101, 100] }, .string { data := #[101, 120, 105, 116, 111, 107] }, .string { data := #[114, 101, 110, 101, 119] }, .string { data := #[101, 118, 105, 99, 116] }] (by rintro b rfl; first | rfl | kernel_rfl) ?_
  intro bn6 w2 hge hB hb
  refine hK.out _ _ ?_
  clear hK K
  (try simp only [Act.put, sA, sB, sC])
  have HGn6 := Lib.hid (show w.heap.size ≤ bn6 by have := Since.size HS1.out; omega)
  have HS2 := Lib.hid (Since.trans HS1.out hb)
  clear HS1 
  clear hb hge
  have HBn62 := Lib.hid hB
  clear hB
  refine wpList_q (by rfl) (.slice (some ⟨bn6, 0, none⟩) 16 16) ?he ?_
  case he => (first | rfl | (go_simp; (try with_reducible rfl)))
  (try simp only [Act.put, sA, sB, sC])
  refine wpList_nil ?_
  go_upto_region 2 with fail
  refine wp_region_lit ?_
  refine wpList_q (by rfl) (.string { data := #[] }) ?he ?_
  case he => (first | rfl | (go_simp; (try with_reducible rfl)))
  (try simp only [Act.put, sA, sB, sC])
  refine wpList_nil ?_
  go_upto_region 3 with fail
  refine wp_region_lit ?_
  refine wpList_q (by rfl) (.int .i64 15) ?he ?_
  case he => (first | rfl | (go_simp; (try with_reducible rfl)))
  (try simp only [Act.put, sA, sB, sC])
  refine wpList_q (by rfl) (.bool true) ?he ?_
  case he => (go_simp; (try with_reducible rfl))
  (try simp only [Act.put, sA, sB, sC])
  refine wpList_q (by rfl) (.bool true) ?he ?_
  case he => (first | rfl | (go_simp; (try with_reducible rfl)))
  (try simp only [Act.put, sA, sB, sC])
  refine wpList_q (by rfl) (.int .i64 15) ?he ?_
  case he => (first | rfl | (go_simp; (try with_reducible rfl)))
  (try simp only [Act.put, sA, sB, sC])
  refine wpList_q (by rfl) (.bool true) ?he ?_
  case he => (go_simp; (try with_reducible rfl))
  (try simp only [Act.put, sA, sB, sC])
  refine wpList_q (by rfl) (.bool true) ?he ?_
  case he => (first | rfl | (go_simp; (try with_reducible rfl)))
  (try simp only [Act.put, sA, sB, sC])
  refine wpList_nil ?_
  go_upto_region 4 with fail
  refine wp_region_lit ?_
  refine wpList_q (by rfl) (.slice (some ⟨bn6, 0, none⟩) 16 16) ?he ?_
  case he => (first | rfl | (go_simp; (try with_reducible rfl)))
  (try simp only [Act.put, sA, sB, sC])
  refine wpList_q (by rfl) (.int .i64 15) ?he ?_
  case he => (first | rfl | (go_simp; (try with_reducible rfl)))
  (try simp only [Act.put, sA, sB, sC])
  refine wpList_q (by rfl) (.int .i64 14) ?he ?_
  case he => (first | rfl | kernel_rfl | (go_simp; (try with_reducible rfl)))
  (try simp only [Act.put, sA, sB, sC])
  refine wpList_q (by rfl) (.pointer (some ⟨bn6, 14, none⟩)) ?he ?_
  case he => (go_simp; (try with_reducible rfl))
  (try simp only [Act.put, sA, sB, sC])
  refine wpList_q (by rfl) (.string { data := #[114, 101, 110, 101, 119] }) ?he ?_
  case he => exact exec_cell 9 _ _ HBn62.out rfl rfl rfl Tryd.underlying9 rfl
  (try simp only [Act.put, sA, sB, sC])
  refine wpList_q (by rfl) (.string { data := #[114, 101, 110, 101, 119] }) ?he ?_
  case he => (first | rfl | (go_simp; (try with_reducible rfl)))
  (try simp only [Act.put, sA, sB, sC])
  refine wpList_nil ?_
  go_upto_region 5 with fail
  refine wp_region_lit ?_
  refine wpList_q (by rfl) (.int .i64 15) ?he ?_
  case he => (first | rfl | (go_simp; (try with_reducible rfl)))
  (try simp only [Act.put, sA, sB, sC])
  refine wpList_q (by rfl) (.bool false) ?he ?_
  case he => (go_simp; (try with_reducible rfl))
  (try simp only [Act.put, sA, sB, sC])
  refine wpList_q (by rfl) (.bool false) ?he ?_
  case he => (first | rfl | (go_simp; (try with_reducible rfl)))
  (try simp only [Act.put, sA, sB, sC])
  refine wpList_q (by rfl) (.int .i64 15) ?he ?_
  case he => (first | rfl | (go_simp; (try with_reducible rfl)))
  (try simp only [Act.put, sA, sB, sC])
  refine wpList_q (by rfl) (.bool false) ?he ?_
  case he => (go_simp; (try with_reducible rfl))
  (try simp only [Act.put, sA, sB, sC])
  refine wpList_q (by rfl) (.bool false) ?he ?_
  case he => (first | rfl | (go_simp; (try with_reducible rfl)))
  (try simp only [Act.put, sA, sB, sC])
  refine wpList_q (by rfl) (.bool false) ?he ?_
  case he => (first | rfl | (go_simp; (try with_reducible rfl)))
  (try simp only [Act.put, sA, sB, sC])
  refine wpList_q (by rfl) (.int .i64 15) ?he ?_
  case he => (first | rfl | (go_simp; (try with_reducible rfl)))
  (try simp only [Act.put, sA, sB, sC])
  refine wpList_q (by rfl) (.bool false) ?he ?_
  case he => (go_simp; (try with_reducible rfl))
  (try simp only [Act.put, sA, sB, sC])
  refine wpList_q (by rfl) (.bool false) ?he ?_
  case he => (first | rfl | (go_simp; (try with_reducible rfl)))
  (try simp only [Act.put, sA, sB, sC])
  refine wpList_q (by rfl) (.bool false) ?he ?_
  case he => (first | rfl | (go_simp; (try with_reducible rfl)))
  (try simp only [Act.put, sA, sB, sC])
  refine wpList_q (by rfl) (.int .i64 15) ?he ?_
  case he => (first | rfl | (go_simp; (try with_reducible rfl)))
  (try simp only [Act.put, sA, sB, sC])
  refine wpList_q (by rfl) (.bool false) ?he ?_
  case he => (go_simp; (try with_reducible rfl))
  (try simp only [Act.put, sA, sB, sC])
  refine wpList_q (by rfl) (.bool false) ?he ?_
  case he => (first | rfl | (go_simp; (try with_reducible rfl)))
  (try simp only [Act.put, sA, sB, sC])
  refine wpList_q (by rfl) (.bool false) ?he ?_
  case he => (first | rfl | (go_simp; (try with_reducible rfl)))
  (try simp only [Act.put, sA, sB, sC])
  refine wpList_q (by rfl) (.int .i64 15) ?he ?_
  case he => (first | rfl | (go_simp; (try with_reducible rfl)))
  (try simp only [Act.put, sA, sB, sC])
  refine wpList_q (by rfl) (.bool true) ?he ?_
  case he => (go_simp; (try with_reducible rfl))
  (try simp only [Act.put, sA, sB, sC])
  refine wpList_q (by rfl) (.bool true) ?he ?_
  case he => (first | rfl | (go_simp; (try with_reducible rfl)))
  (try simp only [Act.put, sA, sB, sC])
  refine wpList_q (by rfl) (.bool true) ?he ?_
  case he => (first | rfl | (go_simp; (try with_reducible rfl)))
  (try simp only [Act.put, sA, sB, sC])
  refine wpList_nil ?_
  go_upto_region 6 with fail
  refine wp_region_lit ?_
  refine wpList_wp (by rfl) (fun K hK => ?_)
  (try go_simp)
  refine (ans _ (Nm.keep HS2.out HNM.out)).mono ?_
  rintro e w3 ⟨rfl, hb⟩
  (try go_wp2_with fail)
  refine hK.out _ _ ?_
  clear hK K
  (try simp only [Act.put, sA, sB, sC])
  have HS3 := Lib.hid (Since.trans HS2.out hb)
  have HBn63 := Lib.hid (keep_blk hb HBn62.out)
  clear HS2 HBn62
  clear hb
  refine wpList_q (by rfl) (.bool true) ?he ?_
  case he => (first | rfl | (go_simp; (try with_reducible rfl)))
  (try simp only [Act.put, sA, sB, sC])
  refine wpList_q (by rfl) (.int .i64 15) ?he ?_
  case he => (first | rfl | (go_simp; (try with_reducible rfl)))
  (try simp only [Act.put, sA, sB, sC])
  refine wpList_wp (by rfl) (fun K hK => ?_)
  (try go_simp)
  refine (nameV 15 ⟨#[114, 101, 110, 101, 119]⟩ _ (Nm.keep HS3.out HNM.out) rfl).mono ?_
  rintro e w' ⟨rfl, rfl⟩
  (try go_wp2_with fail)
  refine hK.out _ _ ?_
  clear hK K
  (try simp only [Act.put, sA, sB, sC])
  refine wpList_q (by rfl) (.string { data := #[114, 101, 110, 101, 119] }) ?he ?_
  case he => (first | rfl | (go_simp; (try with_reducible rfl)))
  (try simp only [Act.put, sA, sB, sC])
  refine wpList_q (by rfl) (.bool true) ?he ?_
  case he => (go_simp; (first | done | rfl))
  (try simp only [Act.put, sA, sB, sC])
  refine wpList_q (by rfl) (.bool true) ?he ?_
  case he => (first | rfl | (go_simp; (try with_reducible rfl)))
  (try simp only [Act.put, sA, sB, sC])
  refine wpList_q (by rfl) (.bool true) ?he ?_
  case he => (first | rfl | (go_simp; (try with_reducible rfl)))
  (try simp only [Act.put, sA, sB, sC])
  refine wpList_q (by rfl) (.int .i64 15) ?he ?_
  case he => (first | rfl | (go_simp; (try with_reducible rfl)))
  (try simp only [Act.put, sA, sB, sC])
  refine wpList_wp (by rfl) (fun K hK => ?_)
  (try go_simp)
  refine (robV 15 true _ (by decide)).mono ?_
  rintro e w' ⟨rfl, rfl⟩
  (try go_wp2_with fail)
  refine hK.out _ _ ?_
  clear hK K
  (try simp only [Act.put, sA, sB, sC])
  refine wpList_q (by rfl) (.bool true) ?he ?_
  case he => (first | rfl | (go_simp; (try with_reducible rfl)))
  (try simp only [Act.put, sA, sB, sC])
  refine wpList_q (by rfl) (.bool true) ?he ?_
  case he => (go_simp; (try with_reducible rfl))
  (try simp only [Act.put, sA, sB, sC])
  refine wpList_q (by rfl) (.bool true) ?he ?_
  case he => (first | rfl | (go_simp; (try with_reducible rfl)))
  (try simp only [Act.put, sA, sB, sC])
  refine wpList_q (by rfl) (.bool true) ?he ?_
  case he => (first | rfl | (go_simp; (try with_reducible rfl)))
  (try simp only [Act.put, sA, sB, sC])
  refine wpList_nil ?_
  (try go_wp2_with fail)
  go_ret
  exact ⟨rfl, HS3.out⟩
theorem words_at : ∀ k : Nat, k < 16 → (#[.string ⟨#[104, 101, 108, 108, 111]⟩, .string ⟨#[119, 101, 108, 99, 111, 109, 101]⟩, .string ⟨#[114, 101, 113, 117, 101, 115, 116]⟩, .string ⟨#[103, 114, 97, 110, 116]⟩, .string ⟨#[113, 117, 101, 117, 101, 100]⟩, .string ⟨#[98, 117, 115, 121]⟩, .string ⟨#[100, 101, 110, 121]⟩, .string ⟨#[97, 114, 114, 105, 118, 101, 100]⟩, .string ⟨#[101, 110, 116, 101, 114, 101, 100]⟩, .string ⟨#[114, 105, 100, 101, 111, 107]⟩, .string ⟨#[114, 101, 106, 101, 99, 116]⟩, .string ⟨#[101, 120, 105, 116]⟩, .string ⟨#[101, 120, 105, 116, 101, 100]⟩, .string ⟨#[101, 120, 105, 116, 111, 107]⟩, .string ⟨#[114, 101, 110, 101, 119]⟩, .string ⟨#[101, 118, 105, 99, 116]⟩] : Array Value)[k]? = some (.string (nmS ((k : Int) + 1))) := by
  intro k hk
  have h : k = 0 ∨ k = 1 ∨ k = 2 ∨ k = 3 ∨ k = 4 ∨ k = 5 ∨ k = 6 ∨ k = 7 ∨ k = 8 ∨ k = 9 ∨ k = 10 ∨ k = 11 ∨ k = 12 ∨ k = 13 ∨ k = 14 ∨ k = 15 := by omega
  rcases h with rfl | rfl | rfl | rfl | rfl | rfl | rfl | rfl | rfl | rfl | rfl | rfl | rfl | rfl | rfl | rfl
  all_goals rfl
set_option maxHeartbeats 4000000 in
theorem namesK (k : Nat) (w : World) (hn : Nm w) (hk : k < 16) (ho : ((k : Int) + 1) ≠ 1 ∧ ((k : Int) + 1) ≠ 3 ∧ ((k : Int) + 1) ≠ 9 ∧ ((k : Int) + 1) ≠ 13 ∧ ((k : Int) + 1) ≠ 15) (hr : robB ((k : Int) + 1) = false) : Calls Tryd.prog 6 #[.int .i64 ((k : Int) + 1)] w fun e w' => e = .returned (.bool true) ∧ Since w w' := by
  have HNM := Lib.hid hn; clear hn
  have HK := Lib.hid hk; clear hk
  have HO := Lib.hid ho; clear ho
  have HR := Lib.hid hr; clear hr
  go_enter Tryd.func6, Tryd.ntmps6
  go_upto_region 1 with fail
  have HS1 := Lib.hid (Since.refl w)
  refine wp_region_lit ?_
  refine wpList_wp (by rfl) (fun K hK => ?_)
  refine wp_new (fun b => .slice (some ⟨b, 0, none⟩) 16 16) 9 #[.string { data := #[104, 101, 108, 108, 111] }, .string { data := #[119, 101, 108, 99, 111, 109, 101] }, .string { data := #[114, 101, 113, 117, 101, 115, 116] }, .string { data := #[103, 114, 97, 110, 116] }, .string { data := #[113, 117, 101, 117, 101, 100] }, .string { data := #[98, 117, 115, 121] }, .string { data := #[100, 101, 110, 121] }, .string { data := #[97, 114, 114, 105, 118, 101, 100] }, .string { data := #[101, 110, 116, 101, 114, 101, 100] }, .string { data := #[114, 105, 100, 101, 111, 107] }, .string { data := #[114, 101, 106, 101, 99, 116] }, .string { data := #[101, 120, 105, 116] }, .string { data := #[101, 120, 105, 116, 101, 100] }, .string { data := #[101, 120, 105, 116, 111, 107] }, .string { data := #[114, 101, 110, 101, 119] }, .string { data := #[101, 118, 105, 99, 116] }] (by rintro b rfl; first | rfl | kernel_rfl) ?_
  intro bn6 w2 hge hB hb
  refine hK.out _ _ ?_
  clear hK K
  (try simp only [Act.put, sA, sB, sC])
  have HGn6 := Lib.hid (show w.heap.size ≤ bn6 by have := Since.size HS1.out; omega)
  have HS2 := Lib.hid (Since.trans HS1.out hb)
  clear HS1 
  clear hb hge
  have HBn62 := Lib.hid hB
  clear hB
  refine wpList_q (by rfl) (.slice (some ⟨bn6, 0, none⟩) 16 16) ?he ?_
  case he => (first | rfl | (go_simp; (try with_reducible rfl)))
  (try simp only [Act.put, sA, sB, sC])
  refine wpList_nil ?_
  go_upto_region 2 with fail
  refine wp_region_lit ?_
  refine wpList_q (by rfl) (.string { data := #[] }) ?he ?_
  case he => (first | rfl | (go_simp; (try with_reducible rfl)))
  (try simp only [Act.put, sA, sB, sC])
  refine wpList_nil ?_
  go_upto_region 3 with fail
  refine wp_region_lit ?_
  refine wpList_q (by rfl) (.int .i64 ((k : Int) + 1)) ?he ?_
  case he => (first | rfl | (go_simp; (try with_reducible rfl)))
  (try simp only [Act.put, sA, sB, sC])
  refine wpList_q (by rfl) (.bool true) ?he ?_
  case he => (go_simp; (first | done | (have q := HK.out; omega)))
  (try simp only [Act.put, sA, sB, sC])
  refine wpList_q (by rfl) (.bool true) ?he ?_
  case he => (first | rfl | (go_simp; (try with_reducible rfl)))
  (try simp only [Act.put, sA, sB, sC])
  refine wpList_q (by rfl) (.int .i64 ((k : Int) + 1)) ?he ?_
  case he => (first | rfl | (go_simp; (try with_reducible rfl)))
  (try simp only [Act.put, sA, sB, sC])
  refine wpList_q (by rfl) (.bool true) ?he ?_
  case he => (go_simp; (first | done | (have q := HK.out; omega)))
  (try simp only [Act.put, sA, sB, sC])
  refine wpList_q (by rfl) (.bool true) ?he ?_
  case he => (first | rfl | (go_simp; (try with_reducible rfl)))
  (try simp only [Act.put, sA, sB, sC])
  refine wpList_nil ?_
  go_upto_region 4 with fail
  refine wp_region_lit ?_
  refine wpList_q (by rfl) (.slice (some ⟨bn6, 0, none⟩) 16 16) ?he ?_
  case he => (first | rfl | (go_simp; (try with_reducible rfl)))
  (try simp only [Act.put, sA, sB, sC])
  refine wpList_q (by rfl) (.int .i64 ((k : Int) + 1)) ?he ?_
  case he => (first | rfl | (go_simp; (try with_reducible rfl)))
  (try simp only [Act.put, sA, sB, sC])
  refine wpList_q (by rfl) (.int .i64 (k : Int)) ?he ?_
  case he => (have q := HK.out; go_simp; (first | done | exact wr64 _ (by omega) (by omega) | (rw [wr64 _ (by omega) (by omega)]; omega) | omega))
  (try simp only [Act.put, sA, sB, sC])
  refine wpList_q (by rfl) (.pointer (some ⟨bn6, k, none⟩)) ?he ?_
  case he => (have q := HK.out; go_simp; (first | done | omega | (rw [if_pos (by omega)]; simp)))
  (try simp only [Act.put, sA, sB, sC])
  refine wpList_q (by rfl) (.string (nmS ((k : Int) + 1))) ?he ?_
  case he => exact exec_cell 9 _ _ HBn62.out (words_at k HK.out) rfl rfl Tryd.underlying9 rfl
  (try simp only [Act.put, sA, sB, sC])
  refine wpList_q (by rfl) (.string (nmS ((k : Int) + 1))) ?he ?_
  case he => (first | rfl | (go_simp; (try with_reducible rfl)))
  (try simp only [Act.put, sA, sB, sC])
  refine wpList_nil ?_
  go_upto_region 5 with fail
  refine wp_region_lit ?_
  refine wpList_q (by rfl) (.int .i64 ((k : Int) + 1)) ?he ?_
  case he => (first | rfl | (go_simp; (try with_reducible rfl)))
  (try simp only [Act.put, sA, sB, sC])
  refine wpList_q (by rfl) (.bool false) ?he ?_
  case he => (go_simp; (first | done | (have q := HO.out; omega)))
  (try simp only [Act.put, sA, sB, sC])
  refine wpList_q (by rfl) (.bool false) ?he ?_
  case he => (first | rfl | (go_simp; (try with_reducible rfl)))
  (try simp only [Act.put, sA, sB, sC])
  refine wpList_q (by rfl) (.int .i64 ((k : Int) + 1)) ?he ?_
  case he => (first | rfl | (go_simp; (try with_reducible rfl)))
  (try simp only [Act.put, sA, sB, sC])
  refine wpList_q (by rfl) (.bool false) ?he ?_
  case he => (go_simp; (first | done | (have q := HO.out; omega)))
  (try simp only [Act.put, sA, sB, sC])
  refine wpList_q (by rfl) (.bool false) ?he ?_
  case he => (first | rfl | (go_simp; (try with_reducible rfl)))
  (try simp only [Act.put, sA, sB, sC])
  refine wpList_q (by rfl) (.bool false) ?he ?_
  case he => (first | rfl | (go_simp; (try with_reducible rfl)))
  (try simp only [Act.put, sA, sB, sC])
  refine wpList_q (by rfl) (.int .i64 ((k : Int) + 1)) ?he ?_
  case he => (first | rfl | (go_simp; (try with_reducible rfl)))
  (try simp only [Act.put, sA, sB, sC])
  refine wpList_q (by rfl) (.bool false) ?he ?_
  case he => (go_simp; (first | done | (have q := HO.out; omega)))
  (try simp only [Act.put, sA, sB, sC])
  refine wpList_q (by rfl) (.bool false) ?he ?_
  case he => (first | rfl | (go_simp; (try with_reducible rfl)))
  (try simp only [Act.put, sA, sB, sC])
  refine wpList_q (by rfl) (.bool false) ?he ?_
  case he => (first | rfl | (go_simp; (try with_reducible rfl)))
  (try simp only [Act.put, sA, sB, sC])
  refine wpList_q (by rfl) (.int .i64 ((k : Int) + 1)) ?he ?_
  case he => (first | rfl | (go_simp; (try with_reducible rfl)))
  (try simp only [Act.put, sA, sB, sC])
  refine wpList_q (by rfl) (.bool false) ?he ?_
  case he => (go_simp; (first | done | (have q := HO.out; omega)))
  (try simp only [Act.put, sA, sB, sC])
  refine wpList_q (by rfl) (.bool false) ?he ?_
  case he => (first | rfl | (go_simp; (try with_reducible rfl)))
  (try simp only [Act.put, sA, sB, sC])
  refine wpList_q (by rfl) (.bool false) ?he ?_
  case he => (first | rfl | (go_simp; (try with_reducible rfl)))
  (try simp only [Act.put, sA, sB, sC])
  refine wpList_q (by rfl) (.int .i64 ((k : Int) + 1)) ?he ?_
  case he => (first | rfl | (go_simp; (try with_reducible rfl)))
  (try simp only [Act.put, sA, sB, sC])
  refine wpList_q (by rfl) (.bool false) ?he ?_
  case he => (go_simp; (first | done | (have q := HO.out; omega)))
  (try simp only [Act.put, sA, sB, sC])
  refine wpList_q (by rfl) (.bool false) ?he ?_
  case he => (first | rfl | (go_simp; (try with_reducible rfl)))
  (try simp only [Act.put, sA, sB, sC])
  refine wpList_q (by rfl) (.bool false) ?he ?_
  case he => (first | rfl | (go_simp; (try with_reducible rfl)))
  (try simp only [Act.put, sA, sB, sC])
  refine wpList_nil ?_
  go_upto_region 6 with fail
  refine wp_region_lit ?_
  refine wpList_wp (by rfl) (fun K hK => ?_)
  (try go_simp)
  refine (ans _ (Nm.keep HS2.out HNM.out)).mono ?_
  rintro e w3 ⟨rfl, hb⟩
  (try go_wp2_with fail)
  refine hK.out _ _ ?_
  clear hK K
  (try simp only [Act.put, sA, sB, sC])
  have HS3 := Lib.hid (Since.trans HS2.out hb)
  have HBn63 := Lib.hid (keep_blk hb HBn62.out)
  clear HS2 HBn62
  clear hb
  refine wpList_q (by rfl) (.bool true) ?he ?_
  case he => (first | rfl | (go_simp; (try with_reducible rfl)))
  (try simp only [Act.put, sA, sB, sC])
  refine wpList_q (by rfl) (.int .i64 ((k : Int) + 1)) ?he ?_
  case he => (first | rfl | (go_simp; (try with_reducible rfl)))
  (try simp only [Act.put, sA, sB, sC])
  refine wpList_wp (by rfl) (fun K hK => ?_)
  (try go_simp)
  refine (nameT ((k : Int) + 1) _ (Nm.keep HS3.out HNM.out)).mono ?_
  rintro e w' ⟨rfl, rfl⟩
  (try go_wp2_with fail)
  refine hK.out _ _ ?_
  clear hK K
  (try simp only [Act.put, sA, sB, sC])
  refine wpList_q (by rfl) (.string (nmS ((k : Int) + 1))) ?he ?_
  case he => (first | rfl | (go_simp; (try with_reducible rfl)))
  (try simp only [Act.put, sA, sB, sC])
  refine wpList_q (by rfl) (.bool true) ?he ?_
  case he => (go_simp; (first | done | rfl))
  (try simp only [Act.put, sA, sB, sC])
  refine wpList_q (by rfl) (.bool true) ?he ?_
  case he => (first | rfl | (go_simp; (try with_reducible rfl)))
  (try simp only [Act.put, sA, sB, sC])
  refine wpList_q (by rfl) (.bool true) ?he ?_
  case he => (first | rfl | (go_simp; (try with_reducible rfl)))
  (try simp only [Act.put, sA, sB, sC])
  refine wpList_q (by rfl) (.int .i64 ((k : Int) + 1)) ?he ?_
  case he => (first | rfl | (go_simp; (try with_reducible rfl)))
  (try simp only [Act.put, sA, sB, sC])
  refine wpList_wp (by rfl) (fun K hK => ?_)
  (try go_simp)
  refine (robV ((k : Int) + 1) false _ HR.out).mono ?_
  rintro e w' ⟨rfl, rfl⟩
  (try go_wp2_with fail)
  refine hK.out _ _ ?_
  clear hK K
  (try simp only [Act.put, sA, sB, sC])
  refine wpList_q (by rfl) (.bool false) ?he ?_
  case he => (first | rfl | (go_simp; (try with_reducible rfl)))
  (try simp only [Act.put, sA, sB, sC])
  refine wpList_q (by rfl) (.bool true) ?he ?_
  case he => (go_simp; (try with_reducible rfl))
  (try simp only [Act.put, sA, sB, sC])
  refine wpList_q (by rfl) (.bool true) ?he ?_
  case he => (first | rfl | (go_simp; (try with_reducible rfl)))
  (try simp only [Act.put, sA, sB, sC])
  refine wpList_q (by rfl) (.bool true) ?he ?_
  case he => (first | rfl | (go_simp; (try with_reducible rfl)))
  (try simp only [Act.put, sA, sB, sC])
  refine wpList_nil ?_
  (try go_wp2_with fail)
  go_ret
  exact ⟨rfl, HS3.out⟩
set_option maxHeartbeats 4000000 in
theorem namesO (n : Int) (w : World) (hn : Nm w) (hk : ¬ (1 ≤ n ∧ n ≤ 16)) (hr : robB n = false) : Calls Tryd.prog 6 #[.int .i64 n] w fun e w' => e = .returned (.bool true) ∧ Since w w' := by
  have HNM := Lib.hid hn; clear hn
  have HK := Lib.hid hk; clear hk
  have HR := Lib.hid hr; clear hr
  go_enter Tryd.func6, Tryd.ntmps6
  go_upto_region 1 with fail
  have HS1 := Lib.hid (Since.refl w)
  by_cases hlo : n < 1
  · have HL := Lib.hid hlo; clear hlo
    refine wp_region_lit ?_
    refine wpList_wp (by rfl) (fun K hK => ?_)
    refine wp_new (fun b => .slice (some ⟨b, 0, none⟩) 16 16) 9 #[.string { data := #[104, 101, 108, 108, 111] }, .string { data := #[119, 101, 108, 99, 111, 109, 101] }, .string { data := #[114, 101, 113, 117, 101, 115, 116] }, .string { data := #[103, 114, 97, 110, 116] }, .string { data := #[113, 117, 101, 117, 101, 100] }, .string { data := #[98, 117, 115, 121] }, .string { data := #[100, 101, 110, 121] }, .string { data := #[97, 114, 114, 105, 118, 101, 100] }, .string { data := #[101, 110, 116, 101, 114, 101, 100] }, .string { data := #[114, 105, 100, 101, 111, 107] }, .string { data := #[114, 101, 106, 101, 99, 116] }, .string { data := #[101, 120, 105, 116] }, .string { data := #[101, 120, 105, 116, 101, 100] }, .string { data := #[101, 120, 105, 116, 111, 107] }, .string { data := #[114, 101, 110, 101, 119] }, .string { data := #[101, 118, 105, 99, 116] }] (by rintro b rfl; first | rfl | kernel_rfl) ?_
    intro bn6 w2 hge hB hb
    refine hK.out _ _ ?_
    clear hK K
    (try simp only [Act.put, sA, sB, sC])
    have HGn6 := Lib.hid (show w.heap.size ≤ bn6 by have := Since.size HS1.out; omega)
    have HS2 := Lib.hid (Since.trans HS1.out hb)
    clear HS1 
    clear hb hge
    have HBn62 := Lib.hid hB
    clear hB
    refine wpList_q (by rfl) (.slice (some ⟨bn6, 0, none⟩) 16 16) ?he ?_
    case he => (first | rfl | (go_simp; (try with_reducible rfl)))
    (try simp only [Act.put, sA, sB, sC])
    refine wpList_nil ?_
    go_upto_region 2 with fail
    refine wp_region_lit ?_
    refine wpList_q (by rfl) (.string { data := #[] }) ?he ?_
    case he => (first | rfl | (go_simp; (try with_reducible rfl)))
    (try simp only [Act.put, sA, sB, sC])
    refine wpList_nil ?_
    go_upto_region 3 with fail
    refine wp_region_lit ?_
    refine wpList_q (by rfl) (.int .i64 n) ?he ?_
    case he => (first | rfl | (go_simp; (try with_reducible rfl)))
    (try simp only [Act.put, sA, sB, sC])
    refine wpList_q (by rfl) (.bool false) ?he ?_
    case he => (go_simp; (first | done | (have q := HL.out; omega)))
    (try simp only [Act.put, sA, sB, sC])
    refine wpList_q (by rfl) (.bool false) ?he ?_
    case he => (first | rfl | (go_simp; (try with_reducible rfl)))
    (try simp only [Act.put, sA, sB, sC])
    refine wpList_no (by rfl) ?_
    (try simp only [Act.put, sA, sB, sC])
    refine wpList_no (by rfl) ?_
    (try simp only [Act.put, sA, sB, sC])
    refine wpList_q (by rfl) (.bool false) ?he ?_
    case he => (first | rfl | (go_simp; (try with_reducible rfl)))
    (try simp only [Act.put, sA, sB, sC])
    refine wpList_nil ?_
    go_upto_region 5 with fail
    refine wp_region_lit ?_
    refine wpList_q (by rfl) (.int .i64 n) ?he ?_
    case he => (first | rfl | (go_simp; (try with_reducible rfl)))
    (try simp only [Act.put, sA, sB, sC])
    refine wpList_q (by rfl) (.bool false) ?he ?_
    case he => (go_simp; (first | done | (have q := HK.out; omega)))
    (try simp only [Act.put, sA, sB, sC])
    refine wpList_q (by rfl) (.bool false) ?he ?_
    case he => (first | rfl | (go_simp; (try with_reducible rfl)))
    (try simp only [Act.put, sA, sB, sC])
    refine wpList_q (by rfl) (.int .i64 n) ?he ?_
    case he => (first | rfl | (go_simp; (try with_reducible rfl)))
    (try simp only [Act.put, sA, sB, sC])
    refine wpList_q (by rfl) (.bool false) ?he ?_
    case he => (go_simp; (first | done | (have q := HK.out; omega)))
    (try simp only [Act.put, sA, sB, sC])
    refine wpList_q (by rfl) (.bool false) ?he ?_
    case he => (first | rfl | (go_simp; (try with_reducible rfl)))
    (try simp only [Act.put, sA, sB, sC])
    refine wpList_q (by rfl) (.bool false) ?he ?_
    case he => (first | rfl | (go_simp; (try with_reducible rfl)))
    (try simp only [Act.put, sA, sB, sC])
    refine wpList_q (by rfl) (.int .i64 n) ?he ?_
    case he => (first | rfl | (go_simp; (try with_reducible rfl)))
    (try simp only [Act.put, sA, sB, sC])
    refine wpList_q (by rfl) (.bool false) ?he ?_
    case he => (go_simp; (first | done | (have q := HK.out; omega)))
    (try simp only [Act.put, sA, sB, sC])
    refine wpList_q (by rfl) (.bool false) ?he ?_
    case he => (first | rfl | (go_simp; (try with_reducible rfl)))
    (try simp only [Act.put, sA, sB, sC])
    refine wpList_q (by rfl) (.bool false) ?he ?_
    case he => (first | rfl | (go_simp; (try with_reducible rfl)))
    (try simp only [Act.put, sA, sB, sC])
    refine wpList_q (by rfl) (.int .i64 n) ?he ?_
    case he => (first | rfl | (go_simp; (try with_reducible rfl)))
    (try simp only [Act.put, sA, sB, sC])
    refine wpList_q (by rfl) (.bool false) ?he ?_
    case he => (go_simp; (first | done | (have q := HK.out; omega)))
    (try simp only [Act.put, sA, sB, sC])
    refine wpList_q (by rfl) (.bool false) ?he ?_
    case he => (first | rfl | (go_simp; (try with_reducible rfl)))
    (try simp only [Act.put, sA, sB, sC])
    refine wpList_q (by rfl) (.bool false) ?he ?_
    case he => (first | rfl | (go_simp; (try with_reducible rfl)))
    (try simp only [Act.put, sA, sB, sC])
    refine wpList_q (by rfl) (.int .i64 n) ?he ?_
    case he => (first | rfl | (go_simp; (try with_reducible rfl)))
    (try simp only [Act.put, sA, sB, sC])
    refine wpList_q (by rfl) (.bool false) ?he ?_
    case he => (go_simp; (first | done | (have q := HK.out; omega)))
    (try simp only [Act.put, sA, sB, sC])
    refine wpList_q (by rfl) (.bool false) ?he ?_
    case he => (first | rfl | (go_simp; (try with_reducible rfl)))
    (try simp only [Act.put, sA, sB, sC])
    refine wpList_q (by rfl) (.bool false) ?he ?_
    case he => (first | rfl | (go_simp; (try with_reducible rfl)))
    (try simp only [Act.put, sA, sB, sC])
    refine wpList_nil ?_
    go_upto_region 6 with fail
    refine wp_region_lit ?_
    refine wpList_wp (by rfl) (fun K hK => ?_)
    (try go_simp)
    refine (ans _ (Nm.keep HS2.out HNM.out)).mono ?_
    rintro e w3 ⟨rfl, hb⟩
    (try go_wp2_with fail)
    refine hK.out _ _ ?_
    clear hK K
    (try simp only [Act.put, sA, sB, sC])
    have HS3 := Lib.hid (Since.trans HS2.out hb)
    have HBn63 := Lib.hid (keep_blk hb HBn62.out)
    clear HS2 HBn62
    clear hb
    refine wpList_q (by rfl) (.bool true) ?he ?_
    case he => (first | rfl | (go_simp; (try with_reducible rfl)))
    (try simp only [Act.put, sA, sB, sC])
    refine wpList_q (by rfl) (.int .i64 n) ?he ?_
    case he => (first | rfl | (go_simp; (try with_reducible rfl)))
    (try simp only [Act.put, sA, sB, sC])
    refine wpList_wp (by rfl) (fun K hK => ?_)
    (try go_simp)
    refine (nameV n ⟨#[]⟩ _ (Nm.keep HS3.out HNM.out) (nmS_no n HK.out)).mono ?_
    rintro e w' ⟨rfl, rfl⟩
    (try go_wp2_with fail)
    refine hK.out _ _ ?_
    clear hK K
    (try simp only [Act.put, sA, sB, sC])
    refine wpList_q (by rfl) (.string { data := #[] }) ?he ?_
    case he => (first | rfl | (go_simp; (try with_reducible rfl)))
    (try simp only [Act.put, sA, sB, sC])
    refine wpList_q (by rfl) (.bool true) ?he ?_
    case he => (go_simp; (first | done | rfl))
    (try simp only [Act.put, sA, sB, sC])
    refine wpList_q (by rfl) (.bool true) ?he ?_
    case he => (first | rfl | (go_simp; (try with_reducible rfl)))
    (try simp only [Act.put, sA, sB, sC])
    refine wpList_q (by rfl) (.bool true) ?he ?_
    case he => (first | rfl | (go_simp; (try with_reducible rfl)))
    (try simp only [Act.put, sA, sB, sC])
    refine wpList_q (by rfl) (.int .i64 n) ?he ?_
    case he => (first | rfl | (go_simp; (try with_reducible rfl)))
    (try simp only [Act.put, sA, sB, sC])
    refine wpList_wp (by rfl) (fun K hK => ?_)
    (try go_simp)
    refine (robV n false _ HR.out).mono ?_
    rintro e w' ⟨rfl, rfl⟩
    (try go_wp2_with fail)
    refine hK.out _ _ ?_
    clear hK K
    (try simp only [Act.put, sA, sB, sC])
    refine wpList_q (by rfl) (.bool false) ?he ?_
    case he => (first | rfl | (go_simp; (try with_reducible rfl)))
    (try simp only [Act.put, sA, sB, sC])
    refine wpList_q (by rfl) (.bool true) ?he ?_
    case he => (go_simp; (try with_reducible rfl))
    (try simp only [Act.put, sA, sB, sC])
    refine wpList_q (by rfl) (.bool true) ?he ?_
    case he => (first | rfl | (go_simp; (try with_reducible rfl)))
    (try simp only [Act.put, sA, sB, sC])
    refine wpList_q (by rfl) (.bool true) ?he ?_
    case he => (first | rfl | (go_simp; (try with_reducible rfl)))
    (try simp only [Act.put, sA, sB, sC])
    refine wpList_nil ?_
    (try go_wp2_with fail)
    go_ret
    exact ⟨rfl, HS3.out⟩
  · have HL := Lib.hid hlo; clear hlo
    refine wp_region_lit ?_
    refine wpList_wp (by rfl) (fun K hK => ?_)
    refine wp_new (fun b => .slice (some ⟨b, 0, none⟩) 16 16) 9 #[.string { data := #[104, 101, 108, 108, 111] }, .string { data := #[119, 101, 108, 99, 111, 109, 101] }, .string { data := #[114, 101, 113, 117, 101, 115, 116] }, .string { data := #[103, 114, 97, 110, 116] }, .string { data := #[113, 117, 101, 117, 101, 100] }, .string { data := #[98, 117, 115, 121] }, .string { data := #[100, 101, 110, 121] }, .string { data := #[97, 114, 114, 105, 118, 101, 100] }, .string { data := #[101, 110, 116, 101, 114, 101, 100] }, .string { data := #[114, 105, 100, 101, 111, 107] }, .string { data := #[114, 101, 106, 101, 99, 116] }, .string { data := #[101, 120, 105, 116] }, .string { data := #[101, 120, 105, 116, 101, 100] }, .string { data := #[101, 120, 105, 116, 111, 107] }, .string { data := #[114, 101, 110, 101, 119] }, .string { data := #[101, 118, 105, 99, 116] }] (by rintro b rfl; first | rfl | kernel_rfl) ?_
    intro bn6 w2 hge hB hb
    refine hK.out _ _ ?_
    clear hK K
    (try simp only [Act.put, sA, sB, sC])
    have HGn6 := Lib.hid (show w.heap.size ≤ bn6 by have := Since.size HS1.out; omega)
    have HS2 := Lib.hid (Since.trans HS1.out hb)
    clear HS1 
    clear hb hge
    have HBn62 := Lib.hid hB
    clear hB
    refine wpList_q (by rfl) (.slice (some ⟨bn6, 0, none⟩) 16 16) ?he ?_
    case he => (first | rfl | (go_simp; (try with_reducible rfl)))
    (try simp only [Act.put, sA, sB, sC])
    refine wpList_nil ?_
    go_upto_region 2 with fail
    refine wp_region_lit ?_
    refine wpList_q (by rfl) (.string { data := #[] }) ?he ?_
    case he => (first | rfl | (go_simp; (try with_reducible rfl)))
    (try simp only [Act.put, sA, sB, sC])
    refine wpList_nil ?_
    go_upto_region 3 with fail
    refine wp_region_lit ?_
    refine wpList_q (by rfl) (.int .i64 n) ?he ?_
    case he => (first | rfl | (go_simp; (try with_reducible rfl)))
    (try simp only [Act.put, sA, sB, sC])
    refine wpList_q (by rfl) (.bool true) ?he ?_
    case he => (go_simp; (first | done | (have q := HL.out; omega)))
    (try simp only [Act.put, sA, sB, sC])
    refine wpList_q (by rfl) (.bool true) ?he ?_
    case he => (first | rfl | (go_simp; (try with_reducible rfl)))
    (try simp only [Act.put, sA, sB, sC])
    refine wpList_q (by rfl) (.int .i64 n) ?he ?_
    case he => (first | rfl | (go_simp; (try with_reducible rfl)))
    (try simp only [Act.put, sA, sB, sC])
    refine wpList_q (by rfl) (.bool false) ?he ?_
    case he => (go_simp; (first | done | (have q := HK.out; have q2 := HL.out; omega)))
    (try simp only [Act.put, sA, sB, sC])
    refine wpList_q (by rfl) (.bool false) ?he ?_
    case he => (first | rfl | (go_simp; (try with_reducible rfl)))
    (try simp only [Act.put, sA, sB, sC])
    refine wpList_nil ?_
    go_upto_region 5 with fail
    refine wp_region_lit ?_
    refine wpList_q (by rfl) (.int .i64 n) ?he ?_
    case he => (first | rfl | (go_simp; (try with_reducible rfl)))
    (try simp only [Act.put, sA, sB, sC])
    refine wpList_q (by rfl) (.bool false) ?he ?_
    case he => (go_simp; (first | done | (have q := HK.out; omega)))
    (try simp only [Act.put, sA, sB, sC])
    refine wpList_q (by rfl) (.bool false) ?he ?_
    case he => (first | rfl | (go_simp; (try with_reducible rfl)))
    (try simp only [Act.put, sA, sB, sC])
    refine wpList_q (by rfl) (.int .i64 n) ?he ?_
    case he => (first | rfl | (go_simp; (try with_reducible rfl)))
    (try simp only [Act.put, sA, sB, sC])
    refine wpList_q (by rfl) (.bool false) ?he ?_
    case he => (go_simp; (first | done | (have q := HK.out; omega)))
    (try simp only [Act.put, sA, sB, sC])
    refine wpList_q (by rfl) (.bool false) ?he ?_
    case he => (first | rfl | (go_simp; (try with_reducible rfl)))
    (try simp only [Act.put, sA, sB, sC])
    refine wpList_q (by rfl) (.bool false) ?he ?_
    case he => (first | rfl | (go_simp; (try with_reducible rfl)))
    (try simp only [Act.put, sA, sB, sC])
    refine wpList_q (by rfl) (.int .i64 n) ?he ?_
    case he => (first | rfl | (go_simp; (try with_reducible rfl)))
    (try simp only [Act.put, sA, sB, sC])
    refine wpList_q (by rfl) (.bool false) ?he ?_
    case he => (go_simp; (first | done | (have q := HK.out; omega)))
    (try simp only [Act.put, sA, sB, sC])
    refine wpList_q (by rfl) (.bool false) ?he ?_
    case he => (first | rfl | (go_simp; (try with_reducible rfl)))
    (try simp only [Act.put, sA, sB, sC])
    refine wpList_q (by rfl) (.bool false) ?he ?_
    case he => (first | rfl | (go_simp; (try with_reducible rfl)))
    (try simp only [Act.put, sA, sB, sC])
    refine wpList_q (by rfl) (.int .i64 n) ?he ?_
    case he => (first | rfl | (go_simp; (try with_reducible rfl)))
    (try simp only [Act.put, sA, sB, sC])
    refine wpList_q (by rfl) (.bool false) ?he ?_
    case he => (go_simp; (first | done | (have q := HK.out; omega)))
    (try simp only [Act.put, sA, sB, sC])
    refine wpList_q (by rfl) (.bool false) ?he ?_
    case he => (first | rfl | (go_simp; (try with_reducible rfl)))
    (try simp only [Act.put, sA, sB, sC])
    refine wpList_q (by rfl) (.bool false) ?he ?_
    case he => (first | rfl | (go_simp; (try with_reducible rfl)))
    (try simp only [Act.put, sA, sB, sC])
    refine wpList_q (by rfl) (.int .i64 n) ?he ?_
    case he => (first | rfl | (go_simp; (try with_reducible rfl)))
    (try simp only [Act.put, sA, sB, sC])
    refine wpList_q (by rfl) (.bool false) ?he ?_
    case he => (go_simp; (first | done | (have q := HK.out; omega)))
    (try simp only [Act.put, sA, sB, sC])
    refine wpList_q (by rfl) (.bool false) ?he ?_
    case he => (first | rfl | (go_simp; (try with_reducible rfl)))
    (try simp only [Act.put, sA, sB, sC])
    refine wpList_q (by rfl) (.bool false) ?he ?_
    case he => (first | rfl | (go_simp; (try with_reducible rfl)))
    (try simp only [Act.put, sA, sB, sC])
    refine wpList_nil ?_
    go_upto_region 6 with fail
    refine wp_region_lit ?_
    refine wpList_wp (by rfl) (fun K hK => ?_)
    (try go_simp)
    refine (ans _ (Nm.keep HS2.out HNM.out)).mono ?_
    rintro e w3 ⟨rfl, hb⟩
    (try go_wp2_with fail)
    refine hK.out _ _ ?_
    clear hK K
    (try simp only [Act.put, sA, sB, sC])
    have HS3 := Lib.hid (Since.trans HS2.out hb)
    have HBn63 := Lib.hid (keep_blk hb HBn62.out)
    clear HS2 HBn62
    clear hb
    refine wpList_q (by rfl) (.bool true) ?he ?_
    case he => (first | rfl | (go_simp; (try with_reducible rfl)))
    (try simp only [Act.put, sA, sB, sC])
    refine wpList_q (by rfl) (.int .i64 n) ?he ?_
    case he => (first | rfl | (go_simp; (try with_reducible rfl)))
    (try simp only [Act.put, sA, sB, sC])
    refine wpList_wp (by rfl) (fun K hK => ?_)
    (try go_simp)
    refine (nameV n ⟨#[]⟩ _ (Nm.keep HS3.out HNM.out) (nmS_no n HK.out)).mono ?_
    rintro e w' ⟨rfl, rfl⟩
    (try go_wp2_with fail)
    refine hK.out _ _ ?_
    clear hK K
    (try simp only [Act.put, sA, sB, sC])
    refine wpList_q (by rfl) (.string { data := #[] }) ?he ?_
    case he => (first | rfl | (go_simp; (try with_reducible rfl)))
    (try simp only [Act.put, sA, sB, sC])
    refine wpList_q (by rfl) (.bool true) ?he ?_
    case he => (go_simp; (first | done | rfl))
    (try simp only [Act.put, sA, sB, sC])
    refine wpList_q (by rfl) (.bool true) ?he ?_
    case he => (first | rfl | (go_simp; (try with_reducible rfl)))
    (try simp only [Act.put, sA, sB, sC])
    refine wpList_q (by rfl) (.bool true) ?he ?_
    case he => (first | rfl | (go_simp; (try with_reducible rfl)))
    (try simp only [Act.put, sA, sB, sC])
    refine wpList_q (by rfl) (.int .i64 n) ?he ?_
    case he => (first | rfl | (go_simp; (try with_reducible rfl)))
    (try simp only [Act.put, sA, sB, sC])
    refine wpList_wp (by rfl) (fun K hK => ?_)
    (try go_simp)
    refine (robV n false _ HR.out).mono ?_
    rintro e w' ⟨rfl, rfl⟩
    (try go_wp2_with fail)
    refine hK.out _ _ ?_
    clear hK K
    (try simp only [Act.put, sA, sB, sC])
    refine wpList_q (by rfl) (.bool false) ?he ?_
    case he => (first | rfl | (go_simp; (try with_reducible rfl)))
    (try simp only [Act.put, sA, sB, sC])
    refine wpList_q (by rfl) (.bool true) ?he ?_
    case he => (go_simp; (try with_reducible rfl))
    (try simp only [Act.put, sA, sB, sC])
    refine wpList_q (by rfl) (.bool true) ?he ?_
    case he => (first | rfl | (go_simp; (try with_reducible rfl)))
    (try simp only [Act.put, sA, sB, sC])
    refine wpList_q (by rfl) (.bool true) ?he ?_
    case he => (first | rfl | (go_simp; (try with_reducible rfl)))
    (try simp only [Act.put, sA, sB, sC])
    refine wpList_nil ?_
    (try go_wp2_with fail)
    go_ret
    exact ⟨rfl, HS3.out⟩
theorem names (n : Int) (w : World) (h : Nm w) : Calls Tryd.prog 6 #[.int .i64 n] w fun e w' => e = .returned (.bool true) ∧ Since w w' := by
  by_cases hk : 1 ≤ n ∧ n ≤ 16
  · by_cases hr : n = 1 ∨ n = 3 ∨ n = 9 ∨ n = 13 ∨ n = 15
    · rcases hr with rfl | rfl | rfl | rfl | rfl
      · exact names1 w h
      · exact names3 w h
      · exact names9 w h
      · exact names13 w h
      · exact names15 w h
    · obtain ⟨k, rfl⟩ : ∃ k : Nat, n = (k : Int) + 1 := ⟨(n - 1).toNat, by omega⟩
      simp only [not_or] at hr
      exact namesK k w h (by omega) (by omega) (decide_eq_false (by simp only [not_or]; exact hr))
  · exact namesO n w h hk (decide_eq_false (by omega))
end Go.Proofs.YtlihhjcneedgnaaDoor.Mg
