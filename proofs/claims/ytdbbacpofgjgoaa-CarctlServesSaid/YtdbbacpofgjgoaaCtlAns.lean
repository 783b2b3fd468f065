/-
  layer 14's answers(): walked.
  Conditions: what stands ahead of each.
-/
import Derived.Test.YtdbbacpofgjgoaaProg
import Derived.Test.YtdbbacpofgjgoaaShort
import Derived.Test.YtdbbacpofgjgoaaCtlM
import Derived.Test.YtdbbacpofgjgoaaCtlB
namespace Go.Proofs.Ytdbbacpofgjgoaa.Ct
set_option linter.unusedVariables false
set_option linter.unusedSimpArgs false
open Go.RowKit Go.Proofs.Ytdbbacpofgjgoaa.Ba Go.Proofs.Ytdbbacpofgjgoaa.Mem Go.Proofs.Ytdbbacpofgjgoaa.Ty Go.Proofs.Ytdbbacpofgjgoaa.Mo Go.Proofs.Ytdbbacpofgjgoaa.St Go.Proofs.Ytdbbacpofgjgoaa.Sc Go.Proofs.Ytdbbacpofgjgoaa.Pl
set_option maxRecDepth 100000
attribute [local irreducible] Go.wpList
def cA : CfgV := ⟨0, 5, 0, 0, 2, 3, 0, 0, 0, 0, 0, 300, 0, 0, 0, 0, 0, 0⟩
def zeroX : CarV := ⟨0, 0, 0, 0, 0, 0, 0, false, false, 0, 0, false, 0, 0, 0⟩
/-- The answers' car, behind i ticks. -/
def xs : Nat → CarV
  | 0 => ⟨0, 0, 0, 0, 0, -1, 0, false, false, 0, 0, false, 0, 2, 0⟩
  | i + 1 => tkV cA (xs i)
def hits : Nat → Int
  | 0 => 0
  | i + 1 => if tkS (xs i) = true then hits i + 1 else hits i
def rB (x : Int) : Bool := decide (0 ≤ x ∧ x < 18446744073709551616)
def okX (x : CarV) : Bool := decide (0 ≤ x.da ∧ x.da ≤ 1000 ∧ 0 ≤ x.un ∧ x.un ≤ 252 ∧ 0 ≤ x.ta ∧ x.ta ≤ 64 ∧ -1000 ≤ x.ti ∧ x.ti ≤ 1000) && rB x.sp && rB x.su && rB x.sd
theorem xs_ok : ∀ i, i < 6 → okX (xs i) = true ∧ (if tkS (xs i) = true then tkF (xs i) = 1 ∧ tkW (xs i) = 1 else tkF (xs i) = 0 ∧ tkW (xs i) = 0) ∧ 0 ≤ hits i ∧ hits i ≤ 6 := by decide +kernel
theorem xs_end : hits 6 = 1 ∧ (xs 6).un = 4 ∧ (xs 6).ds = 2 ∧ (xs 6).ti = 3 ∧ (xs 6).mo = 0 ∧ (xs 6).br = false ∧ lvB (xs 6).un = true := by decide +kernel
theorem zero_ok : zeroX.mo = 0 ∧ zeroX.br = false ∧ lvB zeroX.un = true ∧ zeroX.ds = 0 ∧ zeroX.wy = 0 ∧ cn zeroX.sp + cn zeroX.su + cn zeroX.sd = 0 := by decide +kernel
theorem tickA (i : Nat) (h : i < 6) (w : World) : Calls Try.prog 40 #[.agg (cfgA cA), .agg (carA (xs i))] w fun e w' => e = .returned (.tuple #[.agg (carA (xs (i + 1))), .agg #[.int .i64 (tkF (xs i)), .int .i64 (tkW (xs i))], .bool (tkS (xs i))]) ∧ Since w w' := by
  obtain ⟨h1, -, -, -⟩ := xs_ok i h
  unfold okX rB at h1
  simp only [Bool.and_eq_true, decide_eq_true_eq] at h1
  obtain ⟨⟨⟨h1, hp⟩, hu⟩, hd⟩ := h1
  exact tickT cA (xs i) w ⟨⟨h1.1, h1.2.1⟩, by omega, by omega⟩ hp hu hd (fun _ => ⟨by omega, by omega⟩) (by omega) (by omega)
set_option maxHeartbeats 4000000 in
theorem configA (w : World) : Calls Try.prog 63 #[] w fun e w' => e = .returned (.agg (cfgA cA)) ∧ Since w w' := by
  go_enter Try.func63, Try.ntmps63
  go_upto_region 1 with fail
  obtain ⟨w1, hw1⟩ : ∃ w1, w1 = (w.alloc (.cells #[.int .i64 0, .int .i64 0, .int .i64 0, .int .i64 0, .int .i64 0, .int .i64 0, .int .i64 0, .int .i64 0, .int .i64 0, .int .i64 0, .int .i64 0, .int .i64 0, .int .i64 0, .int .i64 0, .int .i64 0, .int .i64 0, .int .i64 0, .int .i64 0] 23)) := ⟨_, rfl⟩
  rw [← hw1]
  have HBC1 := Lib.hid (show Blk w1 (w.heap.size) 23 #[.int .i64 0, .int .i64 0, .int .i64 0, .int .i64 0, .int .i64 0, .int .i64 0, .int .i64 0, .int .i64 0, .int .i64 0, .int .i64 0, .int .i64 0, .int .i64 0, .int .i64 0, .int .i64 0, .int .i64 0, .int .i64 0, .int .i64 0, .int .i64 0] by rw [hw1]; exact Blk.at_ (by (try simp only [size_alloc])) _ _)
  have HS1 := Lib.hid (show Since w w1 by rw [hw1]; exact Since.alloc (Since.refl w) _)
  have hNE : w.heap.size ≤ w.heap.size := by omega
  have HNE := Lib.hid hNE
  clear hNE hw1
  have HNE3 := Lib.hid (show w.heap.size ≤ w.heap.size from HNE.out)
  clear HNE
  refine wp_region_lit ?_
  refine wpList_q (by rfl) (.agg (cfgA cA)) ?he ?_
  case he => kernel_rfl
  (try simp only [Act.put, sA, sB, sC])
  refine wpList_wp (by rfl) (fun K hK => ?_)
  refine wp_st_row 23 _ _ rfl (cfgA cA) rfl rfl (HasRow.of HBC1.out rfl) rfl (by simp [cfgA, carA, ctlA, Value.oneCell']) (by kernel_rfl) ?_
  intro w2 hw
  refine hK.out _ _ ?_
  clear hK K
  (try simp only [Act.put, sA, sB, sC])
  have HS2 := Lib.hid (show Since w w2 by rw [hw]; exact Since.setRow HS1.out (by have := HNE3.out; omega) _)
  have HBC2 := Lib.hid (show Blk w2 w.heap.size 23 (cfgA cA) by rw [hw]; exact Blk.row HBC1.out _)
  clear hw HS1 HBC1
  refine wpList_nil ?_
  (try go_wp2_with fail)
  exact bodyPost_ret (results_cell_row rfl _ _ w.heap.size 23 (cfgA cA) (0, 0) _ rfl HBC2.out Try.underlying23 rfl (by kernel_rfl)) rfl ⟨rfl, HS2.out⟩
set_option maxHeartbeats 4000000 in
theorem ans (w : World) : Calls Try.prog 39 #[] w fun e w' => e = .returned (.bool true) ∧ Since w w' := by
  go_enter Try.func39, Try.ntmps39
  go_upto_region 1 with fail
  have HS1 := Lib.hid (Since.refl w)
  refine wp_region_lit ?_
  refine wpList_q (by rfl) (.agg #[.int .u64 0, .int .u64 2, .int .u64 0]) ?he ?_
  case he => kernel_rfl
  (try simp only [Act.put, sA, sB, sC])
  refine wpList_q (by rfl) (.agg #[.int .i64 0, .int .i64 0, .int .i64 0, .int .i64 0, .int .i64 0, .int .i64 (-1), .int .i64 0, .bool false, .bool false, .int .i64 0, .int .i64 0, .bool false, .int .u64 0, .int .u64 2, .int .u64 0]) ?he ?_
  case he => kernel_rfl
  (try simp only [Act.put, sA, sB, sC])
  refine wpList_wp (by rfl) (fun K hK => ?_)
  refine wp_new (fun b => .pointer (some ⟨b, 0, none⟩)) 30 #[.int .i64 0, .int .i64 0, .int .i64 0, .int .i64 0, .int .i64 0, .int .i64 0, .int .i64 0, .bool false, .bool false, .int .i64 0, .int .i64 0, .bool false, .int .u64 0, .int .u64 0, .int .u64 0] (by rintro b rfl; first | rfl | kernel_rfl) ?_
  intro bn1 w2 hge hB hb
  refine hK.out _ _ ?_
  clear hK K
  (try simp only [Act.put, sA, sB, sC])
  have HGn1 := Lib.hid (show w.heap.size ≤ bn1 by have := Since.size HS1.out; omega)
  have HS2 := Lib.hid (Since.trans HS1.out hb)
  clear HS1 
  clear hb hge
  have HBn12 := Lib.hid hB
  clear hB
  refine wpList_wp (by rfl) (fun K hK => ?_)
  refine wp_st_row 30 _ _ rfl #[.int .i64 0, .int .i64 0, .int .i64 0, .int .i64 0, .int .i64 0, .int .i64 (-1), .int .i64 0, .bool false, .bool false, .int .i64 0, .int .i64 0, .bool false, .int .u64 0, .int .u64 2, .int .u64 0] rfl rfl (HasRow.of HBn12.out rfl) rfl (by simp [cfgA, carA, ctlA, Value.oneCell']) (by kernel_rfl) ?_
  intro w3 hw
  refine hK.out _ _ ?_
  clear hK K
  (try simp only [Act.put, sA, sB, sC])
  have HS3 := Lib.hid (show Since w w3 by rw [hw]; exact Since.setRow HS2.out HGn1.out _)
  have HBn13 := Lib.hid (show Blk w3 bn1 30 #[.int .i64 0, .int .i64 0, .int .i64 0, .int .i64 0, .int .i64 0, .int .i64 (-1), .int .i64 0, .bool false, .bool false, .int .i64 0, .int .i64 0, .bool false, .int .u64 0, .int .u64 2, .int .u64 0] by rw [hw]; exact Blk.row HBn12.out _)
  clear hw HS2 HBn12
  refine wpList_nil ?_
  go_upto_region 2 with fail
  refine wp_region_lit ?_
  refine tkL (.int .i64 0) (h := ?_)
  (try simp only [Act.put, sA, sB, sC])
  refine wpList_nil ?_
  go_upto_region 3 with fail
  refine wp_region_lit ?_
  refine tkL (.int .i64 0) (h := ?_)
  (try simp only [Act.put, sA, sB, sC])
  refine wpList_nil ?_
  go_wp2_with fail
  go_loopw [2, 3] (fun s2 s3 wr => ∃ k : Nat, k ≤ 6 ∧ s2 = .int .i64 (hits k) ∧ s3 = .int .i64 (k : Int) ∧ Hid (Since w wr ∧ Blk wr bn1 30 (carA (xs k)))) (fun s2 s3 wq => ((6 : Int) - intOf s3).toNat)
  case atStart => exact ⟨0, by omega, rfl, rfl, Lib.hid ⟨HS3.out, HBn13.out⟩⟩
  case round =>
    obtain ⟨k, hk, rfl, rfl, HO⟩ := hrel
    obtain ⟨g0, g1⟩ := HO.out
    clear HO HS3 HBn13
    have HS53 := Lib.hid g0
    have HBn153 := Lib.hid g1
    clear g0 g1
    have HK := Lib.hid hk; clear hk
    by_cases hcs : k < 6
    rotate_left
    · have HLT := Lib.hid hcs; clear hcs
      go_upto_region 4 with fail
      refine wp_region_lit ?_
      refine tkL (.int .i64 (k : Int)) (h := ?_)
      (try simp only [Act.put, sA, sB, sC])
      refine wpList_q (by rfl) (.bool false) ?he ?_
      case he => (have q0 := HLT.out; go_simp; (first | done | rfl | omega))
      (try simp only [Act.put, sA, sB, sC])
      refine wpList_nil ?_
      have hk6 : k = 6 := by have q1 := HLT.out; have q2 := HK.out; omega
      subst hk6
      have HE := Lib.hid xs_end; have HZ := Lib.hid zero_ok
      go_upto_region 10 with fail
      refine wp_region_lit ?_
      refine tkL (.int .i64 (hits 6)) (h := ?_)
      (try simp only [Act.put, sA, sB, sC])
      refine wpList_q (by rfl) (.bool true) ?he ?_
      case he => (have q := HE.out.1; go_simp; (first | done | exact q | (simp [q]; done) | omega))
      (try simp only [Act.put, sA, sB, sC])
      refine tkL (.bool true) (h := ?_)
      (try simp only [Act.put, sA, sB, sC])
      refine tkL (.pointer (some ⟨bn1, 2, none⟩)) (h := ?_)
      (try simp only [Act.put, sA, sB, sC])
      refine wpList_q (by rfl) (.int .i64 ((xs 6).un)) ?he ?_
      case he => exact exec_cell 3 _ _ HBn153.out rfl rfl rfl Try.underlying3 rfl
      (try simp only [Act.put, sA, sB, sC])
      refine wpList_q (by rfl) (.bool true) ?he ?_
      case he => (have q := HE.out.2.1; go_simp; (first | done | exact q | (simp [q]; done) | omega))
      (try simp only [Act.put, sA, sB, sC])
      refine tkL (.bool true) (h := ?_)
      (try simp only [Act.put, sA, sB, sC])
      refine tkL (.bool true) (h := ?_)
      (try simp only [Act.put, sA, sB, sC])
      refine tkL (.pointer (some ⟨bn1, 0, none⟩)) (h := ?_)
      (try simp only [Act.put, sA, sB, sC])
      refine tkL (.pointer (some ⟨bn1, 0, none⟩)) (h := ?_)
      (try simp only [Act.put, sA, sB, sC])
      refine wpList_q (by rfl) (.int .i64 ((xs 6).ds)) ?he ?_
      case he => exact exec_cell 3 _ _ HBn153.out rfl rfl rfl Try.underlying3 rfl
      (try simp only [Act.put, sA, sB, sC])
      refine wpList_q (by rfl) (.bool true) ?he ?_
      case he => (have q := HE.out.2.2.1; go_simp; (first | done | exact q | (simp [q]; done) | omega))
      (try simp only [Act.put, sA, sB, sC])
      refine tkL (.bool true) (h := ?_)
      (try simp only [Act.put, sA, sB, sC])
      refine tkL (.bool true) (h := ?_)
      (try simp only [Act.put, sA, sB, sC])
      refine wpList_q (by rfl) (.agg #[.int .i64 0, .int .i64 0, .int .i64 0, .int .i64 0, .int .i64 0, .int .i64 0, .int .i64 0, .bool false, .bool false, .int .i64 0, .int .i64 0, .bool false, .int .u64 0, .int .u64 0, .int .u64 0]) ?he ?_
      case he => kernel_rfl
      (try simp only [Act.put, sA, sB, sC])
      refine wpList_wp (by rfl) (fun K hK => ?_)
      (try go_simp)
      refine (idleY zeroX _ HZ.out.1 HZ.out.2.1 HZ.out.2.2.1 HZ.out.2.2.2.1 HZ.out.2.2.2.2.1 R.zero R.zero R.zero HZ.out.2.2.2.2.2).mono ?_
      rintro e w54 ⟨rfl, hb⟩
      (try go_wp2_with fail)
      refine hK.out _ _ ?_
      clear hK K
      (try simp only [Act.put, sA, sB, sC])
      have HS54 := Lib.hid (Since.trans HS53.out hb)
      have HBn154 := Lib.hid (keep_blk hb HBn153.out)
      clear HS53 HBn153
      clear hb
      refine tkL (.bool true) (h := ?_)
      (try simp only [Act.put, sA, sB, sC])
      refine tkL (.bool true) (h := ?_)
      (try simp only [Act.put, sA, sB, sC])
      refine wpList_q (by rfl) (.agg (carA (xs 6))) ?he ?_
      case he => exact exec_load_row 30 _ _ HBn154.out rfl rfl Try.underlying30 rfl (by kernel_rfl)
      (try simp only [Act.put, sA, sB, sC])
      refine wpList_wp (by rfl) (fun K hK => ?_)
      (try go_simp)
      refine (idleD (xs 6) _ HE.out.2.2.2.2.1 HE.out.2.2.2.2.2.1 HE.out.2.2.2.2.2.2 (by rw [HE.out.2.2.1]; decide)).mono ?_
      rintro e w55 ⟨rfl, hb⟩
      (try go_wp2_with fail)
      refine hK.out _ _ ?_
      clear hK K
      (try simp only [Act.put, sA, sB, sC])
      have HS55 := Lib.hid (Since.trans HS54.out hb)
      have HBn155 := Lib.hid (keep_blk hb HBn154.out)
      clear HS54 HBn154
      clear hb
      refine wpList_q (by rfl) (.bool true) ?he ?_
      case he => (go_simp; (try with_reducible rfl))
      (try simp only [Act.put, sA, sB, sC])
      refine tkL (.bool true) (h := ?_)
      (try simp only [Act.put, sA, sB, sC])
      refine tkL (.bool true) (h := ?_)
      (try simp only [Act.put, sA, sB, sC])
      refine wpList_q (by rfl) (.agg (carA (xs 6))) ?he ?_
      case he => exact exec_load_row 30 _ _ HBn155.out rfl rfl Try.underlying30 rfl (by kernel_rfl)
      (try simp only [Act.put, sA, sB, sC])
      refine wpList_wp (by rfl) (fun K hK => ?_)
      (try go_simp)
      refine (stopT (xs 6) _).mono ?_
      rintro e w56 ⟨rfl, hb⟩
      (try go_wp2_with fail)
      refine hK.out _ _ ?_
      clear hK K
      (try simp only [Act.put, sA, sB, sC])
      have HS56 := Lib.hid (Since.trans HS55.out hb)
      have HBn156 := Lib.hid (keep_blk hb HBn155.out)
      clear HS55 HBn155
      clear hb
      refine wpList_q (by rfl) (.bool true) ?he ?_
      case he => (have q := HE.out.2.2.2.1; go_simp; (first | done | exact q | (simp [q]; done) | omega))
      (try simp only [Act.put, sA, sB, sC])
      refine tkL (.bool true) (h := ?_)
      (try simp only [Act.put, sA, sB, sC])
      refine tkL (.bool true) (h := ?_)
      (try simp only [Act.put, sA, sB, sC])
      refine wpList_nil ?_
      (try go_wp2_with fail)
      go_ret
      exact ⟨rfl, HS56.out⟩
    · have HLT := Lib.hid hcs; clear hcs
      go_upto_region 4 with fail
      refine wp_region_lit ?_
      refine tkL (.int .i64 (k : Int)) (h := ?_)
      (try simp only [Act.put, sA, sB, sC])
      refine wpList_q (by rfl) (.bool true) ?he ?_
      case he => (have q0 := HLT.out; go_simp; (first | done | rfl | omega))
      (try simp only [Act.put, sA, sB, sC])
      refine wpList_nil ?_
      have HXO := Lib.hid (xs_ok k HLT.out)
      go_upto_region 6 with fail
      go_cut [4, 5, 6] (fun s4 s5 s6 wx => Hid (∃ bn4 : Nat, ∃ bn5 : Nat, s4 = .pointer (some ⟨bn4, 0, none⟩) ∧ s5 = .pointer (some ⟨bn5, 0, none⟩) ∧ s6 = .bool (tkS (xs k)) ∧ Since w wx ∧ Blk wx bn1 30 (carA (xs k)) ∧ Blk wx bn4 30 (carA (xs (k + 1))) ∧ Blk wx bn5 50 #[.int .i64 (tkF (xs k)), .int .i64 (tkW (xs k))] ∧ w.heap.size ≤ bn4 ∧ bn4 ≠ bn1 ∧ w.heap.size ≤ bn5 ∧ bn5 ≠ bn1 ∧ bn5 ≠ bn4))
      case first =>
        have hrK : ∀ W W' : World, Since W W' → (Since w W ∧ Blk W bn1 30 (carA (xs k))) → (Since w W' ∧ Blk W' bn1 30 (carA (xs k))) := fun W W' k ⟨h, h0⟩ => ⟨h.trans k, keep_blk k h0⟩
        have hrS : (fun W : World => Since w W ∧ Blk W bn1 30 (carA (xs k))) wr := ⟨HS53.out, HBn153.out⟩
        have HRK := Lib.hid hrK
        have HRD := Lib.hid (show (fun W : World => Since w W ∧ Blk W bn1 30 (carA (xs k))) (World.drew wr) from hrK _ _ ((Since.refl wr).drew) hrS)
        clear hrK hrS
        refine wp_region_held_drew (S := fun W : World => Since w W ∧ Blk W bn1 30 (carA (xs k))) (by kernel_rfl) HRD.out (fun hHeld => ?_)
        refine tkQ 1 (.agg (carA (xs k))) hHeld (he := by intro w hSw; exact exec_load_row 30 _ _ hSw.2 rfl rfl Try.underlying30 rfl (by kernel_rfl)) (h := ?_)
        (try simp only [Act.put, sA, sB, sC])
        refine wpAnyH_ready (rs := [0, 7, 8]) (by kernel_rfl) (by simp) ?_
        refine AllReadyH.cons (o := ?o6__0b) ?h6__0b (fun K hK => ?g6__0b) (AllReadyH.cons (o := ?o6__7b) ?h6__7b (fun K hK => ?g6__7b) (AllReadyH.cons (o := ?o6__8b) ?h6__8b (fun K hK => ?g6__8b) AllReadyH.nil))
        case h6__0b => (first | (simp only [gA, gB, gC]; done) | (simp only [gA, gB, gC]; exact rfl))
        case h6__7b => (first | (simp only [gA, gB, gC]; done) | (simp only [gA, gB, gC]; exact rfl))
        case h6__8b => (first | (simp only [gA, gB, gC]; done) | (simp only [gA, gB, gC]; exact rfl))
        case g6__0b =>
          (try go_simp)
          refine (configA _).mono ?_
          rintro e w54 ⟨rfl, hb⟩
          (try go_wp2_with fail)
          refine hK.out _ _ (by (apply HRK.out; exact hb; exact hHeld)) (fun hHeld2 => ?_)
          clear hK K hHeld hb
          have hHeld := hHeld2
          clear hHeld2
          (try simp only [Act.put, sA, sB, sC])
          refine wpAnyH_ready (rs := [2, 7, 8]) (by kernel_rfl) (by simp) ?_
          refine AllReadyH.cons (o := ?o6_b0_2b) ?h6_b0_2b (fun K hK => ?g6_b0_2b) (AllReadyH.cons (o := ?o6_b0_7b) ?h6_b0_7b (fun K hK => ?g6_b0_7b) (AllReadyH.cons (o := ?o6_b0_8b) ?h6_b0_8b (fun K hK => ?g6_b0_8b) AllReadyH.nil))
          case h6_b0_2b => (first | (simp only [gA, gB, gC]; done) | (simp only [gA, gB, gC]; exact rfl))
          case h6_b0_7b => (first | (simp only [gA, gB, gC]; done) | (simp only [gA, gB, gC]; exact rfl))
          case h6_b0_8b => (first | (simp only [gA, gB, gC]; done) | (simp only [gA, gB, gC]; exact rfl))
          case g6_b0_2b =>
            (try go_simp)
            refine (tickA k HLT.out _).mono ?_
            rintro e w55 ⟨rfl, hb⟩
            (try go_wp2_with fail)
            refine hK.out _ _ (by (apply HRK.out; exact hb; exact hHeld)) (fun hHeld2 => ?_)
            clear hK K hHeld hb
            have hHeld := hHeld2
            clear hHeld2
            (try simp only [Act.put, sA, sB, sC])
            refine tkQ 3 (.tuple #[.agg (carA (xs (k + 1))), .agg #[.int .i64 (tkF (xs k)), .int .i64 (tkW (xs k))], .bool (tkS (xs k))]) hHeld (h := ?_)
            (try simp only [Act.put, sA, sB, sC])
            refine tkQ 4 (.agg (carA (xs (k + 1)))) hHeld (h := ?_)
            (try simp only [Act.put, sA, sB, sC])
            refine tkQ 5 (.agg #[.int .i64 (tkF (xs k)), .int .i64 (tkW (xs k))]) hHeld (h := ?_)
            (try simp only [Act.put, sA, sB, sC])
            refine tkQ 6 (.bool (tkS (xs k))) hHeld (h := ?_)
            (try simp only [Act.put, sA, sB, sC])
            refine wpAnyH_ready (rs := [7, 8]) (by kernel_rfl) (by simp) ?_
            refine AllReadyH.cons (o := ?o6_b0b2_7b) ?h6_b0b2_7b (fun K hK => ?g6_b0b2_7b) (AllReadyH.cons (o := ?o6_b0b2_8b) ?h6_b0b2_8b (fun K hK => ?g6_b0b2_8b) AllReadyH.nil)
            case h6_b0b2_7b => (first | (simp only [gA, gB, gC]; done) | (simp only [gA, gB, gC]; exact rfl))
            case h6_b0b2_8b => (first | (simp only [gA, gB, gC]; done) | (simp only [gA, gB, gC]; exact rfl))
            case g6_b0b2_7b =>
              rw [if_pos (by rfl)]
              refine wp_new (fun b => .pointer (some ⟨b, 0, none⟩)) 30 #[.int .i64 0, .int .i64 0, .int .i64 0, .int .i64 0, .int .i64 0, .int .i64 0, .int .i64 0, .bool false, .bool false, .int .i64 0, .int .i64 0, .bool false, .int .u64 0, .int .u64 0, .int .u64 0] (by rintro b rfl; first | rfl | kernel_rfl) ?_
              intro bn4 w56 hge hB hb
              refine hK.out _ _ (by (apply HRK.out; exact hb; exact hHeld)) (fun hHeld2 => ?_)
              have HNn4n1 := Lib.hid (show bn4 ≠ bn1 by have := Blk.lt (hHeld.2); (try simp at this); (try simp at hge); omega)
              have HGn4 := Lib.hid (show w.heap.size ≤ bn4 by have := Since.size hHeld.1; (try simp at this); (try simp at hge); omega)
              have HXn4 := Lib.hid hB
              clear hB
              clear hge
              clear hK K hHeld hb
              have hHeld := hHeld2
              clear hHeld2
              (try simp only [Act.put, sA, sB, sC])
              refine wpAnyH_ready (rs := [8]) (by kernel_rfl) (by simp) ?_
              refine AllReadyH.cons (o := ?o6_b0b2b7_8) ?h6_b0b2b7_8 (fun K hK => ?_) AllReadyH.nil
              case h6_b0b2b7_8 => (first | (simp only [gA, gB, gC]; done) | (simp only [gA, gB, gC]; exact rfl))
              rw [if_pos (by rfl)]
              refine wp_new (fun b => .pointer (some ⟨b, 0, none⟩)) 50 #[.int .i64 0, .int .i64 0] (by rintro b rfl; first | rfl | kernel_rfl) ?_
              intro bn5 w57 hge hB hb
              refine hK.out _ _ (by (apply HRK.out; exact hb; exact hHeld)) (fun hHeld2 => ?_)
              have HNn5n4 := Lib.hid (show bn5 ≠ bn4 by have := Blk.lt HXn4.out; omega)
              have HXn42 := Lib.hid (keep_blk hb HXn4.out)
              clear HXn4
              have HNn5n1 := Lib.hid (show bn5 ≠ bn1 by have := Blk.lt (hHeld.2); (try simp at this); (try simp at hge); omega)
              have HGn5 := Lib.hid (show w.heap.size ≤ bn5 by have := Since.size hHeld.1; (try simp at this); (try simp at hge); omega)
              have HXn5 := Lib.hid hB
              clear hB
              clear hge
              clear hK K hHeld hb
              have hHeld := hHeld2
              clear hHeld2
              (try simp only [Act.put, sA, sB, sC])
              refine wpAnyH_ready (rs := [9]) (by kernel_rfl) (by simp) ?_
              refine AllReadyH.cons (o := ?o6_b0b2b7_9) ?h6_b0b2b7_9 (fun K hK => ?_) AllReadyH.nil
              case h6_b0b2b7_9 => (first | (simp only [gA, gB, gC]; done) | (simp only [gA, gB, gC]; exact rfl))
              rw [if_pos (by rfl)]
              refine wp_st_row 30 _ _ rfl (carA (xs (k + 1))) rfl rfl (HasRow.of HXn42.out rfl) rfl (by simp [cfgA, carA, ctlA, Value.oneCell']) (by kernel_rfl) ?_
              intro w58 hw
              have HXn422 := Lib.hid (show Blk w58 bn4 30 (carA (xs (k + 1))) by rw [hw]; exact Blk.row HXn42.out _)
              have HXn52 := Lib.hid (show Blk w58 bn5 50 #[.int .i64 0, .int .i64 0] by rw [hw]; exact Blk.row_far HXn5.out HNn5n4.out _)
              clear HXn5
              have hHeld3 : (fun W : World => Since w W ∧ Blk W bn1 30 (carA (xs k))) w58 := ⟨by rw [hw]; exact Since.setRow hHeld.1 HGn4.out _, by rw [hw]; exact Blk.row_far (hHeld.2) (Ne.symm HNn4n1.out) _⟩
              refine hK.out _ _ hHeld3 (fun hHeld2 => ?_)
              clear HXn42 hK K hHeld hHeld3 hw
              have hHeld := hHeld2
              clear hHeld2
              (try simp only [Act.put, sA, sB, sC])
              refine wpAnyH_ready (rs := [10]) (by kernel_rfl) (by simp) ?_
              refine AllReadyH.cons (o := ?o6_b0b2b7_10) ?h6_b0b2b7_10 (fun K hK => ?_) AllReadyH.nil
              case h6_b0b2b7_10 => (first | (simp only [gA, gB, gC]; done) | (simp only [gA, gB, gC]; exact rfl))
              rw [if_pos (by rfl)]
              refine wp_st_row 50 _ _ rfl #[.int .i64 (tkF (xs k)), .int .i64 (tkW (xs k))] rfl rfl (HasRow.of HXn52.out rfl) rfl (by simp [cfgA, carA, ctlA, Value.oneCell']) (by kernel_rfl) ?_
              intro w59 hw
              have HXn522 := Lib.hid (show Blk w59 bn5 50 #[.int .i64 (tkF (xs k)), .int .i64 (tkW (xs k))] by rw [hw]; exact Blk.row HXn52.out _)
              have HXn4222 := Lib.hid (show Blk w59 bn4 30 (carA (xs (k + 1))) by rw [hw]; exact Blk.row_far HXn422.out (Ne.symm HNn5n4.out) _)
              clear HXn422
              have hHeld3 : (fun W : World => Since w W ∧ Blk W bn1 30 (carA (xs k))) w59 := ⟨by rw [hw]; exact Since.setRow hHeld.1 HGn5.out _, by rw [hw]; exact Blk.row_far (hHeld.2) (Ne.symm HNn5n1.out) _⟩
              refine hK.out _ _ hHeld3 (fun hHeld2 => ?_)
              clear HXn52 hK K hHeld hHeld3 hw
              have hHeld := hHeld2
              clear hHeld2
              (try simp only [Act.put, sA, sB, sC])
              refine tkQ 11 (.bool (tkS (xs k))) hHeld (h := ?_)
              (try simp only [Act.put, sA, sB, sC])
              refine wpAnyH_done (by kernel_rfl) ?_ _
              have HSd6 := Lib.hid hHeld.1
              have HBn1d6 := Lib.hid (hHeld.2)
              clear hHeld HRK HRD HS53 HBn153
              go_wp2_with fail
              go_meet
              case rel => exact Lib.hid ⟨bn4, bn5, rfl, rfl, rfl, HSd6.out, HBn1d6.out, HXn4222.out, HXn522.out, HGn4.out, HNn4n1.out, HGn5.out, HNn5n1.out, HNn5n4.out⟩
            case g6_b0b2_8b =>
              rw [if_pos (by rfl)]
              refine wp_new (fun b => .pointer (some ⟨b, 0, none⟩)) 50 #[.int .i64 0, .int .i64 0] (by rintro b rfl; first | rfl | kernel_rfl) ?_
              intro bn5 w56 hge hB hb
              refine hK.out _ _ (by (apply HRK.out; exact hb; exact hHeld)) (fun hHeld2 => ?_)
              have HNn5n1 := Lib.hid (show bn5 ≠ bn1 by have := Blk.lt (hHeld.2); (try simp at this); (try simp at hge); omega)
              have HGn5 := Lib.hid (show w.heap.size ≤ bn5 by have := Since.size hHeld.1; (try simp at this); (try simp at hge); omega)
              have HXn5 := Lib.hid hB
              clear hB
              clear hge
              clear hK K hHeld hb
              have hHeld := hHeld2
              clear hHeld2
              (try simp only [Act.put, sA, sB, sC])
              refine wpAnyH_ready (rs := [7]) (by kernel_rfl) (by simp) ?_
              refine AllReadyH.cons (o := ?o6_b0b2b8_7) ?h6_b0b2b8_7 (fun K hK => ?_) AllReadyH.nil
              case h6_b0b2b8_7 => (first | (simp only [gA, gB, gC]; done) | (simp only [gA, gB, gC]; exact rfl))
              rw [if_pos (by rfl)]
              refine wp_new (fun b => .pointer (some ⟨b, 0, none⟩)) 30 #[.int .i64 0, .int .i64 0, .int .i64 0, .int .i64 0, .int .i64 0, .int .i64 0, .int .i64 0, .bool false, .bool false, .int .i64 0, .int .i64 0, .bool false, .int .u64 0, .int .u64 0, .int .u64 0] (by rintro b rfl; first | rfl | kernel_rfl) ?_
              intro bn4 w57 hge hB hb
              refine hK.out _ _ (by (apply HRK.out; exact hb; exact hHeld)) (fun hHeld2 => ?_)
              have HNn4n5 := Lib.hid (show bn4 ≠ bn5 by have := Blk.lt HXn5.out; omega)
              have HXn52 := Lib.hid (keep_blk hb HXn5.out)
              clear HXn5
              have HNn4n1 := Lib.hid (show bn4 ≠ bn1 by have := Blk.lt (hHeld.2); (try simp at this); (try simp at hge); omega)
              have HGn4 := Lib.hid (show w.heap.size ≤ bn4 by have := Since.size hHeld.1; (try simp at this); (try simp at hge); omega)
              have HXn4 := Lib.hid hB
              clear hB
              clear hge
              clear hK K hHeld hb
              have hHeld := hHeld2
              clear hHeld2
              (try simp only [Act.put, sA, sB, sC])
              refine wpAnyH_ready (rs := [9]) (by kernel_rfl) (by simp) ?_
              refine AllReadyH.cons (o := ?o6_b0b2b8_9) ?h6_b0b2b8_9 (fun K hK => ?_) AllReadyH.nil
              case h6_b0b2b8_9 => (first | (simp only [gA, gB, gC]; done) | (simp only [gA, gB, gC]; exact rfl))
              rw [if_pos (by rfl)]
              refine wp_st_row 30 _ _ rfl (carA (xs (k + 1))) rfl rfl (HasRow.of HXn4.out rfl) rfl (by simp [cfgA, carA, ctlA, Value.oneCell']) (by kernel_rfl) ?_
              intro w58 hw
              have HXn42 := Lib.hid (show Blk w58 bn4 30 (carA (xs (k + 1))) by rw [hw]; exact Blk.row HXn4.out _)
              have HXn522 := Lib.hid (show Blk w58 bn5 50 #[.int .i64 0, .int .i64 0] by rw [hw]; exact Blk.row_far HXn52.out (Ne.symm HNn4n5.out) _)
              clear HXn52
              have hHeld3 : (fun W : World => Since w W ∧ Blk W bn1 30 (carA (xs k))) w58 := ⟨by rw [hw]; exact Since.setRow hHeld.1 HGn4.out _, by rw [hw]; exact Blk.row_far (hHeld.2) (Ne.symm HNn4n1.out) _⟩
              refine hK.out _ _ hHeld3 (fun hHeld2 => ?_)
              clear HXn4 hK K hHeld hHeld3 hw
              have hHeld := hHeld2
              clear hHeld2
              (try simp only [Act.put, sA, sB, sC])
              refine wpAnyH_ready (rs := [10]) (by kernel_rfl) (by simp) ?_
              refine AllReadyH.cons (o := ?o6_b0b2b8_10) ?h6_b0b2b8_10 (fun K hK => ?_) AllReadyH.nil
              case h6_b0b2b8_10 => (first | (simp only [gA, gB, gC]; done) | (simp only [gA, gB, gC]; exact rfl))
              rw [if_pos (by rfl)]
              refine wp_st_row 50 _ _ rfl #[.int .i64 (tkF (xs k)), .int .i64 (tkW (xs k))] rfl rfl (HasRow.of HXn522.out rfl) rfl (by simp [cfgA, carA, ctlA, Value.oneCell']) (by kernel_rfl) ?_
              intro w59 hw
              have HXn5222 := Lib.hid (show Blk w59 bn5 50 #[.int .i64 (tkF (xs k)), .int .i64 (tkW (xs k))] by rw [hw]; exact Blk.row HXn522.out _)
              have HXn422 := Lib.hid (show Blk w59 bn4 30 (carA (xs (k + 1))) by rw [hw]; exact Blk.row_far HXn42.out HNn4n5.out _)
              clear HXn42
              have hHeld3 : (fun W : World => Since w W ∧ Blk W bn1 30 (carA (xs k))) w59 := ⟨by rw [hw]; exact Since.setRow hHeld.1 HGn5.out _, by rw [hw]; exact Blk.row_far (hHeld.2) (Ne.symm HNn5n1.out) _⟩
              refine hK.out _ _ hHeld3 (fun hHeld2 => ?_)
              clear HXn522 hK K hHeld hHeld3 hw
              have hHeld := hHeld2
              clear hHeld2
              (try simp only [Act.put, sA, sB, sC])
              refine tkQ 11 (.bool (tkS (xs k))) hHeld (h := ?_)
              (try simp only [Act.put, sA, sB, sC])
              refine wpAnyH_done (by kernel_rfl) ?_ _
              have HSd6v2 := Lib.hid hHeld.1
              have HBn1d6v2 := Lib.hid (hHeld.2)
              clear hHeld HRK HRD HS53 HBn153
              go_wp2_with fail
              go_meet
              case rel => exact Lib.hid ⟨bn4, bn5, rfl, rfl, rfl, HSd6v2.out, HBn1d6v2.out, HXn422.out, HXn5222.out, HGn4.out, HNn4n1.out, HGn5.out, HNn5n1.out, (Ne.symm HNn4n5.out)⟩
          case g6_b0_7b =>
            rw [if_pos (by rfl)]
            refine wp_new (fun b => .pointer (some ⟨b, 0, none⟩)) 30 #[.int .i64 0, .int .i64 0, .int .i64 0, .int .i64 0, .int .i64 0, .int .i64 0, .int .i64 0, .bool false, .bool false, .int .i64 0, .int .i64 0, .bool false, .int .u64 0, .int .u64 0, .int .u64 0] (by rintro b rfl; first | rfl | kernel_rfl) ?_
            intro bn4 w55 hge hB hb
            refine hK.out _ _ (by (apply HRK.out; exact hb; exact hHeld)) (fun hHeld2 => ?_)
            have HNn4n1 := Lib.hid (show bn4 ≠ bn1 by have := Blk.lt (hHeld.2); (try simp at this); (try simp at hge); omega)
            have HGn4 := Lib.hid (show w.heap.size ≤ bn4 by have := Since.size hHeld.1; (try simp at this); (try simp at hge); omega)
            have HXn4 := Lib.hid hB
            clear hB
            clear hge
            clear hK K hHeld hb
            have hHeld := hHeld2
            clear hHeld2
            (try simp only [Act.put, sA, sB, sC])
            refine wpAnyH_ready (rs := [2, 8]) (by kernel_rfl) (by simp) ?_
            refine AllReadyH.cons (o := ?o6_b0b7_2b) ?h6_b0b7_2b (fun K hK => ?g6_b0b7_2b) (AllReadyH.cons (o := ?o6_b0b7_8b) ?h6_b0b7_8b (fun K hK => ?g6_b0b7_8b) AllReadyH.nil)
            case h6_b0b7_2b => (first | (simp only [gA, gB, gC]; done) | (simp only [gA, gB, gC]; exact rfl))
            case h6_b0b7_8b => (first | (simp only [gA, gB, gC]; done) | (simp only [gA, gB, gC]; exact rfl))
            case g6_b0b7_2b =>
              (try go_simp)
              refine (tickA k HLT.out _).mono ?_
              rintro e w56 ⟨rfl, hb⟩
              (try go_wp2_with fail)
              refine hK.out _ _ (by (apply HRK.out; exact hb; exact hHeld)) (fun hHeld2 => ?_)
              have HXn42 := Lib.hid (keep_blk hb HXn4.out)
              clear HXn4
              clear hK K hHeld hb
              have hHeld := hHeld2
              clear hHeld2
              (try simp only [Act.put, sA, sB, sC])
              refine tkQ 3 (.tuple #[.agg (carA (xs (k + 1))), .agg #[.int .i64 (tkF (xs k)), .int .i64 (tkW (xs k))], .bool (tkS (xs k))]) hHeld (h := ?_)
              (try simp only [Act.put, sA, sB, sC])
              refine tkQ 4 (.agg (carA (xs (k + 1)))) hHeld (h := ?_)
              (try simp only [Act.put, sA, sB, sC])
              refine tkQ 5 (.agg #[.int .i64 (tkF (xs k)), .int .i64 (tkW (xs k))]) hHeld (h := ?_)
              (try simp only [Act.put, sA, sB, sC])
              refine tkQ 6 (.bool (tkS (xs k))) hHeld (h := ?_)
              (try simp only [Act.put, sA, sB, sC])
              refine wpAnyH_ready (rs := [8]) (by kernel_rfl) (by simp) ?_
              refine AllReadyH.cons (o := ?o6_b0b7b2_8) ?h6_b0b7b2_8 (fun K hK => ?_) AllReadyH.nil
              case h6_b0b7b2_8 => (first | (simp only [gA, gB, gC]; done) | (simp only [gA, gB, gC]; exact rfl))
              rw [if_pos (by rfl)]
              refine wp_new (fun b => .pointer (some ⟨b, 0, none⟩)) 50 #[.int .i64 0, .int .i64 0] (by rintro b rfl; first | rfl | kernel_rfl) ?_
              intro bn5 w57 hge hB hb
              refine hK.out _ _ (by (apply HRK.out; exact hb; exact hHeld)) (fun hHeld2 => ?_)
              have HNn5n4 := Lib.hid (show bn5 ≠ bn4 by have := Blk.lt HXn42.out; omega)
              have HXn422 := Lib.hid (keep_blk hb HXn42.out)
              clear HXn42
              have HNn5n1 := Lib.hid (show bn5 ≠ bn1 by have := Blk.lt (hHeld.2); (try simp at this); (try simp at hge); omega)
              have HGn5 := Lib.hid (show w.heap.size ≤ bn5 by have := Since.size hHeld.1; (try simp at this); (try simp at hge); omega)
              have HXn5 := Lib.hid hB
              clear hB
              clear hge
              clear hK K hHeld hb
              have hHeld := hHeld2
              clear hHeld2
              (try simp only [Act.put, sA, sB, sC])
              refine wpAnyH_ready (rs := [9]) (by kernel_rfl) (by simp) ?_
              refine AllReadyH.cons (o := ?o6_b0b7b2_9) ?h6_b0b7b2_9 (fun K hK => ?_) AllReadyH.nil
              case h6_b0b7b2_9 => (first | (simp only [gA, gB, gC]; done) | (simp only [gA, gB, gC]; exact rfl))
              rw [if_pos (by rfl)]
              refine wp_st_row 30 _ _ rfl (carA (xs (k + 1))) rfl rfl (HasRow.of HXn422.out rfl) rfl (by simp [cfgA, carA, ctlA, Value.oneCell']) (by kernel_rfl) ?_
              intro w58 hw
              have HXn4222 := Lib.hid (show Blk w58 bn4 30 (carA (xs (k + 1))) by rw [hw]; exact Blk.row HXn422.out _)
              have HXn52 := Lib.hid (show Blk w58 bn5 50 #[.int .i64 0, .int .i64 0] by rw [hw]; exact Blk.row_far HXn5.out HNn5n4.out _)
              clear HXn5
              have hHeld3 : (fun W : World => Since w W ∧ Blk W bn1 30 (carA (xs k))) w58 := ⟨by rw [hw]; exact Since.setRow hHeld.1 HGn4.out _, by rw [hw]; exact Blk.row_far (hHeld.2) (Ne.symm HNn4n1.out) _⟩
              refine hK.out _ _ hHeld3 (fun hHeld2 => ?_)
              clear HXn422 hK K hHeld hHeld3 hw
              have hHeld := hHeld2
              clear hHeld2
              (try simp only [Act.put, sA, sB, sC])
              refine wpAnyH_ready (rs := [10]) (by kernel_rfl) (by simp) ?_
              refine AllReadyH.cons (o := ?o6_b0b7b2_10) ?h6_b0b7b2_10 (fun K hK => ?_) AllReadyH.nil
              case h6_b0b7b2_10 => (first | (simp only [gA, gB, gC]; done) | (simp only [gA, gB, gC]; exact rfl))
              rw [if_pos (by rfl)]
              refine wp_st_row 50 _ _ rfl #[.int .i64 (tkF (xs k)), .int .i64 (tkW (xs k))] rfl rfl (HasRow.of HXn52.out rfl) rfl (by simp [cfgA, carA, ctlA, Value.oneCell']) (by kernel_rfl) ?_
              intro w59 hw
              have HXn522 := Lib.hid (show Blk w59 bn5 50 #[.int .i64 (tkF (xs k)), .int .i64 (tkW (xs k))] by rw [hw]; exact Blk.row HXn52.out _)
              have HXn42222 := Lib.hid (show Blk w59 bn4 30 (carA (xs (k + 1))) by rw [hw]; exact Blk.row_far HXn4222.out (Ne.symm HNn5n4.out) _)
              clear HXn4222
              have hHeld3 : (fun W : World => Since w W ∧ Blk W bn1 30 (carA (xs k))) w59 := ⟨by rw [hw]; exact Since.setRow hHeld.1 HGn5.out _, by rw [hw]; exact Blk.row_far (hHeld.2) (Ne.symm HNn5n1.out) _⟩
              refine hK.out _ _ hHeld3 (fun hHeld2 => ?_)
              clear HXn52 hK K hHeld hHeld3 hw
              have hHeld := hHeld2
              clear hHeld2
              (try simp only [Act.put, sA, sB, sC])
              refine tkQ 11 (.bool (tkS (xs k))) hHeld (h := ?_)
              (try simp only [Act.put, sA, sB, sC])
              refine wpAnyH_done (by kernel_rfl) ?_ _
              have HSd6v3 := Lib.hid hHeld.1
              have HBn1d6v3 := Lib.hid (hHeld.2)
              clear hHeld HRK HRD HS53 HBn153
              go_wp2_with fail
              go_meet
              case rel => exact Lib.hid ⟨bn4, bn5, rfl, rfl, rfl, HSd6v3.out, HBn1d6v3.out, HXn42222.out, HXn522.out, HGn4.out, HNn4n1.out, HGn5.out, HNn5n1.out, HNn5n4.out⟩
            case g6_b0b7_8b =>
              rw [if_pos (by rfl)]
              refine wp_new (fun b => .pointer (some ⟨b, 0, none⟩)) 50 #[.int .i64 0, .int .i64 0] (by rintro b rfl; first | rfl | kernel_rfl) ?_
              intro bn5 w56 hge hB hb
              refine hK.out _ _ (by (apply HRK.out; exact hb; exact hHeld)) (fun hHeld2 => ?_)
              have HNn5n4 := Lib.hid (show bn5 ≠ bn4 by have := Blk.lt HXn4.out; omega)
              have HXn42 := Lib.hid (keep_blk hb HXn4.out)
              clear HXn4
              have HNn5n1 := Lib.hid (show bn5 ≠ bn1 by have := Blk.lt (hHeld.2); (try simp at this); (try simp at hge); omega)
              have HGn5 := Lib.hid (show w.heap.size ≤ bn5 by have := Since.size hHeld.1; (try simp at this); (try simp at hge); omega)
              have HXn5 := Lib.hid hB
              clear hB
              clear hge
              clear hK K hHeld hb
              have hHeld := hHeld2
              clear hHeld2
              (try simp only [Act.put, sA, sB, sC])
              refine wpAnyH_ready (rs := [2]) (by kernel_rfl) (by simp) ?_
              refine AllReadyH.cons (o := ?o6_b0b7b8_2) ?h6_b0b7b8_2 (fun K hK => ?_) AllReadyH.nil
              case h6_b0b7b8_2 => (first | (simp only [gA, gB, gC]; done) | (simp only [gA, gB, gC]; exact rfl))
              (try go_simp)
              refine (tickA k HLT.out _).mono ?_
              rintro e w57 ⟨rfl, hb⟩
              (try go_wp2_with fail)
              refine hK.out _ _ (by (apply HRK.out; exact hb; exact hHeld)) (fun hHeld2 => ?_)
              have HXn422 := Lib.hid (keep_blk hb HXn42.out)
              clear HXn42
              have HXn52 := Lib.hid (keep_blk hb HXn5.out)
              clear HXn5
              clear hK K hHeld hb
              have hHeld := hHeld2
              clear hHeld2
              (try simp only [Act.put, sA, sB, sC])
              refine tkQ 3 (.tuple #[.agg (carA (xs (k + 1))), .agg #[.int .i64 (tkF (xs k)), .int .i64 (tkW (xs k))], .bool (tkS (xs k))]) hHeld (h := ?_)
              (try simp only [Act.put, sA, sB, sC])
              refine tkQ 4 (.agg (carA (xs (k + 1)))) hHeld (h := ?_)
              (try simp only [Act.put, sA, sB, sC])
              refine tkQ 5 (.agg #[.int .i64 (tkF (xs k)), .int .i64 (tkW (xs k))]) hHeld (h := ?_)
              (try simp only [Act.put, sA, sB, sC])
              refine tkQ 6 (.bool (tkS (xs k))) hHeld (h := ?_)
              (try simp only [Act.put, sA, sB, sC])
              refine wpAnyH_ready (rs := [9]) (by kernel_rfl) (by simp) ?_
              refine AllReadyH.cons (o := ?o6_b0b7b8_9) ?h6_b0b7b8_9 (fun K hK => ?_) AllReadyH.nil
              case h6_b0b7b8_9 => (first | (simp only [gA, gB, gC]; done) | (simp only [gA, gB, gC]; exact rfl))
              rw [if_pos (by rfl)]
              refine wp_st_row 30 _ _ rfl (carA (xs (k + 1))) rfl rfl (HasRow.of HXn422.out rfl) rfl (by simp [cfgA, carA, ctlA, Value.oneCell']) (by kernel_rfl) ?_
              intro w58 hw
              have HXn4222 := Lib.hid (show Blk w58 bn4 30 (carA (xs (k + 1))) by rw [hw]; exact Blk.row HXn422.out _)
              have HXn522 := Lib.hid (show Blk w58 bn5 50 #[.int .i64 0, .int .i64 0] by rw [hw]; exact Blk.row_far HXn52.out HNn5n4.out _)
              clear HXn52
              have hHeld3 : (fun W : World => Since w W ∧ Blk W bn1 30 (carA (xs k))) w58 := ⟨by rw [hw]; exact Since.setRow hHeld.1 HGn4.out _, by rw [hw]; exact Blk.row_far (hHeld.2) (Ne.symm HNn4n1.out) _⟩
              refine hK.out _ _ hHeld3 (fun hHeld2 => ?_)
              clear HXn422 hK K hHeld hHeld3 hw
              have hHeld := hHeld2
              clear hHeld2
              (try simp only [Act.put, sA, sB, sC])
              refine wpAnyH_ready (rs := [10]) (by kernel_rfl) (by simp) ?_
              refine AllReadyH.cons (o := ?o6_b0b7b8_10) ?h6_b0b7b8_10 (fun K hK => ?_) AllReadyH.nil
              case h6_b0b7b8_10 => (first | (simp only [gA, gB, gC]; done) | (simp only [gA, gB, gC]; exact rfl))
              rw [if_pos (by rfl)]
              refine wp_st_row 50 _ _ rfl #[.int .i64 (tkF (xs k)), .int .i64 (tkW (xs k))] rfl rfl (HasRow.of HXn522.out rfl) rfl (by simp [cfgA, carA, ctlA, Value.oneCell']) (by kernel_rfl) ?_
              intro w59 hw
              have HXn5222 := Lib.hid (show Blk w59 bn5 50 #[.int .i64 (tkF (xs k)), .int .i64 (tkW (xs k))] by rw [hw]; exact Blk.row HXn522.out _)
              have HXn42222 := Lib.hid (show Blk w59 bn4 30 (carA (xs (k + 1))) by rw [hw]; exact Blk.row_far HXn4222.out (Ne.symm HNn5n4.out) _)
              clear HXn4222
              have hHeld3 : (fun W : World => Since w W ∧ Blk W bn1 30 (carA (xs k))) w59 := ⟨by rw [hw]; exact Since.setRow hHeld.1 HGn5.out _, by rw [hw]; exact Blk.row_far (hHeld.2) (Ne.symm HNn5n1.out) _⟩
              refine hK.out _ _ hHeld3 (fun hHeld2 => ?_)
              clear HXn522 hK K hHeld hHeld3 hw
              have hHeld := hHeld2
              clear hHeld2
              (try simp only [Act.put, sA, sB, sC])
              refine tkQ 11 (.bool (tkS (xs k))) hHeld (h := ?_)
              (try simp only [Act.put, sA, sB, sC])
              refine wpAnyH_done (by kernel_rfl) ?_ _
              have HSd6v4 := Lib.hid hHeld.1
              have HBn1d6v4 := Lib.hid (hHeld.2)
              clear hHeld HRK HRD HS53 HBn153
              go_wp2_with fail
              go_meet
              case rel => exact Lib.hid ⟨bn4, bn5, rfl, rfl, rfl, HSd6v4.out, HBn1d6v4.out, HXn42222.out, HXn5222.out, HGn4.out, HNn4n1.out, HGn5.out, HNn5n1.out, HNn5n4.out⟩
          case g6_b0_8b =>
            rw [if_pos (by rfl)]
            refine wp_new (fun b => .pointer (some ⟨b, 0, none⟩)) 50 #[.int .i64 0, .int .i64 0] (by rintro b rfl; first | rfl | kernel_rfl) ?_
            intro bn5 w55 hge hB hb
            refine hK.out _ _ (by (apply HRK.out; exact hb; exact hHeld)) (fun hHeld2 => ?_)
            have HNn5n1 := Lib.hid (show bn5 ≠ bn1 by have := Blk.lt (hHeld.2); (try simp at this); (try simp at hge); omega)
            have HGn5 := Lib.hid (show w.heap.size ≤ bn5 by have := Since.size hHeld.1; (try simp at this); (try simp at hge); omega)
            have HXn5 := Lib.hid hB
            clear hB
            clear hge
            clear hK K hHeld hb
            have hHeld := hHeld2
            clear hHeld2
            (try simp only [Act.put, sA, sB, sC])
            refine wpAnyH_ready (rs := [2, 7]) (by kernel_rfl) (by simp) ?_
            refine AllReadyH.cons (o := ?o6_b0b8_2b) ?h6_b0b8_2b (fun K hK => ?g6_b0b8_2b) (AllReadyH.cons (o := ?o6_b0b8_7b) ?h6_b0b8_7b (fun K hK => ?g6_b0b8_7b) AllReadyH.nil)
            case h6_b0b8_2b => (first | (simp only [gA, gB, gC]; done) | (simp only [gA, gB, gC]; exact rfl))
            case h6_b0b8_7b => (first | (simp only [gA, gB, gC]; done) | (simp only [gA, gB, gC]; exact rfl))
            case g6_b0b8_2b =>
              (try go_simp)
              refine (tickA k HLT.out _).mono ?_
              rintro e w56 ⟨rfl, hb⟩
              (try go_wp2_with fail)
              refine hK.out _ _ (by (apply HRK.out; exact hb; exact hHeld)) (fun hHeld2 => ?_)
              have HXn52 := Lib.hid (keep_blk hb HXn5.out)
              clear HXn5
              clear hK K hHeld hb
              have hHeld := hHeld2
              clear hHeld2
              (try simp only [Act.put, sA, sB, sC])
              refine tkQ 3 (.tuple #[.agg (carA (xs (k + 1))), .agg #[.int .i64 (tkF (xs k)), .int .i64 (tkW (xs k))], .bool (tkS (xs k))]) hHeld (h := ?_)
              (try simp only [Act.put, sA, sB, sC])
              refine tkQ 4 (.agg (carA (xs (k + 1)))) hHeld (h := ?_)
              (try simp only [Act.put, sA, sB, sC])
              refine tkQ 5 (.agg #[.int .i64 (tkF (xs k)), .int .i64 (tkW (xs k))]) hHeld (h := ?_)
              (try simp only [Act.put, sA, sB, sC])
              refine tkQ 6 (.bool (tkS (xs k))) hHeld (h := ?_)
              (try simp only [Act.put, sA, sB, sC])
              refine wpAnyH_ready (rs := [7]) (by kernel_rfl) (by simp) ?_
              refine AllReadyH.cons (o := ?o6_b0b8b2_7) ?h6_b0b8b2_7 (fun K hK => ?_) AllReadyH.nil
              case h6_b0b8b2_7 => (first | (simp only [gA, gB, gC]; done) | (simp only [gA, gB, gC]; exact rfl))
              rw [if_pos (by rfl)]
              refine wp_new (fun b => .pointer (some ⟨b, 0, none⟩)) 30 #[.int .i64 0, .int .i64 0, .int .i64 0, .int .i64 0, .int .i64 0, .int .i64 0, .int .i64 0, .bool false, .bool false, .int .i64 0, .int .i64 0, .bool false, .int .u64 0, .int .u64 0, .int .u64 0] (by rintro b rfl; first | rfl | kernel_rfl) ?_
              intro bn4 w57 hge hB hb
              refine hK.out _ _ (by (apply HRK.out; exact hb; exact hHeld)) (fun hHeld2 => ?_)
              have HNn4n5 := Lib.hid (show bn4 ≠ bn5 by have := Blk.lt HXn52.out; omega)
              have HXn522 := Lib.hid (keep_blk hb HXn52.out)
              clear HXn52
              have HNn4n1 := Lib.hid (show bn4 ≠ bn1 by have := Blk.lt (hHeld.2); (try simp at this); (try simp at hge); omega)
              have HGn4 := Lib.hid (show w.heap.size ≤ bn4 by have := Since.size hHeld.1; (try simp at this); (try simp at hge); omega)
              have HXn4 := Lib.hid hB
              clear hB
              clear hge
              clear hK K hHeld hb
              have hHeld := hHeld2
              clear hHeld2
              (try simp only [Act.put, sA, sB, sC])
              refine wpAnyH_ready (rs := [9]) (by kernel_rfl) (by simp) ?_
              refine AllReadyH.cons (o := ?o6_b0b8b2_9) ?h6_b0b8b2_9 (fun K hK => ?_) AllReadyH.nil
              case h6_b0b8b2_9 => (first | (simp only [gA, gB, gC]; done) | (simp only [gA, gB, gC]; exact rfl))
              rw [if_pos (by rfl)]
              refine wp_st_row 30 _ _ rfl (carA (xs (k + 1))) rfl rfl (HasRow.of HXn4.out rfl) rfl (by simp [cfgA, carA, ctlA, Value.oneCell']) (by kernel_rfl) ?_
              intro w58 hw
              have HXn42 := Lib.hid (show Blk w58 bn4 30 (carA (xs (k + 1))) by rw [hw]; exact Blk.row HXn4.out _)
              have HXn5222 := Lib.hid (show Blk w58 bn5 50 #[.int .i64 0, .int .i64 0] by rw [hw]; exact Blk.row_far HXn522.out (Ne.symm HNn4n5.out) _)
              clear HXn522
              have hHeld3 : (fun W : World => Since w W ∧ Blk W bn1 30 (carA (xs k))) w58 := ⟨by rw [hw]; exact Since.setRow hHeld.1 HGn4.out _, by rw [hw]; exact Blk.row_far (hHeld.2) (Ne.symm HNn4n1.out) _⟩
              refine hK.out _ _ hHeld3 (fun hHeld2 => ?_)
              clear HXn4 hK K hHeld hHeld3 hw
              have hHeld := hHeld2
              clear hHeld2
              (try simp only [Act.put, sA, sB, sC])
              refine wpAnyH_ready (rs := [10]) (by kernel_rfl) (by simp) ?_
              refine AllReadyH.cons (o := ?o6_b0b8b2_10) ?h6_b0b8b2_10 (fun K hK => ?_) AllReadyH.nil
              case h6_b0b8b2_10 => (first | (simp only [gA, gB, gC]; done) | (simp only [gA, gB, gC]; exact rfl))
              rw [if_pos (by rfl)]
              refine wp_st_row 50 _ _ rfl #[.int .i64 (tkF (xs k)), .int .i64 (tkW (xs k))] rfl rfl (HasRow.of HXn5222.out rfl) rfl (by simp [cfgA, carA, ctlA, Value.oneCell']) (by kernel_rfl) ?_
              intro w59 hw
              have HXn52222 := Lib.hid (show Blk w59 bn5 50 #[.int .i64 (tkF (xs k)), .int .i64 (tkW (xs k))] by rw [hw]; exact Blk.row HXn5222.out _)
              have HXn422 := Lib.hid (show Blk w59 bn4 30 (carA (xs (k + 1))) by rw [hw]; exact Blk.row_far HXn42.out HNn4n5.out _)
              clear HXn42
              have hHeld3 : (fun W : World => Since w W ∧ Blk W bn1 30 (carA (xs k))) w59 := ⟨by rw [hw]; exact Since.setRow hHeld.1 HGn5.out _, by rw [hw]; exact Blk.row_far (hHeld.2) (Ne.symm HNn5n1.out) _⟩
              refine hK.out _ _ hHeld3 (fun hHeld2 => ?_)
              clear HXn5222 hK K hHeld hHeld3 hw
              have hHeld := hHeld2
              clear hHeld2
              (try simp only [Act.put, sA, sB, sC])
              refine tkQ 11 (.bool (tkS (xs k))) hHeld (h := ?_)
              (try simp only [Act.put, sA, sB, sC])
              refine wpAnyH_done (by kernel_rfl) ?_ _
              have HSd6v5 := Lib.hid hHeld.1
              have HBn1d6v5 := Lib.hid (hHeld.2)
              clear hHeld HRK HRD HS53 HBn153
              go_wp2_with fail
              go_meet
              case rel => exact Lib.hid ⟨bn4, bn5, rfl, rfl, rfl, HSd6v5.out, HBn1d6v5.out, HXn422.out, HXn52222.out, HGn4.out, HNn4n1.out, HGn5.out, HNn5n1.out, (Ne.symm HNn4n5.out)⟩
            case g6_b0b8_7b =>
              rw [if_pos (by rfl)]
              refine wp_new (fun b => .pointer (some ⟨b, 0, none⟩)) 30 #[.int .i64 0, .int .i64 0, .int .i64 0, .int .i64 0, .int .i64 0, .int .i64 0, .int .i64 0, .bool false, .bool false, .int .i64 0, .int .i64 0, .bool false, .int .u64 0, .int .u64 0, .int .u64 0] (by rintro b rfl; first | rfl | kernel_rfl) ?_
              intro bn4 w56 hge hB hb
              refine hK.out _ _ (by (apply HRK.out; exact hb; exact hHeld)) (fun hHeld2 => ?_)
              have HNn4n5 := Lib.hid (show bn4 ≠ bn5 by have := Blk.lt HXn5.out; omega)
              have HXn52 := Lib.hid (keep_blk hb HXn5.out)
              clear HXn5
              have HNn4n1 := Lib.hid (show bn4 ≠ bn1 by have := Blk.lt (hHeld.2); (try simp at this); (try simp at hge); omega)
              have HGn4 := Lib.hid (show w.heap.size ≤ bn4 by have := Since.size hHeld.1; (try simp at this); (try simp at hge); omega)
              have HXn4 := Lib.hid hB
              clear hB
              clear hge
              clear hK K hHeld hb
              have hHeld := hHeld2
              clear hHeld2
              (try simp only [Act.put, sA, sB, sC])
              refine wpAnyH_ready (rs := [2]) (by kernel_rfl) (by simp) ?_
              refine AllReadyH.cons (o := ?o6_b0b8b7_2) ?h6_b0b8b7_2 (fun K hK => ?_) AllReadyH.nil
              case h6_b0b8b7_2 => (first | (simp only [gA, gB, gC]; done) | (simp only [gA, gB, gC]; exact rfl))
              (try go_simp)
              refine (tickA k HLT.out _).mono ?_
              rintro e w57 ⟨rfl, hb⟩
              (try go_wp2_with fail)
              refine hK.out _ _ (by (apply HRK.out; exact hb; exact hHeld)) (fun hHeld2 => ?_)
              have HXn522 := Lib.hid (keep_blk hb HXn52.out)
              clear HXn52
              have HXn42 := Lib.hid (keep_blk hb HXn4.out)
              clear HXn4
              clear hK K hHeld hb
              have hHeld := hHeld2
              clear hHeld2
              (try simp only [Act.put, sA, sB, sC])
              refine tkQ 3 (.tuple #[.agg (carA (xs (k + 1))), .agg #[.int .i64 (tkF (xs k)), .int .i64 (tkW (xs k))], .bool (tkS (xs k))]) hHeld (h := ?_)
              (try simp only [Act.put, sA, sB, sC])
              refine tkQ 4 (.agg (carA (xs (k + 1)))) hHeld (h := ?_)
              (try simp only [Act.put, sA, sB, sC])
              refine tkQ 5 (.agg #[.int .i64 (tkF (xs k)), .int .i64 (tkW (xs k))]) hHeld (h := ?_)
              (try simp only [Act.put, sA, sB, sC])
              refine tkQ 6 (.bool (tkS (xs k))) hHeld (h := ?_)
              (try simp only [Act.put, sA, sB, sC])
              refine wpAnyH_ready (rs := [9]) (by kernel_rfl) (by simp) ?_
              refine AllReadyH.cons (o := ?o6_b0b8b7_9) ?h6_b0b8b7_9 (fun K hK => ?_) AllReadyH.nil
              case h6_b0b8b7_9 => (first | (simp only [gA, gB, gC]; done) | (simp only [gA, gB, gC]; exact rfl))
              rw [if_pos (by rfl)]
              refine wp_st_row 30 _ _ rfl (carA (xs (k + 1))) rfl rfl (HasRow.of HXn42.out rfl) rfl (by simp [cfgA, carA, ctlA, Value.oneCell']) (by kernel_rfl) ?_
              intro w58 hw
              have HXn422 := Lib.hid (show Blk w58 bn4 30 (carA (xs (k + 1))) by rw [hw]; exact Blk.row HXn42.out _)
              have HXn5222 := Lib.hid (show Blk w58 bn5 50 #[.int .i64 0, .int .i64 0] by rw [hw]; exact Blk.row_far HXn522.out (Ne.symm HNn4n5.out) _)
              clear HXn522
              have hHeld3 : (fun W : World => Since w W ∧ Blk W bn1 30 (carA (xs k))) w58 := ⟨by rw [hw]; exact Since.setRow hHeld.1 HGn4.out _, by rw [hw]; exact Blk.row_far (hHeld.2) (Ne.symm HNn4n1.out) _⟩
              refine hK.out _ _ hHeld3 (fun hHeld2 => ?_)
              clear HXn42 hK K hHeld hHeld3 hw
              have hHeld := hHeld2
              clear hHeld2
              (try simp only [Act.put, sA, sB, sC])
              refine wpAnyH_ready (rs := [10]) (by kernel_rfl) (by simp) ?_
              refine AllReadyH.cons (o := ?o6_b0b8b7_10) ?h6_b0b8b7_10 (fun K hK => ?_) AllReadyH.nil
              case h6_b0b8b7_10 => (first | (simp only [gA, gB, gC]; done) | (simp only [gA, gB, gC]; exact rfl))
              rw [if_pos (by rfl)]
              refine wp_st_row 50 _ _ rfl #[.int .i64 (tkF (xs k)), .int .i64 (tkW (xs k))] rfl rfl (HasRow.of HXn5222.out rfl) rfl (by simp [cfgA, carA, ctlA, Value.oneCell']) (by kernel_rfl) ?_
              intro w59 hw
              have HXn52222 := Lib.hid (show Blk w59 bn5 50 #[.int .i64 (tkF (xs k)), .int .i64 (tkW (xs k))] by rw [hw]; exact Blk.row HXn5222.out _)
              have HXn4222 := Lib.hid (show Blk w59 bn4 30 (carA (xs (k + 1))) by rw [hw]; exact Blk.row_far HXn422.out HNn4n5.out _)
              clear HXn422
              have hHeld3 : (fun W : World => Since w W ∧ Blk W bn1 30 (carA (xs k))) w59 := ⟨by rw [hw]; exact Since.setRow hHeld.1 HGn5.out _, by rw [hw]; exact Blk.row_far (hHeld.2) (Ne.symm HNn5n1.out) _⟩
              refine hK.out _ _ hHeld3 (fun hHeld2 => ?_)
              clear HXn5222 hK K hHeld hHeld3 hw
              have hHeld := hHeld2
              clear hHeld2
              (try simp only [Act.put, sA, sB, sC])
              refine tkQ 11 (.bool (tkS (xs k))) hHeld (h := ?_)
              (try simp only [Act.put, sA, sB, sC])
              refine wpAnyH_done (by kernel_rfl) ?_ _
              have HSd6v6 := Lib.hid hHeld.1
              have HBn1d6v6 := Lib.hid (hHeld.2)
              clear hHeld HRK HRD HS53 HBn153
              go_wp2_with fail
              go_meet
              case rel => exact Lib.hid ⟨bn4, bn5, rfl, rfl, rfl, HSd6v6.out, HBn1d6v6.out, HXn4222.out, HXn52222.out, HGn4.out, HNn4n1.out, HGn5.out, HNn5n1.out, (Ne.symm HNn4n5.out)⟩
        case g6__7b =>
          rw [if_pos (by rfl)]
          refine wp_new (fun b => .pointer (some ⟨b, 0, none⟩)) 30 #[.int .i64 0, .int .i64 0, .int .i64 0, .int .i64 0, .int .i64 0, .int .i64 0, .int .i64 0, .bool false, .bool false, .int .i64 0, .int .i64 0, .bool false, .int .u64 0, .int .u64 0, .int .u64 0] (by rintro b rfl; first | rfl | kernel_rfl) ?_
          intro bn4 w54 hge hB hb
          refine hK.out _ _ (by (apply HRK.out; exact hb; exact hHeld)) (fun hHeld2 => ?_)
          have HNn4n1 := Lib.hid (show bn4 ≠ bn1 by have := Blk.lt (hHeld.2); (try simp at this); (try simp at hge); omega)
          have HGn4 := Lib.hid (show w.heap.size ≤ bn4 by have := Since.size hHeld.1; (try simp at this); (try simp at hge); omega)
          have HXn4 := Lib.hid hB
          clear hB
          clear hge
          clear hK K hHeld hb
          have hHeld := hHeld2
          clear hHeld2
          (try simp only [Act.put, sA, sB, sC])
          refine wpAnyH_ready (rs := [0, 8]) (by kernel_rfl) (by simp) ?_
          refine AllReadyH.cons (o := ?o6_b7_0b) ?h6_b7_0b (fun K hK => ?g6_b7_0b) (AllReadyH.cons (o := ?o6_b7_8b) ?h6_b7_8b (fun K hK => ?g6_b7_8b) AllReadyH.nil)
          case h6_b7_0b => (first | (simp only [gA, gB, gC]; done) | (simp only [gA, gB, gC]; exact rfl))
          case h6_b7_8b => (first | (simp only [gA, gB, gC]; done) | (simp only [gA, gB, gC]; exact rfl))
          case g6_b7_0b =>
            (try go_simp)
            refine (configA _).mono ?_
            rintro e w55 ⟨rfl, hb⟩
            (try go_wp2_with fail)
            refine hK.out _ _ (by (apply HRK.out; exact hb; exact hHeld)) (fun hHeld2 => ?_)
            have HXn42 := Lib.hid (keep_blk hb HXn4.out)
            clear HXn4
            clear hK K hHeld hb
            have hHeld := hHeld2
            clear hHeld2
            (try simp only [Act.put, sA, sB, sC])
            refine wpAnyH_ready (rs := [2, 8]) (by kernel_rfl) (by simp) ?_
            refine AllReadyH.cons (o := ?o6_b7b0_2b) ?h6_b7b0_2b (fun K hK => ?g6_b7b0_2b) (AllReadyH.cons (o := ?o6_b7b0_8b) ?h6_b7b0_8b (fun K hK => ?g6_b7b0_8b) AllReadyH.nil)
            case h6_b7b0_2b => (first | (simp only [gA, gB, gC]; done) | (simp only [gA, gB, gC]; exact rfl))
            case h6_b7b0_8b => (first | (simp only [gA, gB, gC]; done) | (simp only [gA, gB, gC]; exact rfl))
            case g6_b7b0_2b =>
              (try go_simp)
              refine (tickA k HLT.out _).mono ?_
              rintro e w56 ⟨rfl, hb⟩
              (try go_wp2_with fail)
              refine hK.out _ _ (by (apply HRK.out; exact hb; exact hHeld)) (fun hHeld2 => ?_)
              have HXn422 := Lib.hid (keep_blk hb HXn42.out)
              clear HXn42
              clear hK K hHeld hb
              have hHeld := hHeld2
              clear hHeld2
              (try simp only [Act.put, sA, sB, sC])
              refine tkQ 3 (.tuple #[.agg (carA (xs (k + 1))), .agg #[.int .i64 (tkF (xs k)), .int .i64 (tkW (xs k))], .bool (tkS (xs k))]) hHeld (h := ?_)
              (try simp only [Act.put, sA, sB, sC])
              refine tkQ 4 (.agg (carA (xs (k + 1)))) hHeld (h := ?_)
              (try simp only [Act.put, sA, sB, sC])
              refine tkQ 5 (.agg #[.int .i64 (tkF (xs k)), .int .i64 (tkW (xs k))]) hHeld (h := ?_)
              (try simp only [Act.put, sA, sB, sC])
              refine tkQ 6 (.bool (tkS (xs k))) hHeld (h := ?_)
              (try simp only [Act.put, sA, sB, sC])
              refine wpAnyH_ready (rs := [8]) (by kernel_rfl) (by simp) ?_
              refine AllReadyH.cons (o := ?o6_b7b0b2_8) ?h6_b7b0b2_8 (fun K hK => ?_) AllReadyH.nil
              case h6_b7b0b2_8 => (first | (simp only [gA, gB, gC]; done) | (simp only [gA, gB, gC]; exact rfl))
              rw [if_pos (by rfl)]
              refine wp_new (fun b => .pointer (some ⟨b, 0, none⟩)) 50 #[.int .i64 0, .int .i64 0] (by rintro b rfl; first | rfl | kernel_rfl) ?_
              intro bn5 w57 hge hB hb
              refine hK.out _ _ (by (apply HRK.out; exact hb; exact hHeld)) (fun hHeld2 => ?_)
              have HNn5n4 := Lib.hid (show bn5 ≠ bn4 by have := Blk.lt HXn422.out; omega)
              have HXn4222 := Lib.hid (keep_blk hb HXn422.out)
              clear HXn422
              have HNn5n1 := Lib.hid (show bn5 ≠ bn1 by have := Blk.lt (hHeld.2); (try simp at this); (try simp at hge); omega)
              have HGn5 := Lib.hid (show w.heap.size ≤ bn5 by have := Since.size hHeld.1; (try simp at this); (try simp at hge); omega)
              have HXn5 := Lib.hid hB
              clear hB
              clear hge
              clear hK K hHeld hb
              have hHeld := hHeld2
              clear hHeld2
              (try simp only [Act.put, sA, sB, sC])
              refine wpAnyH_ready (rs := [9]) (by kernel_rfl) (by simp) ?_
              refine AllReadyH.cons (o := ?o6_b7b0b2_9) ?h6_b7b0b2_9 (fun K hK => ?_) AllReadyH.nil
              case h6_b7b0b2_9 => (first | (simp only [gA, gB, gC]; done) | (simp only [gA, gB, gC]; exact rfl))
              rw [if_pos (by rfl)]
              refine wp_st_row 30 _ _ rfl (carA (xs (k + 1))) rfl rfl (HasRow.of HXn4222.out rfl) rfl (by simp [cfgA, carA, ctlA, Value.oneCell']) (by kernel_rfl) ?_
              intro w58 hw
              have HXn42222 := Lib.hid (show Blk w58 bn4 30 (carA (xs (k + 1))) by rw [hw]; exact Blk.row HXn4222.out _)
              have HXn52 := Lib.hid (show Blk w58 bn5 50 #[.int .i64 0, .int .i64 0] by rw [hw]; exact Blk.row_far HXn5.out HNn5n4.out _)
              clear HXn5
              have hHeld3 : (fun W : World => Since w W ∧ Blk W bn1 30 (carA (xs k))) w58 := ⟨by rw [hw]; exact Since.setRow hHeld.1 HGn4.out _, by rw [hw]; exact Blk.row_far (hHeld.2) (Ne.symm HNn4n1.out) _⟩
              refine hK.out _ _ hHeld3 (fun hHeld2 => ?_)
              clear HXn4222 hK K hHeld hHeld3 hw
              have hHeld := hHeld2
              clear hHeld2
              (try simp only [Act.put, sA, sB, sC])
              refine wpAnyH_ready (rs := [10]) (by kernel_rfl) (by simp) ?_
              refine AllReadyH.cons (o := ?o6_b7b0b2_10) ?h6_b7b0b2_10 (fun K hK => ?_) AllReadyH.nil
              case h6_b7b0b2_10 => (first | (simp only [gA, gB, gC]; done) | (simp only [gA, gB, gC]; exact rfl))
              rw [if_pos (by rfl)]
              refine wp_st_row 50 _ _ rfl #[.int .i64 (tkF (xs k)), .int .i64 (tkW (xs k))] rfl rfl (HasRow.of HXn52.out rfl) rfl (by simp [cfgA, carA, ctlA, Value.oneCell']) (by kernel_rfl) ?_
              intro w59 hw
              have HXn522 := Lib.hid (show Blk w59 bn5 50 #[.int .i64 (tkF (xs k)), .int .i64 (tkW (xs k))] by rw [hw]; exact Blk.row HXn52.out _)
              have HXn422222 := Lib.hid (show Blk w59 bn4 30 (carA (xs (k + 1))) by rw [hw]; exact Blk.row_far HXn42222.out (Ne.symm HNn5n4.out) _)
              clear HXn42222
              have hHeld3 : (fun W : World => Since w W ∧ Blk W bn1 30 (carA (xs k))) w59 := ⟨by rw [hw]; exact Since.setRow hHeld.1 HGn5.out _, by rw [hw]; exact Blk.row_far (hHeld.2) (Ne.symm HNn5n1.out) _⟩
              refine hK.out _ _ hHeld3 (fun hHeld2 => ?_)
              clear HXn52 hK K hHeld hHeld3 hw
              have hHeld := hHeld2
              clear hHeld2
              (try simp only [Act.put, sA, sB, sC])
              refine tkQ 11 (.bool (tkS (xs k))) hHeld (h := ?_)
              (try simp only [Act.put, sA, sB, sC])
              refine wpAnyH_done (by kernel_rfl) ?_ _
              have HSd6v7 := Lib.hid hHeld.1
              have HBn1d6v7 := Lib.hid (hHeld.2)
              clear hHeld HRK HRD HS53 HBn153
              go_wp2_with fail
              go_meet
              case rel => exact Lib.hid ⟨bn4, bn5, rfl, rfl, rfl, HSd6v7.out, HBn1d6v7.out, HXn422222.out, HXn522.out, HGn4.out, HNn4n1.out, HGn5.out, HNn5n1.out, HNn5n4.out⟩
            case g6_b7b0_8b =>
              rw [if_pos (by rfl)]
              refine wp_new (fun b => .pointer (some ⟨b, 0, none⟩)) 50 #[.int .i64 0, .int .i64 0] (by rintro b rfl; first | rfl | kernel_rfl) ?_
              intro bn5 w56 hge hB hb
              refine hK.out _ _ (by (apply HRK.out; exact hb; exact hHeld)) (fun hHeld2 => ?_)
              have HNn5n4 := Lib.hid (show bn5 ≠ bn4 by have := Blk.lt HXn42.out; omega)
              have HXn422 := Lib.hid (keep_blk hb HXn42.out)
              clear HXn42
              have HNn5n1 := Lib.hid (show bn5 ≠ bn1 by have := Blk.lt (hHeld.2); (try simp at this); (try simp at hge); omega)
              have HGn5 := Lib.hid (show w.heap.size ≤ bn5 by have := Since.size hHeld.1; (try simp at this); (try simp at hge); omega)
              have HXn5 := Lib.hid hB
              clear hB
              clear hge
              clear hK K hHeld hb
              have hHeld := hHeld2
              clear hHeld2
              (try simp only [Act.put, sA, sB, sC])
              refine wpAnyH_ready (rs := [2]) (by kernel_rfl) (by simp) ?_
              refine AllReadyH.cons (o := ?o6_b7b0b8_2) ?h6_b7b0b8_2 (fun K hK => ?_) AllReadyH.nil
              case h6_b7b0b8_2 => (first | (simp only [gA, gB, gC]; done) | (simp only [gA, gB, gC]; exact rfl))
              (try go_simp)
              refine (tickA k HLT.out _).mono ?_
              rintro e w57 ⟨rfl, hb⟩
              (try go_wp2_with fail)
              refine hK.out _ _ (by (apply HRK.out; exact hb; exact hHeld)) (fun hHeld2 => ?_)
              have HXn4222 := Lib.hid (keep_blk hb HXn422.out)
              clear HXn422
              have HXn52 := Lib.hid (keep_blk hb HXn5.out)
              clear HXn5
              clear hK K hHeld hb
              have hHeld := hHeld2
              clear hHeld2
              (try simp only [Act.put, sA, sB, sC])
              refine tkQ 3 (.tuple #[.agg (carA (xs (k + 1))), .agg #[.int .i64 (tkF (xs k)), .int .i64 (tkW (xs k))], .bool (tkS (xs k))]) hHeld (h := ?_)
              (try simp only [Act.put, sA, sB, sC])
              refine tkQ 4 (.agg (carA (xs (k + 1)))) hHeld (h := ?_)
              (try simp only [Act.put, sA, sB, sC])
              refine tkQ 5 (.agg #[.int .i64 (tkF (xs k)), .int .i64 (tkW (xs k))]) hHeld (h := ?_)
              (try simp only [Act.put, sA, sB, sC])
              refine tkQ 6 (.bool (tkS (xs k))) hHeld (h := ?_)
              (try simp only [Act.put, sA, sB, sC])
              refine wpAnyH_ready (rs := [9]) (by kernel_rfl) (by simp) ?_
              refine AllReadyH.cons (o := ?o6_b7b0b8_9) ?h6_b7b0b8_9 (fun K hK => ?_) AllReadyH.nil
              case h6_b7b0b8_9 => (first | (simp only [gA, gB, gC]; done) | (simp only [gA, gB, gC]; exact rfl))
              rw [if_pos (by rfl)]
              refine wp_st_row 30 _ _ rfl (carA (xs (k + 1))) rfl rfl (HasRow.of HXn4222.out rfl) rfl (by simp [cfgA, carA, ctlA, Value.oneCell']) (by kernel_rfl) ?_
              intro w58 hw
              have HXn42222 := Lib.hid (show Blk w58 bn4 30 (carA (xs (k + 1))) by rw [hw]; exact Blk.row HXn4222.out _)
              have HXn522 := Lib.hid (show Blk w58 bn5 50 #[.int .i64 0, .int .i64 0] by rw [hw]; exact Blk.row_far HXn52.out HNn5n4.out _)
              clear HXn52
              have hHeld3 : (fun W : World => Since w W ∧ Blk W bn1 30 (carA (xs k))) w58 := ⟨by rw [hw]; exact Since.setRow hHeld.1 HGn4.out _, by rw [hw]; exact Blk.row_far (hHeld.2) (Ne.symm HNn4n1.out) _⟩
              refine hK.out _ _ hHeld3 (fun hHeld2 => ?_)
              clear HXn4222 hK K hHeld hHeld3 hw
              have hHeld := hHeld2
              clear hHeld2
              (try simp only [Act.put, sA, sB, sC])
              refine wpAnyH_ready (rs := [10]) (by kernel_rfl) (by simp) ?_
              refine AllReadyH.cons (o := ?o6_b7b0b8_10) ?h6_b7b0b8_10 (fun K hK => ?_) AllReadyH.nil
              case h6_b7b0b8_10 => (first | (simp only [gA, gB, gC]; done) | (simp only [gA, gB, gC]; exact rfl))
              rw [if_pos (by rfl)]
              refine wp_st_row 50 _ _ rfl #[.int .i64 (tkF (xs k)), .int .i64 (tkW (xs k))] rfl rfl (HasRow.of HXn522.out rfl) rfl (by simp [cfgA, carA, ctlA, Value.oneCell']) (by kernel_rfl) ?_
              intro w59 hw
              have HXn5222 := Lib.hid (show Blk w59 bn5 50 #[.int .i64 (tkF (xs k)), .int .i64 (tkW (xs k))] by rw [hw]; exact Blk.row HXn522.out _)
              have HXn422222 := Lib.hid (show Blk w59 bn4 30 (carA (xs (k + 1))) by rw [hw]; exact Blk.row_far HXn42222.out (Ne.symm HNn5n4.out) _)
              clear HXn42222
              have hHeld3 : (fun W : World => Since w W ∧ Blk W bn1 30 (carA (xs k))) w59 := ⟨by rw [hw]; exact Since.setRow hHeld.1 HGn5.out _, by rw [hw]; exact Blk.row_far (hHeld.2) (Ne.symm HNn5n1.out) _⟩
              refine hK.out _ _ hHeld3 (fun hHeld2 => ?_)
              clear HXn522 hK K hHeld hHeld3 hw
              have hHeld := hHeld2
              clear hHeld2
              (try simp only [Act.put, sA, sB, sC])
              refine tkQ 11 (.bool (tkS (xs k))) hHeld (h := ?_)
              (try simp only [Act.put, sA, sB, sC])
              refine wpAnyH_done (by kernel_rfl) ?_ _
              have HSd6v8 := Lib.hid hHeld.1
              have HBn1d6v8 := Lib.hid (hHeld.2)
              clear hHeld HRK HRD HS53 HBn153
              go_wp2_with fail
              go_meet
              case rel => exact Lib.hid ⟨bn4, bn5, rfl, rfl, rfl, HSd6v8.out, HBn1d6v8.out, HXn422222.out, HXn5222.out, HGn4.out, HNn4n1.out, HGn5.out, HNn5n1.out, HNn5n4.out⟩
          case g6_b7_8b =>
            rw [if_pos (by rfl)]
            refine wp_new (fun b => .pointer (some ⟨b, 0, none⟩)) 50 #[.int .i64 0, .int .i64 0] (by rintro b rfl; first | rfl | kernel_rfl) ?_
            intro bn5 w55 hge hB hb
            refine hK.out _ _ (by (apply HRK.out; exact hb; exact hHeld)) (fun hHeld2 => ?_)
            have HNn5n4 := Lib.hid (show bn5 ≠ bn4 by have := Blk.lt HXn4.out; omega)
            have HXn42 := Lib.hid (keep_blk hb HXn4.out)
            clear HXn4
            have HNn5n1 := Lib.hid (show bn5 ≠ bn1 by have := Blk.lt (hHeld.2); (try simp at this); (try simp at hge); omega)
            have HGn5 := Lib.hid (show w.heap.size ≤ bn5 by have := Since.size hHeld.1; (try simp at this); (try simp at hge); omega)
            have HXn5 := Lib.hid hB
            clear hB
            clear hge
            clear hK K hHeld hb
            have hHeld := hHeld2
            clear hHeld2
            (try simp only [Act.put, sA, sB, sC])
            refine wpAnyH_ready (rs := [0]) (by kernel_rfl) (by simp) ?_
            refine AllReadyH.cons (o := ?o6_b7b8_0) ?h6_b7b8_0 (fun K hK => ?_) AllReadyH.nil
            case h6_b7b8_0 => (first | (simp only [gA, gB, gC]; done) | (simp only [gA, gB, gC]; exact rfl))
            (try go_simp)
            refine (configA _).mono ?_
            rintro e w56 ⟨rfl, hb⟩
            (try go_wp2_with fail)
            refine hK.out _ _ (by (apply HRK.out; exact hb; exact hHeld)) (fun hHeld2 => ?_)
            have HXn422 := Lib.hid (keep_blk hb HXn42.out)
            clear HXn42
            have HXn52 := Lib.hid (keep_blk hb HXn5.out)
            clear HXn5
            clear hK K hHeld hb
            have hHeld := hHeld2
            clear hHeld2
            (try simp only [Act.put, sA, sB, sC])
            refine wpAnyH_ready (rs := [2]) (by kernel_rfl) (by simp) ?_
            refine AllReadyH.cons (o := ?o6_b7b8_2) ?h6_b7b8_2 (fun K hK => ?_) AllReadyH.nil
            case h6_b7b8_2 => (first | (simp only [gA, gB, gC]; done) | (simp only [gA, gB, gC]; exact rfl))
            (try go_simp)
            refine (tickA k HLT.out _).mono ?_
            rintro e w57 ⟨rfl, hb⟩
            (try go_wp2_with fail)
            refine hK.out _ _ (by (apply HRK.out; exact hb; exact hHeld)) (fun hHeld2 => ?_)
            have HXn4222 := Lib.hid (keep_blk hb HXn422.out)
            clear HXn422
            have HXn522 := Lib.hid (keep_blk hb HXn52.out)
            clear HXn52
            clear hK K hHeld hb
            have hHeld := hHeld2
            clear hHeld2
            (try simp only [Act.put, sA, sB, sC])
            refine tkQ 3 (.tuple #[.agg (carA (xs (k + 1))), .agg #[.int .i64 (tkF (xs k)), .int .i64 (tkW (xs k))], .bool (tkS (xs k))]) hHeld (h := ?_)
            (try simp only [Act.put, sA, sB, sC])
            refine tkQ 4 (.agg (carA (xs (k + 1)))) hHeld (h := ?_)
            (try simp only [Act.put, sA, sB, sC])
            refine tkQ 5 (.agg #[.int .i64 (tkF (xs k)), .int .i64 (tkW (xs k))]) hHeld (h := ?_)
            (try simp only [Act.put, sA, sB, sC])
            refine tkQ 6 (.bool (tkS (xs k))) hHeld (h := ?_)
            (try simp only [Act.put, sA, sB, sC])
            refine wpAnyH_ready (rs := [9]) (by kernel_rfl) (by simp) ?_
            refine AllReadyH.cons (o := ?o6_b7b8_9) ?h6_b7b8_9 (fun K hK => ?_) AllReadyH.nil
            case h6_b7b8_9 => (first | (simp only [gA, gB, gC]; done) | (simp only [gA, gB, gC]; exact rfl))
            rw [if_pos (by rfl)]
            refine wp_st_row 30 _ _ rfl (carA (xs (k + 1))) rfl rfl (HasRow.of HXn4222.out rfl) rfl (by simp [cfgA, carA, ctlA, Value.oneCell']) (by kernel_rfl) ?_
            intro w58 hw
            have HXn42222 := Lib.hid (show Blk w58 bn4 30 (carA (xs (k + 1))) by rw [hw]; exact Blk.row HXn4222.out _)
            have HXn5222 := Lib.hid (show Blk w58 bn5 50 #[.int .i64 0, .int .i64 0] by rw [hw]; exact Blk.row_far HXn522.out HNn5n4.out _)
            clear HXn522
            have hHeld3 : (fun W : World => Since w W ∧ Blk W bn1 30 (carA (xs k))) w58 := ⟨by rw [hw]; exact Since.setRow hHeld.1 HGn4.out _, by rw [hw]; exact Blk.row_far (hHeld.2) (Ne.symm HNn4n1.out) _⟩
            refine hK.out _ _ hHeld3 (fun hHeld2 => ?_)
            clear HXn4222 hK K hHeld hHeld3 hw
            have hHeld := hHeld2
            clear hHeld2
            (try simp only [Act.put, sA, sB, sC])
            refine wpAnyH_ready (rs := [10]) (by kernel_rfl) (by simp) ?_
            refine AllReadyH.cons (o := ?o6_b7b8_10) ?h6_b7b8_10 (fun K hK => ?_) AllReadyH.nil
            case h6_b7b8_10 => (first | (simp only [gA, gB, gC]; done) | (simp only [gA, gB, gC]; exact rfl))
            rw [if_pos (by rfl)]
            refine wp_st_row 50 _ _ rfl #[.int .i64 (tkF (xs k)), .int .i64 (tkW (xs k))] rfl rfl (HasRow.of HXn5222.out rfl) rfl (by simp [cfgA, carA, ctlA, Value.oneCell']) (by kernel_rfl) ?_
            intro w59 hw
            have HXn52222 := Lib.hid (show Blk w59 bn5 50 #[.int .i64 (tkF (xs k)), .int .i64 (tkW (xs k))] by rw [hw]; exact Blk.row HXn5222.out _)
            have HXn422222 := Lib.hid (show Blk w59 bn4 30 (carA (xs (k + 1))) by rw [hw]; exact Blk.row_far HXn42222.out (Ne.symm HNn5n4.out) _)
            clear HXn42222
            have hHeld3 : (fun W : World => Since w W ∧ Blk W bn1 30 (carA (xs k))) w59 := ⟨by rw [hw]; exact Since.setRow hHeld.1 HGn5.out _, by rw [hw]; exact Blk.row_far (hHeld.2) (Ne.symm HNn5n1.out) _⟩
            refine hK.out _ _ hHeld3 (fun hHeld2 => ?_)
            clear HXn5222 hK K hHeld hHeld3 hw
            have hHeld := hHeld2
            clear hHeld2
            (try simp only [Act.put, sA, sB, sC])
            refine tkQ 11 (.bool (tkS (xs k))) hHeld (h := ?_)
            (try simp only [Act.put, sA, sB, sC])
            refine wpAnyH_done (by kernel_rfl) ?_ _
            have HSd6v9 := Lib.hid hHeld.1
            have HBn1d6v9 := Lib.hid (hHeld.2)
            clear hHeld HRK HRD HS53 HBn153
            go_wp2_with fail
            go_meet
            case rel => exact Lib.hid ⟨bn4, bn5, rfl, rfl, rfl, HSd6v9.out, HBn1d6v9.out, HXn422222.out, HXn52222.out, HGn4.out, HNn4n1.out, HGn5.out, HNn5n1.out, HNn5n4.out⟩
        case g6__8b =>
          rw [if_pos (by rfl)]
          refine wp_new (fun b => .pointer (some ⟨b, 0, none⟩)) 50 #[.int .i64 0, .int .i64 0] (by rintro b rfl; first | rfl | kernel_rfl) ?_
          intro bn5 w54 hge hB hb
          refine hK.out _ _ (by (apply HRK.out; exact hb; exact hHeld)) (fun hHeld2 => ?_)
          have HNn5n1 := Lib.hid (show bn5 ≠ bn1 by have := Blk.lt (hHeld.2); (try simp at this); (try simp at hge); omega)
          have HGn5 := Lib.hid (show w.heap.size ≤ bn5 by have := Since.size hHeld.1; (try simp at this); (try simp at hge); omega)
          have HXn5 := Lib.hid hB
          clear hB
          clear hge
          clear hK K hHeld hb
          have hHeld := hHeld2
          clear hHeld2
          (try simp only [Act.put, sA, sB, sC])
          refine wpAnyH_ready (rs := [0, 7]) (by kernel_rfl) (by simp) ?_
          refine AllReadyH.cons (o := ?o6_b8_0b) ?h6_b8_0b (fun K hK => ?g6_b8_0b) (AllReadyH.cons (o := ?o6_b8_7b) ?h6_b8_7b (fun K hK => ?g6_b8_7b) AllReadyH.nil)
          case h6_b8_0b => (first | (simp only [gA, gB, gC]; done) | (simp only [gA, gB, gC]; exact rfl))
          case h6_b8_7b => (first | (simp only [gA, gB, gC]; done) | (simp only [gA, gB, gC]; exact rfl))
          case g6_b8_0b =>
            (try go_simp)
            refine (configA _).mono ?_
            rintro e w55 ⟨rfl, hb⟩
            (try go_wp2_with fail)
            refine hK.out _ _ (by (apply HRK.out; exact hb; exact hHeld)) (fun hHeld2 => ?_)
            have HXn52 := Lib.hid (keep_blk hb HXn5.out)
            clear HXn5
            clear hK K hHeld hb
            have hHeld := hHeld2
            clear hHeld2
            (try simp only [Act.put, sA, sB, sC])
            refine wpAnyH_ready (rs := [2, 7]) (by kernel_rfl) (by simp) ?_
            refine AllReadyH.cons (o := ?o6_b8b0_2b) ?h6_b8b0_2b (fun K hK => ?g6_b8b0_2b) (AllReadyH.cons (o := ?o6_b8b0_7b) ?h6_b8b0_7b (fun K hK => ?g6_b8b0_7b) AllReadyH.nil)
            case h6_b8b0_2b => (first | (simp only [gA, gB, gC]; done) | (simp only [gA, gB, gC]; exact rfl))
            case h6_b8b0_7b => (first | (simp only [gA, gB, gC]; done) | (simp only [gA, gB, gC]; exact rfl))
            case g6_b8b0_2b =>
              (try go_simp)
              refine (tickA k HLT.out _).mono ?_
              rintro e w56 ⟨rfl, hb⟩
              (try go_wp2_with fail)
              refine hK.out _ _ (by (apply HRK.out; exact hb; exact hHeld)) (fun hHeld2 => ?_)
              have HXn522 := Lib.hid (keep_blk hb HXn52.out)
              clear HXn52
              clear hK K hHeld hb
              have hHeld := hHeld2
              clear hHeld2
              (try simp only [Act.put, sA, sB, sC])
              refine tkQ 3 (.tuple #[.agg (carA (xs (k + 1))), .agg #[.int .i64 (tkF (xs k)), .int .i64 (tkW (xs k))], .bool (tkS (xs k))]) hHeld (h := ?_)
              (try simp only [Act.put, sA, sB, sC])
              refine tkQ 4 (.agg (carA (xs (k + 1)))) hHeld (h := ?_)
              (try simp only [Act.put, sA, sB, sC])
              refine tkQ 5 (.agg #[.int .i64 (tkF (xs k)), .int .i64 (tkW (xs k))]) hHeld (h := ?_)
              (try simp only [Act.put, sA, sB, sC])
              refine tkQ 6 (.bool (tkS (xs k))) hHeld (h := ?_)
              (try simp only [Act.put, sA, sB, sC])
              refine wpAnyH_ready (rs := [7]) (by kernel_rfl) (by simp) ?_
              refine AllReadyH.cons (o := ?o6_b8b0b2_7) ?h6_b8b0b2_7 (fun K hK => ?_) AllReadyH.nil
              case h6_b8b0b2_7 => (first | (simp only [gA, gB, gC]; done) | (simp only [gA, gB, gC]; exact rfl))
              rw [if_pos (by rfl)]
              refine wp_new (fun b => .pointer (some ⟨b, 0, none⟩)) 30 #[.int .i64 0, .int .i64 0, .int .i64 0, .int .i64 0, .int .i64 0, .int .i64 0, .int .i64 0, .bool false, .bool false, .int .i64 0, .int .i64 0, .bool false, .int .u64 0, .int .u64 0, .int .u64 0] (by rintro b rfl; first | rfl | kernel_rfl) ?_
              intro bn4 w57 hge hB hb
              refine hK.out _ _ (by (apply HRK.out; exact hb; exact hHeld)) (fun hHeld2 => ?_)
              have HNn4n5 := Lib.hid (show bn4 ≠ bn5 by have := Blk.lt HXn522.out; omega)
              have HXn5222 := Lib.hid (keep_blk hb HXn522.out)
              clear HXn522
              have HNn4n1 := Lib.hid (show bn4 ≠ bn1 by have := Blk.lt (hHeld.2); (try simp at this); (try simp at hge); omega)
              have HGn4 := Lib.hid (show w.heap.size ≤ bn4 by have := Since.size hHeld.1; (try simp at this); (try simp at hge); omega)
              have HXn4 := Lib.hid hB
              clear hB
              clear hge
              clear hK K hHeld hb
              have hHeld := hHeld2
              clear hHeld2
              (try simp only [Act.put, sA, sB, sC])
              refine wpAnyH_ready (rs := [9]) (by kernel_rfl) (by simp) ?_
              refine AllReadyH.cons (o := ?o6_b8b0b2_9) ?h6_b8b0b2_9 (fun K hK => ?_) AllReadyH.nil
              case h6_b8b0b2_9 => (first | (simp only [gA, gB, gC]; done) | (simp only [gA, gB, gC]; exact rfl))
              rw [if_pos (by rfl)]
              refine wp_st_row 30 _ _ rfl (carA (xs (k + 1))) rfl rfl (HasRow.of HXn4.out rfl) rfl (by simp [cfgA, carA, ctlA, Value.oneCell']) (by kernel_rfl) ?_
              intro w58 hw
              have HXn42 := Lib.hid (show Blk w58 bn4 30 (carA (xs (k + 1))) by rw [hw]; exact Blk.row HXn4.out _)
              have HXn52222 := Lib.hid (show Blk w58 bn5 50 #[.int .i64 0, .int .i64 0] by rw [hw]; exact Blk.row_far HXn5222.out (Ne.symm HNn4n5.out) _)
              clear HXn5222
              have hHeld3 : (fun W : World => Since w W ∧ Blk W bn1 30 (carA (xs k))) w58 := ⟨by rw [hw]; exact Since.setRow hHeld.1 HGn4.out _, by rw [hw]; exact Blk.row_far (hHeld.2) (Ne.symm HNn4n1.out) _⟩
              refine hK.out _ _ hHeld3 (fun hHeld2 => ?_)
              clear HXn4 hK K hHeld hHeld3 hw
              have hHeld := hHeld2
              clear hHeld2
              (try simp only [Act.put, sA, sB, sC])
              refine wpAnyH_ready (rs := [10]) (by kernel_rfl) (by simp) ?_
              refine AllReadyH.cons (o := ?o6_b8b0b2_10) ?h6_b8b0b2_10 (fun K hK => ?_) AllReadyH.nil
              case h6_b8b0b2_10 => (first | (simp only [gA, gB, gC]; done) | (simp only [gA, gB, gC]; exact rfl))
              rw [if_pos (by rfl)]
              refine wp_st_row 50 _ _ rfl #[.int .i64 (tkF (xs k)), .int .i64 (tkW (xs k))] rfl rfl (HasRow.of HXn52222.out rfl) rfl (by simp [cfgA, carA, ctlA, Value.oneCell']) (by kernel_rfl) ?_
              intro w59 hw
              have HXn522222 := Lib.hid (show Blk w59 bn5 50 #[.int .i64 (tkF (xs k)), .int .i64 (tkW (xs k))] by rw [hw]; exact Blk.row HXn52222.out _)
              have HXn422 := Lib.hid (show Blk w59 bn4 30 (carA (xs (k + 1))) by rw [hw]; exact Blk.row_far HXn42.out HNn4n5.out _)
              clear HXn42
              have hHeld3 : (fun W : World => Since w W ∧ Blk W bn1 30 (carA (xs k))) w59 := ⟨by rw [hw]; exact Since.setRow hHeld.1 HGn5.out _, by rw [hw]; exact Blk.row_far (hHeld.2) (Ne.symm HNn5n1.out) _⟩
              refine hK.out _ _ hHeld3 (fun hHeld2 => ?_)
              clear HXn52222 hK K hHeld hHeld3 hw
              have hHeld := hHeld2
              clear hHeld2
              (try simp only [Act.put, sA, sB, sC])
              refine tkQ 11 (.bool (tkS (xs k))) hHeld (h := ?_)
              (try simp only [Act.put, sA, sB, sC])
              refine wpAnyH_done (by kernel_rfl) ?_ _
              have HSd6v10 := Lib.hid hHeld.1
              have HBn1d6v10 := Lib.hid (hHeld.2)
              clear hHeld HRK HRD HS53 HBn153
              go_wp2_with fail
              go_meet
              case rel => exact Lib.hid ⟨bn4, bn5, rfl, rfl, rfl, HSd6v10.out, HBn1d6v10.out, HXn422.out, HXn522222.out, HGn4.out, HNn4n1.out, HGn5.out, HNn5n1.out, (Ne.symm HNn4n5.out)⟩
            case g6_b8b0_7b =>
              rw [if_pos (by rfl)]
              refine wp_new (fun b => .pointer (some ⟨b, 0, none⟩)) 30 #[.int .i64 0, .int .i64 0, .int .i64 0, .int .i64 0, .int .i64 0, .int .i64 0, .int .i64 0, .bool false, .bool false, .int .i64 0, .int .i64 0, .bool false, .int .u64 0, .int .u64 0, .int .u64 0] (by rintro b rfl; first | rfl | kernel_rfl) ?_
              intro bn4 w56 hge hB hb
              refine hK.out _ _ (by (apply HRK.out; exact hb; exact hHeld)) (fun hHeld2 => ?_)
              have HNn4n5 := Lib.hid (show bn4 ≠ bn5 by have := Blk.lt HXn52.out; omega)
              have HXn522 := Lib.hid (keep_blk hb HXn52.out)
              clear HXn52
              have HNn4n1 := Lib.hid (show bn4 ≠ bn1 by have := Blk.lt (hHeld.2); (try simp at this); (try simp at hge); omega)
              have HGn4 := Lib.hid (show w.heap.size ≤ bn4 by have := Since.size hHeld.1; (try simp at this); (try simp at hge); omega)
              have HXn4 := Lib.hid hB
              clear hB
              clear hge
              clear hK K hHeld hb
              have hHeld := hHeld2
              clear hHeld2
              (try simp only [Act.put, sA, sB, sC])
              refine wpAnyH_ready (rs := [2]) (by kernel_rfl) (by simp) ?_
              refine AllReadyH.cons (o := ?o6_b8b0b7_2) ?h6_b8b0b7_2 (fun K hK => ?_) AllReadyH.nil
              case h6_b8b0b7_2 => (first | (simp only [gA, gB, gC]; done) | (simp only [gA, gB, gC]; exact rfl))
              (try go_simp)
              refine (tickA k HLT.out _).mono ?_
              rintro e w57 ⟨rfl, hb⟩
              (try go_wp2_with fail)
              refine hK.out _ _ (by (apply HRK.out; exact hb; exact hHeld)) (fun hHeld2 => ?_)
              have HXn5222 := Lib.hid (keep_blk hb HXn522.out)
              clear HXn522
              have HXn42 := Lib.hid (keep_blk hb HXn4.out)
              clear HXn4
              clear hK K hHeld hb
              have hHeld := hHeld2
              clear hHeld2
              (try simp only [Act.put, sA, sB, sC])
              refine tkQ 3 (.tuple #[.agg (carA (xs (k + 1))), .agg #[.int .i64 (tkF (xs k)), .int .i64 (tkW (xs k))], .bool (tkS (xs k))]) hHeld (h := ?_)
              (try simp only [Act.put, sA, sB, sC])
              refine tkQ 4 (.agg (carA (xs (k + 1)))) hHeld (h := ?_)
              (try simp only [Act.put, sA, sB, sC])
              refine tkQ 5 (.agg #[.int .i64 (tkF (xs k)), .int .i64 (tkW (xs k))]) hHeld (h := ?_)
              (try simp only [Act.put, sA, sB, sC])
              refine tkQ 6 (.bool (tkS (xs k))) hHeld (h := ?_)
              (try simp only [Act.put, sA, sB, sC])
              refine wpAnyH_ready (rs := [9]) (by kernel_rfl) (by simp) ?_
              refine AllReadyH.cons (o := ?o6_b8b0b7_9) ?h6_b8b0b7_9 (fun K hK => ?_) AllReadyH.nil
              case h6_b8b0b7_9 => (first | (simp only [gA, gB, gC]; done) | (simp only [gA, gB, gC]; exact rfl))
              rw [if_pos (by rfl)]
              refine wp_st_row 30 _ _ rfl (carA (xs (k + 1))) rfl rfl (HasRow.of HXn42.out rfl) rfl (by simp [cfgA, carA, ctlA, Value.oneCell']) (by kernel_rfl) ?_
              intro w58 hw
              have HXn422 := Lib.hid (show Blk w58 bn4 30 (carA (xs (k + 1))) by rw [hw]; exact Blk.row HXn42.out _)
              have HXn52222 := Lib.hid (show Blk w58 bn5 50 #[.int .i64 0, .int .i64 0] by rw [hw]; exact Blk.row_far HXn5222.out (Ne.symm HNn4n5.out) _)
              clear HXn5222
              have hHeld3 : (fun W : World => Since w W ∧ Blk W bn1 30 (carA (xs k))) w58 := ⟨by rw [hw]; exact Since.setRow hHeld.1 HGn4.out _, by rw [hw]; exact Blk.row_far (hHeld.2) (Ne.symm HNn4n1.out) _⟩
              refine hK.out _ _ hHeld3 (fun hHeld2 => ?_)
              clear HXn42 hK K hHeld hHeld3 hw
              have hHeld := hHeld2
              clear hHeld2
              (try simp only [Act.put, sA, sB, sC])
              refine wpAnyH_ready (rs := [10]) (by kernel_rfl) (by simp) ?_
              refine AllReadyH.cons (o := ?o6_b8b0b7_10) ?h6_b8b0b7_10 (fun K hK => ?_) AllReadyH.nil
              case h6_b8b0b7_10 => (first | (simp only [gA, gB, gC]; done) | (simp only [gA, gB, gC]; exact rfl))
              rw [if_pos (by rfl)]
              refine wp_st_row 50 _ _ rfl #[.int .i64 (tkF (xs k)), .int .i64 (tkW (xs k))] rfl rfl (HasRow.of HXn52222.out rfl) rfl (by simp [cfgA, carA, ctlA, Value.oneCell']) (by kernel_rfl) ?_
              intro w59 hw
              have HXn522222 := Lib.hid (show Blk w59 bn5 50 #[.int .i64 (tkF (xs k)), .int .i64 (tkW (xs k))] by rw [hw]; exact Blk.row HXn52222.out _)
              have HXn4222 := Lib.hid (show Blk w59 bn4 30 (carA (xs (k + 1))) by rw [hw]; exact Blk.row_far HXn422.out HNn4n5.out _)
              clear HXn422
              have hHeld3 : (fun W : World => Since w W ∧ Blk W bn1 30 (carA (xs k))) w59 := ⟨by rw [hw]; exact Since.setRow hHeld.1 HGn5.out _, by rw [hw]; exact Blk.row_far (hHeld.2) (Ne.symm HNn5n1.out) _⟩
              refine hK.out _ _ hHeld3 (fun hHeld2 => ?_)
              clear HXn52222 hK K hHeld hHeld3 hw
              have hHeld := hHeld2
              clear hHeld2
              (try simp only [Act.put, sA, sB, sC])
              refine tkQ 11 (.bool (tkS (xs k))) hHeld (h := ?_)
              (try simp only [Act.put, sA, sB, sC])
              refine wpAnyH_done (by kernel_rfl) ?_ _
              have HSd6v11 := Lib.hid hHeld.1
              have HBn1d6v11 := Lib.hid (hHeld.2)
              clear hHeld HRK HRD HS53 HBn153
              go_wp2_with fail
              go_meet
              case rel => exact Lib.hid ⟨bn4, bn5, rfl, rfl, rfl, HSd6v11.out, HBn1d6v11.out, HXn4222.out, HXn522222.out, HGn4.out, HNn4n1.out, HGn5.out, HNn5n1.out, (Ne.symm HNn4n5.out)⟩
          case g6_b8_7b =>
            rw [if_pos (by rfl)]
            refine wp_new (fun b => .pointer (some ⟨b, 0, none⟩)) 30 #[.int .i64 0, .int .i64 0, .int .i64 0, .int .i64 0, .int .i64 0, .int .i64 0, .int .i64 0, .bool false, .bool false, .int .i64 0, .int .i64 0, .bool false, .int .u64 0, .int .u64 0, .int .u64 0] (by rintro b rfl; first | rfl | kernel_rfl) ?_
            intro bn4 w55 hge hB hb
            refine hK.out _ _ (by (apply HRK.out; exact hb; exact hHeld)) (fun hHeld2 => ?_)
            have HNn4n5 := Lib.hid (show bn4 ≠ bn5 by have := Blk.lt HXn5.out; omega)
            have HXn52 := Lib.hid (keep_blk hb HXn5.out)
            clear HXn5
            have HNn4n1 := Lib.hid (show bn4 ≠ bn1 by have := Blk.lt (hHeld.2); (try simp at this); (try simp at hge); omega)
            have HGn4 := Lib.hid (show w.heap.size ≤ bn4 by have := Since.size hHeld.1; (try simp at this); (try simp at hge); omega)
            have HXn4 := Lib.hid hB
            clear hB
            clear hge
            clear hK K hHeld hb
            have hHeld := hHeld2
            clear hHeld2
            (try simp only [Act.put, sA, sB, sC])
            refine wpAnyH_ready (rs := [0]) (by kernel_rfl) (by simp) ?_
            refine AllReadyH.cons (o := ?o6_b8b7_0) ?h6_b8b7_0 (fun K hK => ?_) AllReadyH.nil
            case h6_b8b7_0 => (first | (simp only [gA, gB, gC]; done) | (simp only [gA, gB, gC]; exact rfl))
            (try go_simp)
            refine (configA _).mono ?_
            rintro e w56 ⟨rfl, hb⟩
            (try go_wp2_with fail)
            refine hK.out _ _ (by (apply HRK.out; exact hb; exact hHeld)) (fun hHeld2 => ?_)
            have HXn522 := Lib.hid (keep_blk hb HXn52.out)
            clear HXn52
            have HXn42 := Lib.hid (keep_blk hb HXn4.out)
            clear HXn4
            clear hK K hHeld hb
            have hHeld := hHeld2
            clear hHeld2
            (try simp only [Act.put, sA, sB, sC])
            refine wpAnyH_ready (rs := [2]) (by kernel_rfl) (by simp) ?_
            refine AllReadyH.cons (o := ?o6_b8b7_2) ?h6_b8b7_2 (fun K hK => ?_) AllReadyH.nil
            case h6_b8b7_2 => (first | (simp only [gA, gB, gC]; done) | (simp only [gA, gB, gC]; exact rfl))
            (try go_simp)
            refine (tickA k HLT.out _).mono ?_
            rintro e w57 ⟨rfl, hb⟩
            (try go_wp2_with fail)
            refine hK.out _ _ (by (apply HRK.out; exact hb; exact hHeld)) (fun hHeld2 => ?_)
            have HXn5222 := Lib.hid (keep_blk hb HXn522.out)
            clear HXn522
            have HXn422 := Lib.hid (keep_blk hb HXn42.out)
            clear HXn42
            clear hK K hHeld hb
            have hHeld := hHeld2
            clear hHeld2
            (try simp only [Act.put, sA, sB, sC])
            refine tkQ 3 (.tuple #[.agg (carA (xs (k + 1))), .agg #[.int .i64 (tkF (xs k)), .int .i64 (tkW (xs k))], .bool (tkS (xs k))]) hHeld (h := ?_)
            (try simp only [Act.put, sA, sB, sC])
            refine tkQ 4 (.agg (carA (xs (k + 1)))) hHeld (h := ?_)
            (try simp only [Act.put, sA, sB, sC])
            refine tkQ 5 (.agg #[.int .i64 (tkF (xs k)), .int .i64 (tkW (xs k))]) hHeld (h := ?_)
            (try simp only [Act.put, sA, sB, sC])
            refine tkQ 6 (.bool (tkS (xs k))) hHeld (h := ?_)
            (try simp only [Act.put, sA, sB, sC])
            refine wpAnyH_ready (rs := [9]) (by kernel_rfl) (by simp) ?_
            refine AllReadyH.cons (o := ?o6_b8b7_9) ?h6_b8b7_9 (fun K hK => ?_) AllReadyH.nil
            case h6_b8b7_9 => (first | (simp only [gA, gB, gC]; done) | (simp only [gA, gB, gC]; exact rfl))
            rw [if_pos (by rfl)]
            refine wp_st_row 30 _ _ rfl (carA (xs (k + 1))) rfl rfl (HasRow.of HXn422.out rfl) rfl (by simp [cfgA, carA, ctlA, Value.oneCell']) (by kernel_rfl) ?_
            intro w58 hw
            have HXn4222 := Lib.hid (show Blk w58 bn4 30 (carA (xs (k + 1))) by rw [hw]; exact Blk.row HXn422.out _)
            have HXn52222 := Lib.hid (show Blk w58 bn5 50 #[.int .i64 0, .int .i64 0] by rw [hw]; exact Blk.row_far HXn5222.out (Ne.symm HNn4n5.out) _)
            clear HXn5222
            have hHeld3 : (fun W : World => Since w W ∧ Blk W bn1 30 (carA (xs k))) w58 := ⟨by rw [hw]; exact Since.setRow hHeld.1 HGn4.out _, by rw [hw]; exact Blk.row_far (hHeld.2) (Ne.symm HNn4n1.out) _⟩
            refine hK.out _ _ hHeld3 (fun hHeld2 => ?_)
            clear HXn422 hK K hHeld hHeld3 hw
            have hHeld := hHeld2
            clear hHeld2
            (try simp only [Act.put, sA, sB, sC])
            refine wpAnyH_ready (rs := [10]) (by kernel_rfl) (by simp) ?_
            refine AllReadyH.cons (o := ?o6_b8b7_10) ?h6_b8b7_10 (fun K hK => ?_) AllReadyH.nil
            case h6_b8b7_10 => (first | (simp only [gA, gB, gC]; done) | (simp only [gA, gB, gC]; exact rfl))
            rw [if_pos (by rfl)]
            refine wp_st_row 50 _ _ rfl #[.int .i64 (tkF (xs k)), .int .i64 (tkW (xs k))] rfl rfl (HasRow.of HXn52222.out rfl) rfl (by simp [cfgA, carA, ctlA, Value.oneCell']) (by kernel_rfl) ?_
            intro w59 hw
            have HXn522222 := Lib.hid (show Blk w59 bn5 50 #[.int .i64 (tkF (xs k)), .int .i64 (tkW (xs k))] by rw [hw]; exact Blk.row HXn52222.out _)
            have HXn42222 := Lib.hid (show Blk w59 bn4 30 (carA (xs (k + 1))) by rw [hw]; exact Blk.row_far HXn4222.out HNn4n5.out _)
            clear HXn4222
            have hHeld3 : (fun W : World => Since w W ∧ Blk W bn1 30 (carA (xs k))) w59 := ⟨by rw [hw]; exact Since.setRow hHeld.1 HGn5.out _, by rw [hw]; exact Blk.row_far (hHeld.2) (Ne.symm HNn5n1.out) _⟩
            refine hK.out _ _ hHeld3 (fun hHeld2 => ?_)
            clear HXn52222 hK K hHeld hHeld3 hw
            have hHeld := hHeld2
            clear hHeld2
            (try simp only [Act.put, sA, sB, sC])
            refine tkQ 11 (.bool (tkS (xs k))) hHeld (h := ?_)
            (try simp only [Act.put, sA, sB, sC])
            refine wpAnyH_done (by kernel_rfl) ?_ _
            have HSd6v12 := Lib.hid hHeld.1
            have HBn1d6v12 := Lib.hid (hHeld.2)
            clear hHeld HRK HRD HS53 HBn153
            go_wp2_with fail
            go_meet
            case rel => exact Lib.hid ⟨bn4, bn5, rfl, rfl, rfl, HSd6v12.out, HBn1d6v12.out, HXn42222.out, HXn522222.out, HGn4.out, HNn4n1.out, HGn5.out, HNn5n1.out, (Ne.symm HNn4n5.out)⟩
      case rest =>
        clear HS53 HBn153
        obtain ⟨bn4, bn5, rfl, rfl, rfl, g0, g1, g2, g3, g4, g5, g6, g7, g8⟩ := hcut.out
        clear hcut
        have HS103 := Lib.hid g0
        have HBn1103 := Lib.hid g1
        have HBn4103 := Lib.hid g2
        have HBn5103 := Lib.hid g3
        have HGn4 := Lib.hid g4
        have HNn4n1 := Lib.hid g5
        have HGn5 := Lib.hid g6
        have HNn5n1 := Lib.hid g7
        have HNn5n4 := Lib.hid g8
        clear g0 g1 g2 g3 g4 g5 g6 g7 g8
        go_upto_region 7 with fail
        refine wp_region_lit ?_
        refine wpList_q (by rfl) (.agg (carA (xs (k + 1)))) ?he ?_
        case he => exact exec_load_row 30 _ _ HBn4103.out rfl rfl Try.underlying30 rfl (by kernel_rfl)
        (try simp only [Act.put, sA, sB, sC])
        refine wpList_wp (by rfl) (fun K hK => ?_)
        refine wp_st_row 30 _ _ rfl (carA (xs (k + 1))) rfl rfl (HasRow.of HBn1103.out rfl) rfl (by simp [cfgA, carA, ctlA, Value.oneCell']) (by kernel_rfl) ?_
        intro w104 hw
        refine hK.out _ _ ?_
        clear hK K
        (try simp only [Act.put, sA, sB, sC])
        have HS104 := Lib.hid (show Since w w104 by rw [hw]; exact Since.setRow HS103.out HGn1.out _)
        have HBn1104 := Lib.hid (show Blk w104 bn1 30 (carA (xs (k + 1))) by rw [hw]; exact Blk.row HBn1103.out _)
        have HBn4104 := Lib.hid (show Blk w104 bn4 30 (carA (xs (k + 1))) by rw [hw]; exact Blk.row_far HBn4103.out HNn4n1.out _)
        have HBn5104 := Lib.hid (show Blk w104 bn5 50 #[.int .i64 (tkF (xs k)), .int .i64 (tkW (xs k))] by rw [hw]; exact Blk.row_far HBn5103.out HNn5n1.out _)
        clear hw HS103 HBn1103 HBn4103 HBn5103
        refine wpList_nil ?_
        by_cases hcs : tkS (xs k) = true
        rotate_left
        · have HS := Lib.hid hcs; clear hcs
          go_upto_region 8 with fail
          refine wp_region_lit ?_
          refine wpList_q (by rfl) (.bool false) ?he ?_
          case he => (have q := Bool.eq_false_iff.2 HS.out; go_simp; (first | done | exact q | (simp [q]; done)))
          (try simp only [Act.put, sA, sB, sC])
          refine tkL (.bool false) (h := ?_)
          (try simp only [Act.put, sA, sB, sC])
          refine wpList_no (by rfl) ?_
          (try simp only [Act.put, sA, sB, sC])
          refine wpList_no (by rfl) ?_
          (try simp only [Act.put, sA, sB, sC])
          refine wpList_no (by rfl) ?_
          (try simp only [Act.put, sA, sB, sC])
          refine tkL (.bool false) (h := ?_)
          (try simp only [Act.put, sA, sB, sC])
          refine wpList_nil ?_
          have HN := Lib.hid (show hits (k + 1) = hits k from if_neg HS.out)
          go_upto_region 5 with fail
          refine wp_region_lit ?_
          refine tkL (.int .i64 (k : Int)) (h := ?_)
          (try simp only [Act.put, sA, sB, sC])
          refine wpList_q (by rfl) (.int .i64 ((k : Int) + 1)) ?he ?_
          case he => (go_simp; (first | done | (refine wrI _ ?_ ?_ <;> (have q0 := HLT.out; omega)) | (have q0 := HLT.out; omega) | (have q0 := HLT.out; split <;> omega) | (have q0 := HLT.out; intro hh; omega)))
          (try simp only [Act.put, sA, sB, sC])
          refine tkL (.int .i64 ((k : Int) + 1)) (h := ?_)
          (try simp only [Act.put, sA, sB, sC])
          refine wpList_nil ?_
          go_wp2_with fail
          go_roundw
          case rel => exact ⟨k + 1, by have := HLT.out; omega, by rw [HN.out], by go_num, Lib.hid ⟨HS104.out, HBn1104.out⟩⟩
          case measure => have := HLT.out; simp [intOf]; omega
        · have HS := Lib.hid hcs; clear hcs
          have HF := Lib.hid (show tkF (xs k) = 1 ∧ tkW (xs k) = 1 by have q := HXO.out.2.1; rw [if_pos HS.out] at q; exact q)
          go_upto_region 8 with fail
          refine wp_region_lit ?_
          refine wpList_q (by rfl) (.bool true) ?he ?_
          case he => (have q := HS.out; go_simp; (first | done | exact q | (simp [q]; done)))
          (try simp only [Act.put, sA, sB, sC])
          refine tkL (.bool true) (h := ?_)
          (try simp only [Act.put, sA, sB, sC])
          refine wpList_q (by rfl) (.agg #[.int .i64 (tkF (xs k)), .int .i64 (tkW (xs k))]) ?he ?_
          case he => exact exec_load_row 50 _ _ HBn5104.out rfl rfl Try.underlying50 rfl (by kernel_rfl)
          (try simp only [Act.put, sA, sB, sC])
          refine wpList_q (by rfl) (.agg #[.int .i64 1, .int .i64 1]) ?he ?_
          case he => kernel_rfl
          (try simp only [Act.put, sA, sB, sC])
          refine wpList_q (by rfl) (.bool true) ?he ?_
          case he => (have q := HF.out; go_simp; (first | done | (simp [q.1, q.2]; done)))
          (try simp only [Act.put, sA, sB, sC])
          refine tkL (.bool true) (h := ?_)
          (try simp only [Act.put, sA, sB, sC])
          refine wpList_nil ?_
          have HN := Lib.hid (show hits (k + 1) = hits k + 1 from if_pos HS.out)
          have HHI := Lib.hid HXO.out.2.2
          go_upto_region 9 with fail
          refine wp_region_lit ?_
          refine tkL (.int .i64 (hits k)) (h := ?_)
          (try simp only [Act.put, sA, sB, sC])
          refine wpList_q (by rfl) (.int .i64 (hits k + 1)) ?he ?_
          case he => (go_simp; (first | done | (refine wrI _ ?_ ?_ <;> (have q0 := HHI.out; omega)) | (have q0 := HHI.out; omega) | (have q0 := HHI.out; split <;> omega) | (have q0 := HHI.out; intro hh; omega)))
          (try simp only [Act.put, sA, sB, sC])
          refine tkL (.int .i64 (hits k + 1)) (h := ?_)
          (try simp only [Act.put, sA, sB, sC])
          refine wpList_nil ?_
          go_upto_region 5 with fail
          refine wp_region_lit ?_
          refine tkL (.int .i64 (k : Int)) (h := ?_)
          (try simp only [Act.put, sA, sB, sC])
          refine wpList_q (by rfl) (.int .i64 ((k : Int) + 1)) ?he ?_
          case he => (go_simp; (first | done | (refine wrI _ ?_ ?_ <;> (have q0 := HLT.out; omega)) | (have q0 := HLT.out; omega) | (have q0 := HLT.out; split <;> omega) | (have q0 := HLT.out; intro hh; omega)))
          (try simp only [Act.put, sA, sB, sC])
          refine tkL (.int .i64 ((k : Int) + 1)) (h := ?_)
          (try simp only [Act.put, sA, sB, sC])
          refine wpList_nil ?_
          go_wp2_with fail
          go_roundw
          case rel => exact ⟨k + 1, by have := HLT.out; omega, by rw [HN.out], by go_num, Lib.hid ⟨HS104.out, HBn1104.out⟩⟩
          case measure => have := HLT.out; simp [intOf]; omega
end Go.Proofs.Ytdbbacpofgjgoaa.Ct
