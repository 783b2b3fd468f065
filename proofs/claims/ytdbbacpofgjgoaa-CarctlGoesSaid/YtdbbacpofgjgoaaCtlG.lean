/-
  CarctlGoes, walked.
  Conditions: what stands ahead of each.
-/
import Derived.Test.YtdbbacpofgjgoaaProg
import Derived.Test.YtdbbacpofgjgoaaShort
import Derived.Test.YtdbbacpofgjgoaaCtlG0
import Derived.Test.YtdbbacpofgjgoaaCtlAns
namespace Go.Proofs.Ytdbbacpofgjgoaa.Ct
set_option linter.unusedVariables false
set_option linter.unusedSimpArgs false
open Go.RowKit Go.Proofs.Ytdbbacpofgjgoaa.Ba Go.Proofs.Ytdbbacpofgjgoaa.Mem Go.Proofs.Ytdbbacpofgjgoaa.Ty Go.Proofs.Ytdbbacpofgjgoaa.Mo Go.Proofs.Ytdbbacpofgjgoaa.St Go.Proofs.Ytdbbacpofgjgoaa.Sc Go.Proofs.Ytdbbacpofgjgoaa.Pl
open Go.Proofs.Ytdbbacpofgjgoaa.Do
set_option maxRecDepth 100000
attribute [local irreducible] Go.wpList
theorem rem_fin {c : CfgV} {x : CarV} {N i : Int} (h : GoI c x) (hr : rem c x + i ≤ N ∨ rem c x = 0) (hi : N ≤ i) : x.un = 4 * x.ta ∧ x.ds = 2 := by
  have h0 := (rem_lo h.1 h.2.1).1
  exact rem_zero h.1 h.2.1 (by omega)
theorem rem_step {c : CfgV} {x : CarV} {N i : Int} (h : GoI c x) (hr : rem c x + i ≤ N ∨ rem c x = 0) : rem c (tkV c x) + (i + 1) ≤ N ∨ rem c (tkV c x) = 0 := by
  have h1 := rem_next h
  have h2 := goI_next h
  have h3 := (rem_lo h2.1.1 h2.1.2.1).1
  omega
set_option maxHeartbeats 4000000 in
theorem goes (c : CfgV) (x : CarV) (f8 f : Int) (w : World) (hf8 : 0 ≤ f8 ∧ f8 ≤ 255) (hf : f = f8 % fl c.fl) (hf0 : 0 ≤ f ∧ f < fl c.fl ∧ f ≤ 63) : Calls Try.prog 13 #[.agg (cfgA c), .agg (carA x), .int .u8 f8] w fun e w' => e = .returned (.bool true) ∧ Since w w' := by
  have HF8 := Lib.hid hf8
  clear hf8
  have HF := Lib.hid hf
  clear hf
  have HF0 := Lib.hid hf0
  clear hf0
  go_enter Try.func13, Try.ntmps13
  go_upto_region 1 with fail
  obtain ⟨w1, hw1⟩ : ∃ w1, w1 = ((w.alloc (.cells (cfgA c) 23)).alloc (.cells (carA x) 30)) := ⟨_, rfl⟩
  rw [← hw1]
  have HBC1 := Lib.hid (show Blk w1 (w.heap.size) 23 (cfgA c) by rw [hw1]; exact Blk.alloc (Blk.at_ (by (try simp only [size_alloc])) _ _) _)
  have HBX1 := Lib.hid (show Blk w1 (w.heap.size + 1) 30 (carA x) by rw [hw1]; exact Blk.at_ (by (try simp only [size_alloc])) _ _)
  have HS1 := Lib.hid (show Since w w1 by rw [hw1]; exact Since.alloc (Since.alloc (Since.refl w) _) _)
  have hNE : w.heap.size ≤ w.heap.size ∧ w.heap.size < w.heap.size + 1 := by omega
  have HNE := Lib.hid hNE
  clear hNE hw1
  generalize w.heap.size + 1 = bX at *
  have HNE3 := Lib.hid (show w.heap.size ≤ w.heap.size ∧ w.heap.size < bX from HNE.out)
  clear HNE
  go_cut [] (fun  wx => Hid (Since w wx ∧ Blk wx w.heap.size 23 (cfgA c) ∧ Blk wx bX 30 #[.int .i64 x.ds, .int .i64 x.da, .int .i64 x.un, .int .i64 x.wy, .int .i64 x.ti, .int .i64 x.ju, .int .i64 x.lo, .bool false, .bool false, .int .i64 1, .int .i64 f, .bool true, .int .u64 x.sp, .int .u64 x.su, .int .u64 x.sd]))
  case first =>
    have hrK : ∀ W W' : World, Since W W' → (Since w W ∧ Blk W w.heap.size 23 (cfgA c) ∧ HasRow W bX 30 15) → (Since w W' ∧ Blk W' w.heap.size 23 (cfgA c) ∧ HasRow W' bX 30 15) := fun W W' k ⟨h, h0, h1⟩ => ⟨h.trans k, keep_blk k h0, HasRow.keep k h1⟩
    have hrS : (fun W : World => Since w W ∧ Blk W w.heap.size 23 (cfgA c) ∧ HasRow W bX 30 15) w1 := ⟨HS1.out, HBC1.out, HasRow.of HBX1.out rfl⟩
    have HRK := Lib.hid hrK
    have HRD := Lib.hid (show (fun W : World => Since w W ∧ Blk W w.heap.size 23 (cfgA c) ∧ HasRow W bX 30 15) (World.drew w1) from hrK _ _ ((Since.refl w1).drew) hrS)
    clear hrK hrS
    have HPX := Lib.hid (show Blk (World.drew w1) bX 30 (carA x) from HBX1.out)
    refine wp_region_held_drew (S := fun W : World => Since w W ∧ Blk W w.heap.size 23 (cfgA c) ∧ HasRow W bX 30 15) (by kernel_rfl) HRD.out (fun hHeld => ?_)
    refine tkQ 0 (.int .u8 f8) hHeld (h := ?_)
    (try simp only [Act.put, sA, sB, sC])
    refine tkQ 1 (.int .i64 f8) hHeld (he := by intro w hSw; (have q := HF8.out; go_simp; (first | done | rfl | (simp only [IntKind.wrap, IntKind.bits, IntKind.signed]; simp; omega) | omega))) (h := ?_)
    (try simp only [Act.put, sA, sB, sC])
    refine tkQ 2 (.pointer (some ⟨w.heap.size, 1, none⟩)) hHeld (h := ?_)
    (try simp only [Act.put, sA, sB, sC])
    refine tkQ 3 (.int .i64 c.fl) hHeld (he := by intro w hSw; exact exec_cell 3 _ _ hSw.2.1 rfl rfl rfl Try.underlying3 rfl) (h := ?_)
    (try simp only [Act.put, sA, sB, sC])
    refine tkQ 6 (.pointer (some ⟨bX, 9, none⟩)) hHeld (h := ?_)
    (try simp only [Act.put, sA, sB, sC])
    refine wpAnyH_ready (rs := [4]) (by kernel_rfl) (by simp) ?_
    refine AllReadyH.cons (o := ?o1__4) ?h1__4 (fun K hK => ?_) AllReadyH.nil
    case h1__4 => (first | (simp only [gA, gB, gC]; done) | (simp only [gA, gB, gC]; exact rfl))
    (try go_simp)
    refine (floorsR c.fl _).mono ?_
    rintro e w' ⟨rfl, rfl⟩
    (try go_wp2_with fail)
    refine hK.out _ _ hHeld (fun hHeld2 => ?_)
    clear hK K hHeld2
    (try simp only [Act.put, sA, sB, sC])
    refine tkQ 5 (.int .i64 f) hHeld (he := by intro w hSw; (have q := HF8.out; have q1 := HF.out; have q2 := fl_lo c.fl; have t := Int.tmod_eq_emod_of_nonneg (b := fl c.fl) q.1; have t2 : ¬ fl c.fl = 0 := (by omega); go_simp; (first | done | rfl | (rw [t, ← q1]; done) | (simp only [t, t2, ← q1, if_false]; done) | (rw [q1, ← t]; done) | (simp [t, t2, ← q1]; done)))) (h := ?_)
    (try simp only [Act.put, sA, sB, sC])
    refine wpAnyH_ready (rs := [7]) (by kernel_rfl) (by simp) ?_
    refine AllReadyH.cons (o := ?o1__7) ?h1__7 (fun K hK => ?_) AllReadyH.nil
    case h1__7 => (first | (simp only [gA, gB, gC]; done) | (simp only [gA, gB, gC]; exact rfl))
    rw [if_pos (by rfl)]
    refine wp_st_cell 3 _ _ rfl #[.int .i64 x.ds, .int .i64 x.da, .int .i64 x.un, .int .i64 x.wy, .int .i64 x.ti, .int .i64 x.ju, .int .i64 x.lo, .bool x.bl, .bool x.br, .int .i64 1, .int .i64 x.ta, .bool x.ho, .int .u64 x.sp, .int .u64 x.su, .int .u64 x.sd] (.int .i64 1) rfl rfl HPX.out (by show 9 < 15; decide) rfl (by first | rfl | simp [Value.oneCell']) (by kernel_rfl) ?_
    clear HPX
    intro w2 hw
    have HRX := Lib.hid (show Blk w2 bX 30 #[.int .i64 x.ds, .int .i64 x.da, .int .i64 x.un, .int .i64 x.wy, .int .i64 x.ti, .int .i64 x.ju, .int .i64 x.lo, .bool x.bl, .bool x.br, .int .i64 1, .int .i64 x.ta, .bool x.ho, .int .u64 x.sp, .int .u64 x.su, .int .u64 x.sd] by obtain ⟨old, Bo, _⟩ := hHeld.2.2; rw [hw]; exact Blk.row Bo _)
    have hHeld3 : (fun W : World => Since w W ∧ Blk W w.heap.size 23 (cfgA c) ∧ HasRow W bX 30 15) w2 := ⟨by rw [hw]; exact Since.setRow hHeld.1 (by have := HNE3.out; omega) _, by rw [hw]; exact Blk.row_far (hHeld.2.1) (by have := HNE3.out; omega) _, HasRow.of HRX.out rfl⟩
    refine hK.out _ _ hHeld3 (fun hHeld2 => ?_)
    clear hK K hHeld hHeld3 hw
    have hHeld := hHeld2
    clear hHeld2
    (try simp only [Act.put, sA, sB, sC])
    refine tkQ 8 (.pointer (some ⟨bX, 8, none⟩)) hHeld (h := ?_)
    (try simp only [Act.put, sA, sB, sC])
    refine wpAnyH_ready (rs := [9]) (by kernel_rfl) (by simp) ?_
    refine AllReadyH.cons (o := ?o1__9) ?h1__9 (fun K hK => ?_) AllReadyH.nil
    case h1__9 => (first | (simp only [gA, gB, gC]; done) | (simp only [gA, gB, gC]; exact rfl))
    rw [if_pos (by rfl)]
    refine wp_st_cell 4 _ _ rfl #[.int .i64 x.ds, .int .i64 x.da, .int .i64 x.un, .int .i64 x.wy, .int .i64 x.ti, .int .i64 x.ju, .int .i64 x.lo, .bool x.bl, .bool false, .int .i64 1, .int .i64 x.ta, .bool x.ho, .int .u64 x.sp, .int .u64 x.su, .int .u64 x.sd] (.bool false) rfl rfl HRX.out (by show 8 < 15; decide) rfl (by first | rfl | simp [Value.oneCell']) (by kernel_rfl) ?_
    clear HRX
    intro w3 hw
    have HRX := Lib.hid (show Blk w3 bX 30 #[.int .i64 x.ds, .int .i64 x.da, .int .i64 x.un, .int .i64 x.wy, .int .i64 x.ti, .int .i64 x.ju, .int .i64 x.lo, .bool x.bl, .bool false, .int .i64 1, .int .i64 x.ta, .bool x.ho, .int .u64 x.sp, .int .u64 x.su, .int .u64 x.sd] by obtain ⟨old, Bo, _⟩ := hHeld.2.2; rw [hw]; exact Blk.row Bo _)
    have hHeld3 : (fun W : World => Since w W ∧ Blk W w.heap.size 23 (cfgA c) ∧ HasRow W bX 30 15) w3 := ⟨by rw [hw]; exact Since.setRow hHeld.1 (by have := HNE3.out; omega) _, by rw [hw]; exact Blk.row_far (hHeld.2.1) (by have := HNE3.out; omega) _, HasRow.of HRX.out rfl⟩
    refine hK.out _ _ hHeld3 (fun hHeld2 => ?_)
    clear hK K hHeld hHeld3 hw
    have hHeld := hHeld2
    clear hHeld2
    (try simp only [Act.put, sA, sB, sC])
    refine tkQ 10 (.pointer (some ⟨bX, 7, none⟩)) hHeld (h := ?_)
    (try simp only [Act.put, sA, sB, sC])
    refine wpAnyH_ready (rs := [11]) (by kernel_rfl) (by simp) ?_
    refine AllReadyH.cons (o := ?o1__11) ?h1__11 (fun K hK => ?_) AllReadyH.nil
    case h1__11 => (first | (simp only [gA, gB, gC]; done) | (simp only [gA, gB, gC]; exact rfl))
    rw [if_pos (by rfl)]
    refine wp_st_cell 4 _ _ rfl #[.int .i64 x.ds, .int .i64 x.da, .int .i64 x.un, .int .i64 x.wy, .int .i64 x.ti, .int .i64 x.ju, .int .i64 x.lo, .bool false, .bool false, .int .i64 1, .int .i64 x.ta, .bool x.ho, .int .u64 x.sp, .int .u64 x.su, .int .u64 x.sd] (.bool false) rfl rfl HRX.out (by show 7 < 15; decide) rfl (by first | rfl | simp [Value.oneCell']) (by kernel_rfl) ?_
    clear HRX
    intro w4 hw
    have HRX := Lib.hid (show Blk w4 bX 30 #[.int .i64 x.ds, .int .i64 x.da, .int .i64 x.un, .int .i64 x.wy, .int .i64 x.ti, .int .i64 x.ju, .int .i64 x.lo, .bool false, .bool false, .int .i64 1, .int .i64 x.ta, .bool x.ho, .int .u64 x.sp, .int .u64 x.su, .int .u64 x.sd] by obtain ⟨old, Bo, _⟩ := hHeld.2.2; rw [hw]; exact Blk.row Bo _)
    have hHeld3 : (fun W : World => Since w W ∧ Blk W w.heap.size 23 (cfgA c) ∧ HasRow W bX 30 15) w4 := ⟨by rw [hw]; exact Since.setRow hHeld.1 (by have := HNE3.out; omega) _, by rw [hw]; exact Blk.row_far (hHeld.2.1) (by have := HNE3.out; omega) _, HasRow.of HRX.out rfl⟩
    refine hK.out _ _ hHeld3 (fun hHeld2 => ?_)
    clear hK K hHeld hHeld3 hw
    have hHeld := hHeld2
    clear hHeld2
    (try simp only [Act.put, sA, sB, sC])
    refine tkQ 12 (.pointer (some ⟨bX, 11, none⟩)) hHeld (h := ?_)
    (try simp only [Act.put, sA, sB, sC])
    refine wpAnyH_ready (rs := [13]) (by kernel_rfl) (by simp) ?_
    refine AllReadyH.cons (o := ?o1__13) ?h1__13 (fun K hK => ?_) AllReadyH.nil
    case h1__13 => (first | (simp only [gA, gB, gC]; done) | (simp only [gA, gB, gC]; exact rfl))
    rw [if_pos (by rfl)]
    refine wp_st_cell 4 _ _ rfl #[.int .i64 x.ds, .int .i64 x.da, .int .i64 x.un, .int .i64 x.wy, .int .i64 x.ti, .int .i64 x.ju, .int .i64 x.lo, .bool false, .bool false, .int .i64 1, .int .i64 x.ta, .bool true, .int .u64 x.sp, .int .u64 x.su, .int .u64 x.sd] (.bool true) rfl rfl HRX.out (by show 11 < 15; decide) rfl (by first | rfl | simp [Value.oneCell']) (by kernel_rfl) ?_
    clear HRX
    intro w5 hw
    have HRX := Lib.hid (show Blk w5 bX 30 #[.int .i64 x.ds, .int .i64 x.da, .int .i64 x.un, .int .i64 x.wy, .int .i64 x.ti, .int .i64 x.ju, .int .i64 x.lo, .bool false, .bool false, .int .i64 1, .int .i64 x.ta, .bool true, .int .u64 x.sp, .int .u64 x.su, .int .u64 x.sd] by obtain ⟨old, Bo, _⟩ := hHeld.2.2; rw [hw]; exact Blk.row Bo _)
    have hHeld3 : (fun W : World => Since w W ∧ Blk W w.heap.size 23 (cfgA c) ∧ HasRow W bX 30 15) w5 := ⟨by rw [hw]; exact Since.setRow hHeld.1 (by have := HNE3.out; omega) _, by rw [hw]; exact Blk.row_far (hHeld.2.1) (by have := HNE3.out; omega) _, HasRow.of HRX.out rfl⟩
    refine hK.out _ _ hHeld3 (fun hHeld2 => ?_)
    clear hK K hHeld hHeld3 hw
    have hHeld := hHeld2
    clear hHeld2
    (try simp only [Act.put, sA, sB, sC])
    refine tkQ 14 (.pointer (some ⟨bX, 10, none⟩)) hHeld (h := ?_)
    (try simp only [Act.put, sA, sB, sC])
    refine wpAnyH_ready (rs := [15]) (by kernel_rfl) (by simp) ?_
    refine AllReadyH.cons (o := ?o1__15) ?h1__15 (fun K hK => ?_) AllReadyH.nil
    case h1__15 => (first | (simp only [gA, gB, gC]; done) | (simp only [gA, gB, gC]; exact rfl))
    rw [if_pos (by rfl)]
    refine wp_st_cell 3 _ _ rfl #[.int .i64 x.ds, .int .i64 x.da, .int .i64 x.un, .int .i64 x.wy, .int .i64 x.ti, .int .i64 x.ju, .int .i64 x.lo, .bool false, .bool false, .int .i64 1, .int .i64 f, .bool true, .int .u64 x.sp, .int .u64 x.su, .int .u64 x.sd] (.int .i64 f) rfl rfl HRX.out (by show 10 < 15; decide) rfl (by first | rfl | simp [Value.oneCell']) (by kernel_rfl) ?_
    clear HRX
    intro w6 hw
    have HRX := Lib.hid (show Blk w6 bX 30 #[.int .i64 x.ds, .int .i64 x.da, .int .i64 x.un, .int .i64 x.wy, .int .i64 x.ti, .int .i64 x.ju, .int .i64 x.lo, .bool false, .bool false, .int .i64 1, .int .i64 f, .bool true, .int .u64 x.sp, .int .u64 x.su, .int .u64 x.sd] by obtain ⟨old, Bo, _⟩ := hHeld.2.2; rw [hw]; exact Blk.row Bo _)
    have hHeld3 : (fun W : World => Since w W ∧ Blk W w.heap.size 23 (cfgA c) ∧ HasRow W bX 30 15) w6 := ⟨by rw [hw]; exact Since.setRow hHeld.1 (by have := HNE3.out; omega) _, by rw [hw]; exact Blk.row_far (hHeld.2.1) (by have := HNE3.out; omega) _, HasRow.of HRX.out rfl⟩
    refine hK.out _ _ hHeld3 (fun hHeld2 => ?_)
    clear hK K hHeld hHeld3 hw
    have hHeld := hHeld2
    clear hHeld2
    (try simp only [Act.put, sA, sB, sC])
    refine wpAnyH_done (by kernel_rfl) ?_ _
    have HSd1 := Lib.hid hHeld.1
    have HBCd1 := Lib.hid (hHeld.2.1)
    have HBXd1 := Lib.hid HRX.out
    clear HRX
    clear hHeld HRK HRD HS1 HBC1 HBX1
    go_wp2_with fail
    go_meet
    case rel => exact Lib.hid ⟨HSd1.out, HBCd1.out, HBXd1.out⟩
  case rest =>
    clear HS1 HBC1 HBX1
    obtain ⟨g0, g1, g2⟩ := hcut.out
    clear hcut
    have HS51 := Lib.hid g0
    have HBC51 := Lib.hid g1
    have HBX51 := Lib.hid g2
    clear g0 g1 g2
    obtain ⟨y, hy⟩ : ∃ y : CarV, y = ⟨x.ds, x.da, x.un, x.wy, x.ti, x.ju, x.lo, false, false, 1, f, true, x.sp, x.su, x.sd⟩ := ⟨_, rfl⟩
    have HBX2 := Lib.hid (show Blk wc bX 30 (carA y) by rw [hy]; exact HBX51.out)
    have HY := Lib.hid (show y.mo = 1 ∧ y.ho = true ∧ y.br = false ∧ y.bl = false by rw [hy]; exact ⟨rfl, rfl, rfl, rfl⟩)
    clear hy HBX51
    by_cases hcs : mayB c y = true
    rotate_left
    · have HM := Lib.hid hcs; clear hcs
      go_upto_region 2 with fail
      refine wp_region_lit ?_
      refine wpList_q (by rfl) (.agg (cfgA c)) ?he ?_
      case he => exact exec_load_row 23 _ _ HBC51.out rfl rfl Try.underlying23 rfl (by kernel_rfl)
      (try simp only [Act.put, sA, sB, sC])
      refine wpList_q (by rfl) (.agg (carA y)) ?he ?_
      case he => exact exec_load_row 30 _ _ HBX2.out rfl rfl Try.underlying30 rfl (by kernel_rfl)
      (try simp only [Act.put, sA, sB, sC])
      refine wpList_wp (by rfl) (fun K hK => ?_)
      (try go_simp)
      refine (mayV2 c y false _ (Bool.eq_false_iff.2 HM.out)).mono ?_
      rintro e w52 ⟨rfl, hb⟩
      (try go_wp2_with fail)
      refine hK.out _ _ ?_
      clear hK K
      (try simp only [Act.put, sA, sB, sC])
      have HS52 := Lib.hid (Since.trans HS51.out hb)
      have HBC52 := Lib.hid (keep_blk hb HBC51.out)
      have HBX52 := Lib.hid (keep_blk hb HBX2.out)
      clear HS51 HBC51 HBX2
      clear hb
      refine wpList_q (by rfl) (.bool true) ?he ?_
      case he => (go_simp; (try with_reducible rfl))
      (try simp only [Act.put, sA, sB, sC])
      refine wpList_nil ?_
      go_upto_region 3 with fail
      refine wp_region_lit ?_
      refine wpList_wp (by rfl) (fun K hK => ?_)
      (try go_simp)
      refine (ans _).mono ?_
      rintro e w53 ⟨rfl, hb⟩
      (try go_wp2_with fail)
      refine hK.out _ _ ?_
      clear hK K
      (try simp only [Act.put, sA, sB, sC])
      have HS53 := Lib.hid (Since.trans HS52.out hb)
      have HBC53 := Lib.hid (keep_blk hb HBC52.out)
      have HBX53 := Lib.hid (keep_blk hb HBX52.out)
      clear HS52 HBC52 HBX52
      clear hb
      refine tkL (.bool true) (h := ?_)
      (try simp only [Act.put, sA, sB, sC])
      refine wpList_nil ?_
      (try go_wp2_with fail)
      go_ret
      exact ⟨rfl, HS53.out⟩
    · have HM := Lib.hid hcs; clear hcs
      go_upto_region 2 with fail
      refine wp_region_lit ?_
      refine wpList_q (by rfl) (.agg (cfgA c)) ?he ?_
      case he => exact exec_load_row 23 _ _ HBC51.out rfl rfl Try.underlying23 rfl (by kernel_rfl)
      (try simp only [Act.put, sA, sB, sC])
      refine wpList_q (by rfl) (.agg (carA y)) ?he ?_
      case he => exact exec_load_row 30 _ _ HBX2.out rfl rfl Try.underlying30 rfl (by kernel_rfl)
      (try simp only [Act.put, sA, sB, sC])
      refine wpList_wp (by rfl) (fun K hK => ?_)
      (try go_simp)
      refine (mayV2 c y true _ HM.out).mono ?_
      rintro e w52 ⟨rfl, hb⟩
      (try go_wp2_with fail)
      refine hK.out _ _ ?_
      clear hK K
      (try simp only [Act.put, sA, sB, sC])
      have HS52 := Lib.hid (Since.trans HS51.out hb)
      have HBC52 := Lib.hid (keep_blk hb HBC51.out)
      have HBX52 := Lib.hid (keep_blk hb HBX2.out)
      clear HS51 HBC51 HBX2
      clear hb
      refine wpList_q (by rfl) (.bool false) ?he ?_
      case he => (go_simp; (try with_reducible rfl))
      (try simp only [Act.put, sA, sB, sC])
      refine wpList_nil ?_
      have HI0 := Lib.hid (show GoI c y from ⟨HM.out, HY.out⟩)
      have HBD := Lib.hid (show (0 ≤ y.un ∧ y.un ≤ 252) ∧ (0 ≤ y.ta ∧ y.ta ≤ 63) ∧ 1 ≤ dwV c.dr ∧ dwV c.dr ≤ 1000 ∧ 0 ≤ fr y.un y.ta ∧ fr y.un y.ta ≤ 1000 from by have q1 := (may_bd HM.out).2; have q2 := (go_facts HM.out HY.out.1).2.2.2.2; have q3 := fl_hi c.fl; have q4 := dw_in c.dr; have q5 := fr_lo y.un y.ta; have q6 : fr y.un y.ta ≤ 1000 := (by unfold fr; split <;> omega); omega)
      have HR0 := Lib.hid (show rem c y + 0 ≤ fr y.un y.ta + 3 * dwV c.dr + 3 ∨ rem c y = 0 from by have q := (rem_lo HM.out HY.out.1).2; rw [dw_hd]; omega)
      go_upto_region 4 with fail
      refine wp_region_lit ?_
      refine tkL (.pointer (some ⟨w.heap.size, 4, none⟩)) (h := ?_)
      (try simp only [Act.put, sA, sB, sC])
      refine wpList_q (by rfl) (.int .i64 c.dr) ?he ?_
      case he => exact exec_cell 3 _ _ HBC52.out rfl rfl rfl Try.underlying3 rfl
      (try simp only [Act.put, sA, sB, sC])
      refine wpList_q (by rfl) (.int .i64 (m1 c.dr)) ?he ?_
      case he => (unfold m1; go_simp; (first | done | rfl))
      (try simp only [Act.put, sA, sB, sC])
      refine wpList_q (by rfl) (.int .i64 (dwV c.dr)) ?he ?_
      case he => (unfold dwV; go_simp; (first | done | rfl))
      (try simp only [Act.put, sA, sB, sC])
      refine tkL (.int .i64 (dwV c.dr)) (h := ?_)
      (try simp only [Act.put, sA, sB, sC])
      refine wpList_nil ?_
      go_upto_region 5 with fail
      refine wp_region_lit ?_
      refine tkL (.pointer (some ⟨bX, 2, none⟩)) (h := ?_)
      (try simp only [Act.put, sA, sB, sC])
      refine wpList_q (by rfl) (.int .i64 y.un) ?he ?_
      case he => exact exec_cell 3 _ _ HBX52.out rfl rfl rfl Try.underlying3 rfl
      (try simp only [Act.put, sA, sB, sC])
      refine tkL (.pointer (some ⟨bX, 10, none⟩)) (h := ?_)
      (try simp only [Act.put, sA, sB, sC])
      refine wpList_q (by rfl) (.int .i64 y.ta) ?he ?_
      case he => exact exec_cell 3 _ _ HBX52.out rfl rfl rfl Try.underlying3 rfl
      (try simp only [Act.put, sA, sB, sC])
      refine wpList_wp (by rfl) (fun K hK => ?_)
      (try go_simp)
      refine (farR y.un y.ta (by have := HBD.out; omega) (by have := HBD.out; omega) (by have := HBD.out; omega) (by have := HBD.out; omega) _).mono ?_
      rintro e w' ⟨rfl, rfl⟩
      (try go_wp2_with fail)
      refine hK.out _ _ ?_
      clear hK K
      (try simp only [Act.put, sA, sB, sC])
      refine tkL (.int .i64 (dwV c.dr)) (h := ?_)
      (try simp only [Act.put, sA, sB, sC])
      refine wpList_q (by rfl) (.int .i64 (3 * dwV c.dr)) ?he ?_
      case he => (go_simp; (first | done | (refine wrI _ ?_ ?_ <;> (have q0 := HBD.out; omega)) | (have q0 := HBD.out; omega) | (have q0 := HBD.out; split <;> omega) | (have q0 := HBD.out; intro hh; omega)))
      (try simp only [Act.put, sA, sB, sC])
      refine wpList_q (by rfl) (.int .i64 (fr y.un y.ta + 3 * dwV c.dr)) ?he ?_
      case he => (go_simp; (first | done | (refine wrI _ ?_ ?_ <;> (have q0 := HBD.out; omega)) | (have q0 := HBD.out; omega) | (have q0 := HBD.out; split <;> omega) | (have q0 := HBD.out; intro hh; omega)))
      (try simp only [Act.put, sA, sB, sC])
      refine wpList_q (by rfl) (.int .i64 (fr y.un y.ta + 3 * dwV c.dr + 3)) ?he ?_
      case he => (go_simp; (first | done | (refine wrI _ ?_ ?_ <;> (have q0 := HBD.out; omega)) | (have q0 := HBD.out; omega) | (have q0 := HBD.out; split <;> omega) | (have q0 := HBD.out; intro hh; omega)))
      (try simp only [Act.put, sA, sB, sC])
      refine tkL (.int .i64 (fr y.un y.ta + 3 * dwV c.dr + 3)) (h := ?_)
      (try simp only [Act.put, sA, sB, sC])
      refine wpList_nil ?_
      obtain ⟨N, hN⟩ : ∃ N : Int, N = fr y.un y.ta + 3 * dwV c.dr + 3 := ⟨_, rfl⟩
      rw [← hN]
      have HN := Lib.hid (show 0 ≤ N ∧ N ≤ 10000 from by have := HBD.out; omega)
      have HR1 := Lib.hid (show rem c y + 0 ≤ N ∨ rem c y = 0 from by rw [hN]; exact HR0.out)
      clear hN HR0
      go_upto_region 6 with fail
      refine wp_region_lit ?_
      refine tkL (.int .i64 0) (h := ?_)
      (try simp only [Act.put, sA, sB, sC])
      refine wpList_nil ?_
      go_wp2_with fail
      go_loopw [9] (fun s9 wr => ∃ (i : Nat) (x : CarV), (i : Int) ≤ N ∧ s9 = .int .i64 (i : Int) ∧ Hid (GoI c x ∧ (x.ta = y.ta) ∧ (rem c x + (i : Int) ≤ N ∨ rem c x = 0) ∧ Since w wr ∧ Blk wr w.heap.size 23 (cfgA c) ∧ Blk wr bX 30 (carA x))) (fun s9 wq => ((N : Int) - intOf s9).toNat)
      case atStart => exact ⟨0, y, HN.out.1, rfl, Lib.hid ⟨HI0.out, rfl, HR1.out, HS52.out, HBC52.out, HBX52.out⟩⟩
      case round =>
        obtain ⟨i, x, hk, rfl, HO⟩ := hrel
        obtain ⟨e0, e1, e2, g0, g1, g2⟩ := HO.out
        clear HO HS52 HBC52 HBX52
        have HI := Lib.hid e0
        have HTA := Lib.hid e1
        have HR := Lib.hid e2
        have HS102 := Lib.hid g0
        have HBC102 := Lib.hid g1
        have HBX102 := Lib.hid g2
        clear e0 e1 e2 g0 g1 g2
        have HK := Lib.hid hk; clear hk HR1 HI0
        by_cases hcs : (i : Int) < N
        rotate_left
        · have HLT := Lib.hid hcs; clear hcs
          go_upto_region 7 with fail
          refine wp_region_lit ?_
          refine tkL (.int .i64 (i : Int)) (h := ?_)
          (try simp only [Act.put, sA, sB, sC])
          refine tkL (.int .i64 N) (h := ?_)
          (try simp only [Act.put, sA, sB, sC])
          refine wpList_q (by rfl) (.bool false) ?he ?_
          case he => (have q0 := HLT.out; go_simp; (first | done | rfl | omega))
          (try simp only [Act.put, sA, sB, sC])
          refine wpList_nil ?_
          have HE := Lib.hid (rem_fin HI.out HR.out (by have := HLT.out; omega))
          have HTB := Lib.hid (show 0 ≤ x.ta ∧ x.ta ≤ 63 from by have q1 := HTA.out; have q2 := HBD.out; omega)
          go_upto_region 10 with fail
          refine wp_region_lit ?_
          refine wpList_wp (by rfl) (fun K hK => ?_)
          (try go_simp)
          refine (ans _).mono ?_
          rintro e w103 ⟨rfl, hb⟩
          (try go_wp2_with fail)
          refine hK.out _ _ ?_
          clear hK K
          (try simp only [Act.put, sA, sB, sC])
          have HS103 := Lib.hid (Since.trans HS102.out hb)
          have HBC103 := Lib.hid (keep_blk hb HBC102.out)
          have HBX103 := Lib.hid (keep_blk hb HBX102.out)
          clear HS102 HBC102 HBX102
          clear hb
          refine tkL (.bool true) (h := ?_)
          (try simp only [Act.put, sA, sB, sC])
          refine tkL (.pointer (some ⟨bX, 2, none⟩)) (h := ?_)
          (try simp only [Act.put, sA, sB, sC])
          refine wpList_q (by rfl) (.int .i64 x.un) ?he ?_
          case he => exact exec_cell 3 _ _ HBX103.out rfl rfl rfl Try.underlying3 rfl
          (try simp only [Act.put, sA, sB, sC])
          refine tkL (.pointer (some ⟨bX, 10, none⟩)) (h := ?_)
          (try simp only [Act.put, sA, sB, sC])
          refine wpList_q (by rfl) (.int .i64 x.ta) ?he ?_
          case he => exact exec_cell 3 _ _ HBX103.out rfl rfl rfl Try.underlying3 rfl
          (try simp only [Act.put, sA, sB, sC])
          refine wpList_q (by rfl) (.int .i64 (4 * x.ta)) ?he ?_
          case he => (go_simp; (first | done | (refine wrI _ ?_ ?_ <;> (have q0 := HTB.out; omega)) | (have q0 := HTB.out; omega) | (have q0 := HTB.out; split <;> omega) | (have q0 := HTB.out; intro hh; omega)))
          (try simp only [Act.put, sA, sB, sC])
          refine wpList_q (by rfl) (.bool true) ?he ?_
          case he => (have q := HE.out.1; go_simp; (first | done | exact q | (simp [q]; done)))
          (try simp only [Act.put, sA, sB, sC])
          refine tkL (.bool true) (h := ?_)
          (try simp only [Act.put, sA, sB, sC])
          refine tkL (.bool true) (h := ?_)
          (try simp only [Act.put, sA, sB, sC])
          refine tkL (.pointer (some ⟨bX, 0, none⟩)) (h := ?_)
          (try simp only [Act.put, sA, sB, sC])
          refine tkL (.pointer (some ⟨bX, 0, none⟩)) (h := ?_)
          (try simp only [Act.put, sA, sB, sC])
          refine wpList_q (by rfl) (.int .i64 x.ds) ?he ?_
          case he => exact exec_cell 3 _ _ HBX103.out rfl rfl rfl Try.underlying3 rfl
          (try simp only [Act.put, sA, sB, sC])
          refine wpList_q (by rfl) (.bool true) ?he ?_
          case he => (have q := HE.out.2; go_simp; (first | done | exact q | (simp [q]; done)))
          (try simp only [Act.put, sA, sB, sC])
          refine tkL (.bool true) (h := ?_)
          (try simp only [Act.put, sA, sB, sC])
          refine tkL (.bool true) (h := ?_)
          (try simp only [Act.put, sA, sB, sC])
          refine wpList_nil ?_
          (try go_wp2_with fail)
          go_ret
          exact ⟨rfl, HS103.out⟩
        · have HLT := Lib.hid hcs; clear hcs
          go_upto_region 7 with fail
          refine wp_region_lit ?_
          refine tkL (.int .i64 (i : Int)) (h := ?_)
          (try simp only [Act.put, sA, sB, sC])
          refine tkL (.int .i64 N) (h := ?_)
          (try simp only [Act.put, sA, sB, sC])
          refine wpList_q (by rfl) (.bool true) ?he ?_
          case he => (have q0 := HLT.out; go_simp; (first | done | rfl | omega))
          (try simp only [Act.put, sA, sB, sC])
          refine wpList_nil ?_
          go_upto_region 9 with fail
          refine wp_region_lit ?_
          refine wpList_q (by rfl) (.agg (cfgA c)) ?he ?_
          case he => exact exec_load_row 23 _ _ HBC102.out rfl rfl Try.underlying23 rfl (by kernel_rfl)
          (try simp only [Act.put, sA, sB, sC])
          refine wpList_q (by rfl) (.agg (carA x)) ?he ?_
          case he => exact exec_load_row 30 _ _ HBX102.out rfl rfl Try.underlying30 rfl (by kernel_rfl)
          (try simp only [Act.put, sA, sB, sC])
          refine wpList_wp (by rfl) (fun K hK => ?_)
          (try go_simp)
          refine (tickG HI.out _).mono ?_
          rintro e w103 ⟨rfl, hb⟩
          (try go_wp2_with fail)
          refine hK.out _ _ ?_
          clear hK K
          (try simp only [Act.put, sA, sB, sC])
          have HS103 := Lib.hid (Since.trans HS102.out hb)
          have HBC103 := Lib.hid (keep_blk hb HBC102.out)
          have HBX103 := Lib.hid (keep_blk hb HBX102.out)
          clear HS102 HBC102 HBX102
          clear hb
          refine tkL (.tuple #[.agg (carA (tkV c x)), .agg #[.int .i64 0, .int .i64 0], .bool false]) (h := ?_)
          (try simp only [Act.put, sA, sB, sC])
          refine tkL (.agg (carA (tkV c x))) (h := ?_)
          (try simp only [Act.put, sA, sB, sC])
          refine tkL (.agg #[.int .i64 0, .int .i64 0]) (h := ?_)
          (try simp only [Act.put, sA, sB, sC])
          refine tkL (.bool false) (h := ?_)
          (try simp only [Act.put, sA, sB, sC])
          refine wpList_wp (by rfl) (fun K hK => ?_)
          refine wp_st_row 30 _ _ rfl (carA (tkV c x)) rfl rfl (HasRow.of HBX103.out rfl) rfl (by simp [cfgA, carA, ctlA, Value.oneCell']) (by kernel_rfl) ?_
          intro w104 hw
          refine hK.out _ _ ?_
          clear hK K
          (try simp only [Act.put, sA, sB, sC])
          have HS104 := Lib.hid (show Since w w104 by rw [hw]; exact Since.setRow HS103.out (by have := HNE3.out; omega) _)
          have HBC104 := Lib.hid (show Blk w104 w.heap.size 23 (cfgA c) by rw [hw]; exact Blk.row_far HBC103.out (by have := HNE3.out; omega) _)
          have HBX104 := Lib.hid (show Blk w104 bX 30 (carA (tkV c x)) by rw [hw]; exact Blk.row HBX103.out _)
          clear hw HS103 HBC103 HBX103
          refine wpList_nil ?_
          go_upto_region 8 with fail
          refine wp_region_lit ?_
          refine tkL (.int .i64 (i : Int)) (h := ?_)
          (try simp only [Act.put, sA, sB, sC])
          refine wpList_q (by rfl) (.int .i64 ((i : Int) + 1)) ?he ?_
          case he => (go_simp; (first | done | (refine wrI _ ?_ ?_ <;> (have q0 := HK.out; have q1 := HN.out; omega)) | (have q0 := HK.out; have q1 := HN.out; omega) | (have q0 := HK.out; have q1 := HN.out; split <;> omega) | (have q0 := HK.out; have q1 := HN.out; intro hh; omega)))
          (try simp only [Act.put, sA, sB, sC])
          refine tkL (.int .i64 ((i : Int) + 1)) (h := ?_)
          (try simp only [Act.put, sA, sB, sC])
          refine wpList_nil ?_
          go_wp2_with fail
          go_roundw
          case rel => exact ⟨i + 1, tkV c x, by have := HLT.out; push_cast; omega, by go_num, Lib.hid ⟨(goI_next HI.out).1, (goI_next HI.out).2.trans HTA.out, by have q := rem_step HI.out HR.out; push_cast; exact q, HS104.out, HBC104.out, HBX104.out⟩⟩
          case measure => have := HLT.out; simp [intOf]; omega
theorem goesF (cca cfl cft cse cdr cdw cho cre cyi cqu cqo clo csl crt ccp ctr cde cwi : Int) (xds : Int) (xda : Int) (xun : Int) (xwy : Int) (xti : Int) (xju : Int) (xlo : Int) (xbl : Bool) (xbr : Bool) (xmo : Int) (xta : Int) (xho : Bool) (xsp : Int) (xsu : Int) (xsd : Int) (f8 : Int) (w : World) (_ : (Lit.int .i64 cca).wf = true) (_ : (Lit.int .i64 cfl).wf = true) (_ : (Lit.int .i64 cft).wf = true) (_ : (Lit.int .i64 cse).wf = true) (_ : (Lit.int .i64 cdr).wf = true) (_ : (Lit.int .i64 cdw).wf = true) (_ : (Lit.int .i64 cho).wf = true) (_ : (Lit.int .i64 cre).wf = true) (_ : (Lit.int .i64 cyi).wf = true) (_ : (Lit.int .i64 cqu).wf = true) (_ : (Lit.int .i64 cqo).wf = true) (_ : (Lit.int .i64 clo).wf = true) (_ : (Lit.int .i64 csl).wf = true) (_ : (Lit.int .i64 crt).wf = true) (_ : (Lit.int .i64 ccp).wf = true) (_ : (Lit.int .i64 ctr).wf = true) (_ : (Lit.int .i64 cde).wf = true) (_ : (Lit.int .i64 cwi).wf = true) (_wds : (Lit.int .i64 xds).wf = true) (_wda : (Lit.int .i64 xda).wf = true) (_wun : (Lit.int .i64 xun).wf = true) (_wwy : (Lit.int .i64 xwy).wf = true) (_wti : (Lit.int .i64 xti).wf = true) (_wju : (Lit.int .i64 xju).wf = true) (_wlo : (Lit.int .i64 xlo).wf = true) (_wmo : (Lit.int .i64 xmo).wf = true) (_wta : (Lit.int .i64 xta).wf = true) (_wsp : (Lit.int .u64 xsp).wf = true) (_wsu : (Lit.int .u64 xsu).wf = true) (_wsd : (Lit.int .u64 xsd).wf = true) (wf : (Lit.int .u8 f8).wf = true) :
    Calls Try.prog 13 #[.agg #[.int .i64 cca, .int .i64 cfl, .int .i64 cft, .int .i64 cse, .int .i64 cdr, .int .i64 cdw, .int .i64 cho, .int .i64 cre, .int .i64 cyi, .int .i64 cqu, .int .i64 cqo, .int .i64 clo, .int .i64 csl, .int .i64 crt, .int .i64 ccp, .int .i64 ctr, .int .i64 cde, .int .i64 cwi], .agg #[.int .i64 xds, .int .i64 xda, .int .i64 xun, .int .i64 xwy, .int .i64 xti, .int .i64 xju, .int .i64 xlo, .bool xbl, .bool xbr, .int .i64 xmo, .int .i64 xta, .bool xho, .int .u64 xsp, .int .u64 xsu, .int .u64 xsd], .int .u8 f8] w fun e w' => e = .returned (.bool true) ∧ Since w w' := by
  have a := u8_in wf
  have b0 := fl_lo cfl
  have b1 := fl_hi cfl
  have c0 := Int.emod_nonneg f8 (b := fl cfl) (by omega)
  have c1 := Int.emod_lt_of_pos f8 (b := fl cfl) (by omega)
  exact goes ⟨cca, cfl, cft, cse, cdr, cdw, cho, cre, cyi, cqu, cqo, clo, csl, crt, ccp, ctr, cde, cwi⟩ ⟨xds, xda, xun, xwy, xti, xju, xlo, xbl, xbr, xmo, xta, xho, xsp, xsu, xsd⟩ f8 (f8 % fl cfl) w a rfl ⟨c0, c1, by show f8 % fl cfl ≤ 63; omega⟩
end Go.Proofs.Ytdbbacpofgjgoaa.Ct
