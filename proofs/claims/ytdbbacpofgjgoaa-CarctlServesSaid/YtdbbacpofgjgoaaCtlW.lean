/-
  CarctlServes, walked.
  Conditions: what stands ahead of each.
-/
import Derived.Test.YtdbbacpofgjgoaaProg
import Derived.Test.YtdbbacpofgjgoaaShort
import Derived.Test.YtdbbacpofgjgoaaCtlV
import Derived.Test.YtdbbacpofgjgoaaCtlN
import Derived.Test.YtdbbacpofgjgoaaCtlAns
import Derived.Test.YtdbbacpofgjgoaaStoRef
namespace Go.Proofs.Ytdbbacpofgjgoaa.Ct
set_option linter.unusedVariables false
set_option linter.unusedSimpArgs false
open Go.RowKit Go.Proofs.Ytdbbacpofgjgoaa.Ba Go.Proofs.Ytdbbacpofgjgoaa.Mem Go.Proofs.Ytdbbacpofgjgoaa.Ty Go.Proofs.Ytdbbacpofgjgoaa.Mo Go.Proofs.Ytdbbacpofgjgoaa.St Go.Proofs.Ytdbbacpofgjgoaa.Sc Go.Proofs.Ytdbbacpofgjgoaa.Pl
open Go.Proofs.Ytdbbacpofgjgoaa.Do
set_option maxRecDepth 100000
attribute [local irreducible] Go.wpList
theorem mayV4 (c : CfgV) (x : CarV) (b : Bool) (w : World) (h : mayB c x = b) : Calls Try.prog 38 #[.agg (cfgA c), .agg (carA x)] w fun e w' => e = .returned (.bool b) ∧ Since w w' := by subst h; exact mayT c x w
/-- The bits below F. -/
def mskV (F : Int) : Int := IntKind.u64.wrap (bit F - 1)
theorem msk_R (F : Int) : R (mskV F) := by
  unfold mskV R
  simp only [IntKind.wrap, IntKind.bits, IntKind.signed]
  simp
  omega
theorem msk_few : ∀ F : Nat, F ≤ 12 → ∀ g : Nat, g < 64 → tb (mskV F) g = true → g < F := by decide +kernel
theorem msk_lt {x F : Int} (hx : R x) (h0 : 0 ≤ F) (h1 : F ≤ 12) {g : Nat} (hg : g < 64) (h : tb (bits .and .u64 x (mskV F)) g = true) : (g : Int) < F := by
  rw [and_tb hx (msk_R F)] at h
  simp only [Bool.and_eq_true] at h
  have := msk_few F.toNat (by omega) g hg (by rw [show ((F.toNat : Nat) : Int) = F by omega]; exact h.2)
  omega
theorem prod_in {F D W G : Int} (h1 : 2 ≤ F ∧ F ≤ 12) (h2 : (1 ≤ D ∧ D ≤ 5) ∧ (1 ≤ W ∧ W ≤ 8)) (hG : F * (2 * D + W + 4) = G) : 0 ≤ G ∧ G ≤ 264 := by
  obtain ⟨Q, hQ⟩ : ∃ Q, Q = 2 * D + W + 4 := ⟨_, rfl⟩
  have q : 0 ≤ Q ∧ Q ≤ 22 := by omega
  rw [← hQ] at hG
  have a1 : 0 ≤ F * Q := Int.mul_nonneg (by omega) (by omega)
  have a2 : F * Q ≤ 12 * 22 := Int.mul_le_mul (by omega) (by omega) (by omega) (by omega)
  omega
theorem cn0 : cn 0 + cn 0 + cn 0 = 0 := by decide +kernel
theorem idle_at {x : CarV} (h1 : x.mo = 0) (h2 : x.br = false) (h : Idl x) (w : World) : Calls Try.prog 43 #[.agg (carA x)] w fun e w' => e = .returned (.bool true) ∧ Since w w' := by
  obtain ⟨d, l, y, p, u, s⟩ := h
  exact idleY x w h1 h2 l d y (by rw [p]; exact R.zero) (by rw [u]; exact R.zero) (by rw [s]; exact R.zero) (by rw [p, u, s]; exact cn0)
set_option maxHeartbeats 4000000 in
theorem serves (c : CfgV) (x : CarV) (w : World) (hp : R x.sp) (hu : R x.su) (hd : R x.sd) : Calls Try.prog 14 #[.agg (cfgA c), .agg (carA x)] w fun e w' => e = .returned (.bool true) ∧ Since w w' := by
  have HP := Lib.hid hp
  clear hp
  have HU := Lib.hid hu
  clear hu
  have HD := Lib.hid hd
  clear hd
  go_enter Try.func14, Try.ntmps14
  go_upto_region 1 with fail
  obtain ⟨w1, hw1⟩ : ∃ w1, w1 = ((w.alloc (.cells (cfgA c) 23)).alloc (.cells (carA x) 30)) := ⟨_, rfl⟩
  rw [← hw1]
  have HBC1 := Lib.hid (show Blk w1 (w.heap.size) 23 (cfgA c) by rw [hw1]; exact Blk.alloc (Blk.at_ (by (try simp only [size_alloc])) _ _) _)
  have HBX1 := Lib.hid (show Blk w1 (w.heap.size + 1) 30 (carA x) by rw [hw1]; exact Blk.at_ (by (try simp only [size_alloc])) _ _)
  have HS1 := Lib.hid (show Since w w1 by rw [hw1]; exact Since.alloc (Since.alloc (Since.refl w) _) _)
  have hNE : w.heap.size ≤ w.heap.size ∧ w.heap.size < w.heap.size + 1 := by omega
  have HNE := Lib.hid hNE
  clear hNE hw1
  generalize w.heap.size + 1 = bX at *
  have HNE3 := Lib.hid (show w.heap.size ≤ w.heap.size ∧ w.heap.size < bX from HNE.out)
  clear HNE
  refine wp_region_lit ?_
  refine tkL (.pointer (some ⟨w.heap.size, 1, none⟩)) (h := ?_)
  (try simp only [Act.put, sA, sB, sC])
  refine wpList_q (by rfl) (.int .i64 c.fl) ?he ?_
  case he => exact exec_cell 3 _ _ HBC1.out rfl rfl rfl Try.underlying3 rfl
  (try simp only [Act.put, sA, sB, sC])
  refine wpList_wp (by rfl) (fun K hK => ?_)
  (try go_simp)
  refine (floorsR c.fl _).mono ?_
  rintro e w' ⟨rfl, rfl⟩
  (try go_wp2_with fail)
  refine hK.out _ _ ?_
  clear hK K
  (try simp only [Act.put, sA, sB, sC])
  refine tkL (.int .i64 (fl c.fl)) (h := ?_)
  (try simp only [Act.put, sA, sB, sC])
  refine wpList_nil ?_
  go_upto_region 2 with fail
  refine wp_region_lit ?_
  refine tkL (.pointer (some ⟨bX, 9, none⟩)) (h := ?_)
  (try simp only [Act.put, sA, sB, sC])
  refine wpList_wp (by rfl) (fun K hK => ?_)
  refine wp_st_cell 3 _ _ rfl #[.int .i64 x.ds, .int .i64 x.da, .int .i64 x.un, .int .i64 x.wy, .int .i64 x.ti, .int .i64 x.ju, .int .i64 x.lo, .bool x.bl, .bool x.br, .int .i64 0, .int .i64 x.ta, .bool x.ho, .int .u64 x.sp, .int .u64 x.su, .int .u64 x.sd] (.int .i64 0) rfl rfl HBX1.out (by show 9 < 15; decide) rfl (by first | rfl | simp [Value.oneCell']) (by kernel_rfl) ?_
  intro w2 hw
  refine hK.out _ _ ?_
  clear hK K
  (try simp only [Act.put, sA, sB, sC])
  have HS2 := Lib.hid (show Since w w2 by rw [hw]; exact Since.setRow HS1.out (by have := HNE3.out; omega) _)
  have HBC2 := Lib.hid (show Blk w2 w.heap.size 23 (cfgA c) by rw [hw]; exact Blk.row_far HBC1.out (by have := HNE3.out; omega) _)
  have HBX2 := Lib.hid (show Blk w2 bX 30 #[.int .i64 x.ds, .int .i64 x.da, .int .i64 x.un, .int .i64 x.wy, .int .i64 x.ti, .int .i64 x.ju, .int .i64 x.lo, .bool x.bl, .bool x.br, .int .i64 0, .int .i64 x.ta, .bool x.ho, .int .u64 x.sp, .int .u64 x.su, .int .u64 x.sd] by rw [hw]; exact Blk.row HBX1.out _)
  clear hw HS1 HBC1 HBX1
  refine tkL (.pointer (some ⟨bX, 8, none⟩)) (h := ?_)
  (try simp only [Act.put, sA, sB, sC])
  refine wpList_wp (by rfl) (fun K hK => ?_)
  refine wp_st_cell 4 _ _ rfl #[.int .i64 x.ds, .int .i64 x.da, .int .i64 x.un, .int .i64 x.wy, .int .i64 x.ti, .int .i64 x.ju, .int .i64 x.lo, .bool x.bl, .bool false, .int .i64 0, .int .i64 x.ta, .bool x.ho, .int .u64 x.sp, .int .u64 x.su, .int .u64 x.sd] (.bool false) rfl rfl HBX2.out (by show 8 < 15; decide) rfl (by first | rfl | simp [Value.oneCell']) (by kernel_rfl) ?_
  intro w3 hw
  refine hK.out _ _ ?_
  clear hK K
  (try simp only [Act.put, sA, sB, sC])
  have HS3 := Lib.hid (show Since w w3 by rw [hw]; exact Since.setRow HS2.out (by have := HNE3.out; omega) _)
  have HBC3 := Lib.hid (show Blk w3 w.heap.size 23 (cfgA c) by rw [hw]; exact Blk.row_far HBC2.out (by have := HNE3.out; omega) _)
  have HBX3 := Lib.hid (show Blk w3 bX 30 #[.int .i64 x.ds, .int .i64 x.da, .int .i64 x.un, .int .i64 x.wy, .int .i64 x.ti, .int .i64 x.ju, .int .i64 x.lo, .bool x.bl, .bool false, .int .i64 0, .int .i64 x.ta, .bool x.ho, .int .u64 x.sp, .int .u64 x.su, .int .u64 x.sd] by rw [hw]; exact Blk.row HBX2.out _)
  clear hw HS2 HBC2 HBX2
  refine tkL (.pointer (some ⟨bX, 7, none⟩)) (h := ?_)
  (try simp only [Act.put, sA, sB, sC])
  refine wpList_wp (by rfl) (fun K hK => ?_)
  refine wp_st_cell 4 _ _ rfl #[.int .i64 x.ds, .int .i64 x.da, .int .i64 x.un, .int .i64 x.wy, .int .i64 x.ti, .int .i64 x.ju, .int .i64 x.lo, .bool false, .bool false, .int .i64 0, .int .i64 x.ta, .bool x.ho, .int .u64 x.sp, .int .u64 x.su, .int .u64 x.sd] (.bool false) rfl rfl HBX3.out (by show 7 < 15; decide) rfl (by first | rfl | simp [Value.oneCell']) (by kernel_rfl) ?_
  intro w4 hw
  refine hK.out _ _ ?_
  clear hK K
  (try simp only [Act.put, sA, sB, sC])
  have HS4 := Lib.hid (show Since w w4 by rw [hw]; exact Since.setRow HS3.out (by have := HNE3.out; omega) _)
  have HBC4 := Lib.hid (show Blk w4 w.heap.size 23 (cfgA c) by rw [hw]; exact Blk.row_far HBC3.out (by have := HNE3.out; omega) _)
  have HBX4 := Lib.hid (show Blk w4 bX 30 #[.int .i64 x.ds, .int .i64 x.da, .int .i64 x.un, .int .i64 x.wy, .int .i64 x.ti, .int .i64 x.ju, .int .i64 x.lo, .bool false, .bool false, .int .i64 0, .int .i64 x.ta, .bool x.ho, .int .u64 x.sp, .int .u64 x.su, .int .u64 x.sd] by rw [hw]; exact Blk.row HBX3.out _)
  clear hw HS3 HBC3 HBX3
  refine tkL (.pointer (some ⟨bX, 6, none⟩)) (h := ?_)
  (try simp only [Act.put, sA, sB, sC])
  refine wpList_wp (by rfl) (fun K hK => ?_)
  refine wp_st_cell 3 _ _ rfl #[.int .i64 x.ds, .int .i64 x.da, .int .i64 x.un, .int .i64 x.wy, .int .i64 x.ti, .int .i64 x.ju, .int .i64 0, .bool false, .bool false, .int .i64 0, .int .i64 x.ta, .bool x.ho, .int .u64 x.sp, .int .u64 x.su, .int .u64 x.sd] (.int .i64 0) rfl rfl HBX4.out (by show 6 < 15; decide) rfl (by first | rfl | simp [Value.oneCell']) (by kernel_rfl) ?_
  intro w5 hw
  refine hK.out _ _ ?_
  clear hK K
  (try simp only [Act.put, sA, sB, sC])
  have HS5 := Lib.hid (show Since w w5 by rw [hw]; exact Since.setRow HS4.out (by have := HNE3.out; omega) _)
  have HBC5 := Lib.hid (show Blk w5 w.heap.size 23 (cfgA c) by rw [hw]; exact Blk.row_far HBC4.out (by have := HNE3.out; omega) _)
  have HBX5 := Lib.hid (show Blk w5 bX 30 #[.int .i64 x.ds, .int .i64 x.da, .int .i64 x.un, .int .i64 x.wy, .int .i64 x.ti, .int .i64 x.ju, .int .i64 0, .bool false, .bool false, .int .i64 0, .int .i64 x.ta, .bool x.ho, .int .u64 x.sp, .int .u64 x.su, .int .u64 x.sd] by rw [hw]; exact Blk.row HBX4.out _)
  clear hw HS4 HBC4 HBX4
  refine wpList_nil ?_
  go_upto_region 3 with fail
  go_cut [] (fun  wx => Hid (Since w wx ∧ Blk wx w.heap.size 23 (cfgA c) ∧ Blk wx bX 30 #[.int .i64 x.ds, .int .i64 x.da, .int .i64 x.un, .int .i64 x.wy, .int .i64 x.ti, .int .i64 x.ju, .int .i64 0, .bool false, .bool false, .int .i64 0, .int .i64 x.ta, .bool x.ho, .int .u64 (bits .and .u64 x.sp (mskV (fl c.fl))), .int .u64 x.su, .int .u64 x.sd]))
  case first =>
    have hrK : ∀ W W' : World, Since W W' → (Since w W ∧ Blk W w.heap.size 23 (cfgA c) ∧ HasRow W bX 30 15) → (Since w W' ∧ Blk W' w.heap.size 23 (cfgA c) ∧ HasRow W' bX 30 15) := fun W W' k ⟨h, h0, h1⟩ => ⟨h.trans k, keep_blk k h0, HasRow.keep k h1⟩
    have hrS : (fun W : World => Since w W ∧ Blk W w.heap.size 23 (cfgA c) ∧ HasRow W bX 30 15) w5 := ⟨HS5.out, HBC5.out, HasRow.of HBX5.out rfl⟩
    have HRK := Lib.hid hrK
    have HRD := Lib.hid (show (fun W : World => Since w W ∧ Blk W w.heap.size 23 (cfgA c) ∧ HasRow W bX 30 15) (World.drew w5) from hrK _ _ ((Since.refl w5).drew) hrS)
    clear hrK hrS
    have HPX := Lib.hid (show Blk (World.drew w5) bX 30 #[.int .i64 x.ds, .int .i64 x.da, .int .i64 x.un, .int .i64 x.wy, .int .i64 x.ti, .int .i64 x.ju, .int .i64 0, .bool false, .bool false, .int .i64 0, .int .i64 x.ta, .bool x.ho, .int .u64 x.sp, .int .u64 x.su, .int .u64 x.sd] from HBX5.out)
    refine wp_region_held_drew (S := fun W : World => Since w W ∧ Blk W w.heap.size 23 (cfgA c) ∧ HasRow W bX 30 15) (by kernel_rfl) HRD.out (fun hHeld => ?_)
    refine tkQ 0 (.pointer (some ⟨bX, 12, none⟩)) hHeld (h := ?_)
    (try simp only [Act.put, sA, sB, sC])
    refine tkQ 1 (.pointer (some ⟨bX, 12, none⟩)) hHeld (h := ?_)
    (try simp only [Act.put, sA, sB, sC])
    refine tkQ 3 (.int .i64 (fl c.fl)) hHeld (h := ?_)
    (try simp only [Act.put, sA, sB, sC])
    refine wpAnyH_ready (rs := [2, 4]) (by kernel_rfl) (by simp) ?_
    refine AllReadyH.cons (o := ?o3__2b) ?h3__2b (fun K hK => ?g3__2b) (AllReadyH.cons (o := ?o3__4b) ?h3__4b (fun K hK => ?g3__4b) AllReadyH.nil)
    case h3__2b => (first | (simp only [gA, gB, gC]; done) | (simp only [gA, gB, gC]; exact rfl))
    case h3__4b => (first | (simp only [gA, gB, gC]; done) | (simp only [gA, gB, gC]; exact rfl))
    case g3__2b =>
      rw [if_pos (by rfl)]
      refine wp_q (.int .u64 x.sp) ?e3_b2_2 ?_
      case e3_b2_2 => exact exec_cell 26 _ _ HPX.out rfl rfl rfl Try.underlying26 rfl
      refine hK.out _ _ hHeld (fun hHeld2 => ?_)
      clear hK K hHeld2
      (try simp only [Act.put, sA, sB, sC])
      refine wpAnyH_ready (rs := [4]) (by kernel_rfl) (by simp) ?_
      refine AllReadyH.cons (o := ?o3_b2_4) ?h3_b2_4 (fun K hK => ?_) AllReadyH.nil
      case h3_b2_4 => (first | (simp only [gA, gB, gC]; done) | (simp only [gA, gB, gC]; exact rfl))
      (try go_simp)
      refine (bitR (fl c.fl) _).mono ?_
      rintro e w' ⟨rfl, rfl⟩
      (try go_wp2_with fail)
      refine hK.out _ _ hHeld (fun hHeld2 => ?_)
      clear hK K hHeld2
      (try simp only [Act.put, sA, sB, sC])
      refine tkQ 5 (.int .u64 (mskV (fl c.fl))) hHeld (he := by intro w hSw; (unfold mskV; go_simp; (first | done | rfl))) (h := ?_)
      (try simp only [Act.put, sA, sB, sC])
      refine tkQ 6 (.int .u64 (bits .and .u64 x.sp (mskV (fl c.fl)))) hHeld (he := by intro w hSw; (go_simp; (first | done | rfl))) (h := ?_)
      (try simp only [Act.put, sA, sB, sC])
      refine tkQ 7 (.pointer (some ⟨bX, 12, none⟩)) hHeld (h := ?_)
      (try simp only [Act.put, sA, sB, sC])
      refine tkQ 8 (.pointer (some ⟨bX, 12, none⟩)) hHeld (h := ?_)
      (try simp only [Act.put, sA, sB, sC])
      refine wpAnyH_ready (rs := [9]) (by kernel_rfl) (by simp) ?_
      refine AllReadyH.cons (o := ?o3_b2_9) ?h3_b2_9 (fun K hK => ?_) AllReadyH.nil
      case h3_b2_9 => (first | (simp only [gA, gB, gC]; done) | (simp only [gA, gB, gC]; exact rfl))
      rw [if_pos (by rfl)]
      refine wp_st_cell 26 _ _ rfl #[.int .i64 x.ds, .int .i64 x.da, .int .i64 x.un, .int .i64 x.wy, .int .i64 x.ti, .int .i64 x.ju, .int .i64 0, .bool false, .bool false, .int .i64 0, .int .i64 x.ta, .bool x.ho, .int .u64 (bits .and .u64 x.sp (mskV (fl c.fl))), .int .u64 x.su, .int .u64 x.sd] (.int .u64 (bits .and .u64 x.sp (mskV (fl c.fl)))) rfl rfl HPX.out (by show 12 < 15; decide) rfl (by first | rfl | simp [Value.oneCell']) (by kernel_rfl) ?_
      clear HPX
      intro w6 hw
      have HRX := Lib.hid (show Blk w6 bX 30 #[.int .i64 x.ds, .int .i64 x.da, .int .i64 x.un, .int .i64 x.wy, .int .i64 x.ti, .int .i64 x.ju, .int .i64 0, .bool false, .bool false, .int .i64 0, .int .i64 x.ta, .bool x.ho, .int .u64 (bits .and .u64 x.sp (mskV (fl c.fl))), .int .u64 x.su, .int .u64 x.sd] by obtain ⟨old, Bo, _⟩ := hHeld.2.2; rw [hw]; exact Blk.row Bo _)
      have hHeld3 : (fun W : World => Since w W ∧ Blk W w.heap.size 23 (cfgA c) ∧ HasRow W bX 30 15) w6 := ⟨by rw [hw]; exact Since.setRow hHeld.1 (by have := HNE3.out; omega) _, by rw [hw]; exact Blk.row_far (hHeld.2.1) (by have := HNE3.out; omega) _, HasRow.of HRX.out rfl⟩
      refine hK.out _ _ hHeld3 (fun hHeld2 => ?_)
      clear hK K hHeld hHeld3 hw
      have hHeld := hHeld2
      clear hHeld2
      (try simp only [Act.put, sA, sB, sC])
      refine wpAnyH_done (by kernel_rfl) ?_ _
      have HSd3 := Lib.hid hHeld.1
      have HBCd3 := Lib.hid (hHeld.2.1)
      have HBXd3 := Lib.hid HRX.out
      clear HRX
      clear hHeld HRK HRD HS5 HBC5 HBX5
      go_wp2_with fail
      go_meet
      case rel => exact Lib.hid ⟨HSd3.out, HBCd3.out, HBXd3.out⟩
    case g3__4b =>
      (try go_simp)
      refine (bitR (fl c.fl) _).mono ?_
      rintro e w' ⟨rfl, rfl⟩
      (try go_wp2_with fail)
      refine hK.out _ _ hHeld (fun hHeld2 => ?_)
      clear hK K hHeld2
      (try simp only [Act.put, sA, sB, sC])
      refine tkQ 5 (.int .u64 (mskV (fl c.fl))) hHeld (he := by intro w hSw; (unfold mskV; go_simp; (first | done | rfl))) (h := ?_)
      (try simp only [Act.put, sA, sB, sC])
      refine wpAnyH_ready (rs := [2]) (by kernel_rfl) (by simp) ?_
      refine AllReadyH.cons (o := ?o3_b4_2) ?h3_b4_2 (fun K hK => ?_) AllReadyH.nil
      case h3_b4_2 => (first | (simp only [gA, gB, gC]; done) | (simp only [gA, gB, gC]; exact rfl))
      rw [if_pos (by rfl)]
      refine wp_q (.int .u64 x.sp) ?e3_b4_2 ?_
      case e3_b4_2 => exact exec_cell 26 _ _ HPX.out rfl rfl rfl Try.underlying26 rfl
      refine hK.out _ _ hHeld (fun hHeld2 => ?_)
      clear hK K hHeld2
      (try simp only [Act.put, sA, sB, sC])
      refine tkQ 6 (.int .u64 (bits .and .u64 x.sp (mskV (fl c.fl)))) hHeld (he := by intro w hSw; (go_simp; (first | done | rfl))) (h := ?_)
      (try simp only [Act.put, sA, sB, sC])
      refine tkQ 7 (.pointer (some ⟨bX, 12, none⟩)) hHeld (h := ?_)
      (try simp only [Act.put, sA, sB, sC])
      refine tkQ 8 (.pointer (some ⟨bX, 12, none⟩)) hHeld (h := ?_)
      (try simp only [Act.put, sA, sB, sC])
      refine wpAnyH_ready (rs := [9]) (by kernel_rfl) (by simp) ?_
      refine AllReadyH.cons (o := ?o3_b4_9) ?h3_b4_9 (fun K hK => ?_) AllReadyH.nil
      case h3_b4_9 => (first | (simp only [gA, gB, gC]; done) | (simp only [gA, gB, gC]; exact rfl))
      rw [if_pos (by rfl)]
      refine wp_st_cell 26 _ _ rfl #[.int .i64 x.ds, .int .i64 x.da, .int .i64 x.un, .int .i64 x.wy, .int .i64 x.ti, .int .i64 x.ju, .int .i64 0, .bool false, .bool false, .int .i64 0, .int .i64 x.ta, .bool x.ho, .int .u64 (bits .and .u64 x.sp (mskV (fl c.fl))), .int .u64 x.su, .int .u64 x.sd] (.int .u64 (bits .and .u64 x.sp (mskV (fl c.fl)))) rfl rfl HPX.out (by show 12 < 15; decide) rfl (by first | rfl | simp [Value.oneCell']) (by kernel_rfl) ?_
      clear HPX
      intro w6 hw
      have HRX := Lib.hid (show Blk w6 bX 30 #[.int .i64 x.ds, .int .i64 x.da, .int .i64 x.un, .int .i64 x.wy, .int .i64 x.ti, .int .i64 x.ju, .int .i64 0, .bool false, .bool false, .int .i64 0, .int .i64 x.ta, .bool x.ho, .int .u64 (bits .and .u64 x.sp (mskV (fl c.fl))), .int .u64 x.su, .int .u64 x.sd] by obtain ⟨old, Bo, _⟩ := hHeld.2.2; rw [hw]; exact Blk.row Bo _)
      have hHeld3 : (fun W : World => Since w W ∧ Blk W w.heap.size 23 (cfgA c) ∧ HasRow W bX 30 15) w6 := ⟨by rw [hw]; exact Since.setRow hHeld.1 (by have := HNE3.out; omega) _, by rw [hw]; exact Blk.row_far (hHeld.2.1) (by have := HNE3.out; omega) _, HasRow.of HRX.out rfl⟩
      refine hK.out _ _ hHeld3 (fun hHeld2 => ?_)
      clear hK K hHeld hHeld3 hw
      have hHeld := hHeld2
      clear hHeld2
      (try simp only [Act.put, sA, sB, sC])
      refine wpAnyH_done (by kernel_rfl) ?_ _
      have HSd3v2 := Lib.hid hHeld.1
      have HBCd3v2 := Lib.hid (hHeld.2.1)
      have HBXd3v2 := Lib.hid HRX.out
      clear HRX
      clear hHeld HRK HRD HS5 HBC5 HBX5
      go_wp2_with fail
      go_meet
      case rel => exact Lib.hid ⟨HSd3v2.out, HBCd3v2.out, HBXd3v2.out⟩
  case rest =>
    clear HS5 HBC5 HBX5
    obtain ⟨g0, g1, g2⟩ := hcut.out
    clear hcut
    have HS55 := Lib.hid g0
    have HBC55 := Lib.hid g1
    have HBX55 := Lib.hid g2
    clear g0 g1 g2
    go_upto_region 4 with fail
    go_cut [] (fun  wx => Hid (Since w wx ∧ Blk wx w.heap.size 23 (cfgA c) ∧ Blk wx bX 30 #[.int .i64 x.ds, .int .i64 x.da, .int .i64 x.un, .int .i64 x.wy, .int .i64 x.ti, .int .i64 x.ju, .int .i64 0, .bool false, .bool false, .int .i64 0, .int .i64 x.ta, .bool x.ho, .int .u64 (bits .and .u64 x.sp (mskV (fl c.fl))), .int .u64 (bits .and .u64 x.su (mskV (fl c.fl))), .int .u64 x.sd]))
    case first =>
      have hrK : ∀ W W' : World, Since W W' → (Since w W ∧ Blk W w.heap.size 23 (cfgA c) ∧ HasRow W bX 30 15) → (Since w W' ∧ Blk W' w.heap.size 23 (cfgA c) ∧ HasRow W' bX 30 15) := fun W W' k ⟨h, h0, h1⟩ => ⟨h.trans k, keep_blk k h0, HasRow.keep k h1⟩
      have hrS : (fun W : World => Since w W ∧ Blk W w.heap.size 23 (cfgA c) ∧ HasRow W bX 30 15) wc := ⟨HS55.out, HBC55.out, HasRow.of HBX55.out rfl⟩
      have HRK := Lib.hid hrK
      have HRD := Lib.hid (show (fun W : World => Since w W ∧ Blk W w.heap.size 23 (cfgA c) ∧ HasRow W bX 30 15) (World.drew wc) from hrK _ _ ((Since.refl wc).drew) hrS)
      clear hrK hrS
      have HPX := Lib.hid (show Blk (World.drew wc) bX 30 #[.int .i64 x.ds, .int .i64 x.da, .int .i64 x.un, .int .i64 x.wy, .int .i64 x.ti, .int .i64 x.ju, .int .i64 0, .bool false, .bool false, .int .i64 0, .int .i64 x.ta, .bool x.ho, .int .u64 (bits .and .u64 x.sp (mskV (fl c.fl))), .int .u64 x.su, .int .u64 x.sd] from HBX55.out)
      refine wp_region_held_drew (S := fun W : World => Since w W ∧ Blk W w.heap.size 23 (cfgA c) ∧ HasRow W bX 30 15) (by kernel_rfl) HRD.out (fun hHeld => ?_)
      refine tkQ 0 (.pointer (some ⟨bX, 12, none⟩)) hHeld (h := ?_)
      (try simp only [Act.put, sA, sB, sC])
      refine tkQ 1 (.pointer (some ⟨bX, 13, none⟩)) hHeld (h := ?_)
      (try simp only [Act.put, sA, sB, sC])
      refine tkQ 3 (.int .i64 (fl c.fl)) hHeld (h := ?_)
      (try simp only [Act.put, sA, sB, sC])
      refine wpAnyH_ready (rs := [2, 4]) (by kernel_rfl) (by simp) ?_
      refine AllReadyH.cons (o := ?o4__2b) ?h4__2b (fun K hK => ?g4__2b) (AllReadyH.cons (o := ?o4__4b) ?h4__4b (fun K hK => ?g4__4b) AllReadyH.nil)
      case h4__2b => (first | (simp only [gA, gB, gC]; done) | (simp only [gA, gB, gC]; exact rfl))
      case h4__4b => (first | (simp only [gA, gB, gC]; done) | (simp only [gA, gB, gC]; exact rfl))
      case g4__2b =>
        rw [if_pos (by rfl)]
        refine wp_q (.int .u64 x.su) ?e4_b2_2 ?_
        case e4_b2_2 => exact exec_cell 26 _ _ HPX.out rfl rfl rfl Try.underlying26 rfl
        refine hK.out _ _ hHeld (fun hHeld2 => ?_)
        clear hK K hHeld2
        (try simp only [Act.put, sA, sB, sC])
        refine wpAnyH_ready (rs := [4]) (by kernel_rfl) (by simp) ?_
        refine AllReadyH.cons (o := ?o4_b2_4) ?h4_b2_4 (fun K hK => ?_) AllReadyH.nil
        case h4_b2_4 => (first | (simp only [gA, gB, gC]; done) | (simp only [gA, gB, gC]; exact rfl))
        (try go_simp)
        refine (bitR (fl c.fl) _).mono ?_
        rintro e w' ⟨rfl, rfl⟩
        (try go_wp2_with fail)
        refine hK.out _ _ hHeld (fun hHeld2 => ?_)
        clear hK K hHeld2
        (try simp only [Act.put, sA, sB, sC])
        refine tkQ 5 (.int .u64 (mskV (fl c.fl))) hHeld (he := by intro w hSw; (unfold mskV; go_simp; (first | done | rfl))) (h := ?_)
        (try simp only [Act.put, sA, sB, sC])
        refine tkQ 6 (.int .u64 (bits .and .u64 x.su (mskV (fl c.fl)))) hHeld (he := by intro w hSw; (go_simp; (first | done | rfl))) (h := ?_)
        (try simp only [Act.put, sA, sB, sC])
        refine tkQ 7 (.pointer (some ⟨bX, 12, none⟩)) hHeld (h := ?_)
        (try simp only [Act.put, sA, sB, sC])
        refine tkQ 8 (.pointer (some ⟨bX, 13, none⟩)) hHeld (h := ?_)
        (try simp only [Act.put, sA, sB, sC])
        refine wpAnyH_ready (rs := [9]) (by kernel_rfl) (by simp) ?_
        refine AllReadyH.cons (o := ?o4_b2_9) ?h4_b2_9 (fun K hK => ?_) AllReadyH.nil
        case h4_b2_9 => (first | (simp only [gA, gB, gC]; done) | (simp only [gA, gB, gC]; exact rfl))
        rw [if_pos (by rfl)]
        refine wp_st_cell 26 _ _ rfl #[.int .i64 x.ds, .int .i64 x.da, .int .i64 x.un, .int .i64 x.wy, .int .i64 x.ti, .int .i64 x.ju, .int .i64 0, .bool false, .bool false, .int .i64 0, .int .i64 x.ta, .bool x.ho, .int .u64 (bits .and .u64 x.sp (mskV (fl c.fl))), .int .u64 (bits .and .u64 x.su (mskV (fl c.fl))), .int .u64 x.sd] (.int .u64 (bits .and .u64 x.su (mskV (fl c.fl)))) rfl rfl HPX.out (by show 13 < 15; decide) rfl (by first | rfl | simp [Value.oneCell']) (by kernel_rfl) ?_
        clear HPX
        intro w56 hw
        have HRX := Lib.hid (show Blk w56 bX 30 #[.int .i64 x.ds, .int .i64 x.da, .int .i64 x.un, .int .i64 x.wy, .int .i64 x.ti, .int .i64 x.ju, .int .i64 0, .bool false, .bool false, .int .i64 0, .int .i64 x.ta, .bool x.ho, .int .u64 (bits .and .u64 x.sp (mskV (fl c.fl))), .int .u64 (bits .and .u64 x.su (mskV (fl c.fl))), .int .u64 x.sd] by obtain ⟨old, Bo, _⟩ := hHeld.2.2; rw [hw]; exact Blk.row Bo _)
        have hHeld3 : (fun W : World => Since w W ∧ Blk W w.heap.size 23 (cfgA c) ∧ HasRow W bX 30 15) w56 := ⟨by rw [hw]; exact Since.setRow hHeld.1 (by have := HNE3.out; omega) _, by rw [hw]; exact Blk.row_far (hHeld.2.1) (by have := HNE3.out; omega) _, HasRow.of HRX.out rfl⟩
        refine hK.out _ _ hHeld3 (fun hHeld2 => ?_)
        clear hK K hHeld hHeld3 hw
        have hHeld := hHeld2
        clear hHeld2
        (try simp only [Act.put, sA, sB, sC])
        refine wpAnyH_done (by kernel_rfl) ?_ _
        have HSd4 := Lib.hid hHeld.1
        have HBCd4 := Lib.hid (hHeld.2.1)
        have HBXd4 := Lib.hid HRX.out
        clear HRX
        clear hHeld HRK HRD HS55 HBC55 HBX55
        go_wp2_with fail
        go_meet
        case rel => exact Lib.hid ⟨HSd4.out, HBCd4.out, HBXd4.out⟩
      case g4__4b =>
        (try go_simp)
        refine (bitR (fl c.fl) _).mono ?_
        rintro e w' ⟨rfl, rfl⟩
        (try go_wp2_with fail)
        refine hK.out _ _ hHeld (fun hHeld2 => ?_)
        clear hK K hHeld2
        (try simp only [Act.put, sA, sB, sC])
        refine tkQ 5 (.int .u64 (mskV (fl c.fl))) hHeld (he := by intro w hSw; (unfold mskV; go_simp; (first | done | rfl))) (h := ?_)
        (try simp only [Act.put, sA, sB, sC])
        refine wpAnyH_ready (rs := [2]) (by kernel_rfl) (by simp) ?_
        refine AllReadyH.cons (o := ?o4_b4_2) ?h4_b4_2 (fun K hK => ?_) AllReadyH.nil
        case h4_b4_2 => (first | (simp only [gA, gB, gC]; done) | (simp only [gA, gB, gC]; exact rfl))
        rw [if_pos (by rfl)]
        refine wp_q (.int .u64 x.su) ?e4_b4_2 ?_
        case e4_b4_2 => exact exec_cell 26 _ _ HPX.out rfl rfl rfl Try.underlying26 rfl
        refine hK.out _ _ hHeld (fun hHeld2 => ?_)
        clear hK K hHeld2
        (try simp only [Act.put, sA, sB, sC])
        refine tkQ 6 (.int .u64 (bits .and .u64 x.su (mskV (fl c.fl)))) hHeld (he := by intro w hSw; (go_simp; (first | done | rfl))) (h := ?_)
        (try simp only [Act.put, sA, sB, sC])
        refine tkQ 7 (.pointer (some ⟨bX, 12, none⟩)) hHeld (h := ?_)
        (try simp only [Act.put, sA, sB, sC])
        refine tkQ 8 (.pointer (some ⟨bX, 13, none⟩)) hHeld (h := ?_)
        (try simp only [Act.put, sA, sB, sC])
        refine wpAnyH_ready (rs := [9]) (by kernel_rfl) (by simp) ?_
        refine AllReadyH.cons (o := ?o4_b4_9) ?h4_b4_9 (fun K hK => ?_) AllReadyH.nil
        case h4_b4_9 => (first | (simp only [gA, gB, gC]; done) | (simp only [gA, gB, gC]; exact rfl))
        rw [if_pos (by rfl)]
        refine wp_st_cell 26 _ _ rfl #[.int .i64 x.ds, .int .i64 x.da, .int .i64 x.un, .int .i64 x.wy, .int .i64 x.ti, .int .i64 x.ju, .int .i64 0, .bool false, .bool false, .int .i64 0, .int .i64 x.ta, .bool x.ho, .int .u64 (bits .and .u64 x.sp (mskV (fl c.fl))), .int .u64 (bits .and .u64 x.su (mskV (fl c.fl))), .int .u64 x.sd] (.int .u64 (bits .and .u64 x.su (mskV (fl c.fl)))) rfl rfl HPX.out (by show 13 < 15; decide) rfl (by first | rfl | simp [Value.oneCell']) (by kernel_rfl) ?_
        clear HPX
        intro w56 hw
        have HRX := Lib.hid (show Blk w56 bX 30 #[.int .i64 x.ds, .int .i64 x.da, .int .i64 x.un, .int .i64 x.wy, .int .i64 x.ti, .int .i64 x.ju, .int .i64 0, .bool false, .bool false, .int .i64 0, .int .i64 x.ta, .bool x.ho, .int .u64 (bits .and .u64 x.sp (mskV (fl c.fl))), .int .u64 (bits .and .u64 x.su (mskV (fl c.fl))), .int .u64 x.sd] by obtain ⟨old, Bo, _⟩ := hHeld.2.2; rw [hw]; exact Blk.row Bo _)
        have hHeld3 : (fun W : World => Since w W ∧ Blk W w.heap.size 23 (cfgA c) ∧ HasRow W bX 30 15) w56 := ⟨by rw [hw]; exact Since.setRow hHeld.1 (by have := HNE3.out; omega) _, by rw [hw]; exact Blk.row_far (hHeld.2.1) (by have := HNE3.out; omega) _, HasRow.of HRX.out rfl⟩
        refine hK.out _ _ hHeld3 (fun hHeld2 => ?_)
        clear hK K hHeld hHeld3 hw
        have hHeld := hHeld2
        clear hHeld2
        (try simp only [Act.put, sA, sB, sC])
        refine wpAnyH_done (by kernel_rfl) ?_ _
        have HSd4v2 := Lib.hid hHeld.1
        have HBCd4v2 := Lib.hid (hHeld.2.1)
        have HBXd4v2 := Lib.hid HRX.out
        clear HRX
        clear hHeld HRK HRD HS55 HBC55 HBX55
        go_wp2_with fail
        go_meet
        case rel => exact Lib.hid ⟨HSd4v2.out, HBCd4v2.out, HBXd4v2.out⟩
    case rest =>
      clear HS55 HBC55 HBX55
      obtain ⟨g0, g1, g2⟩ := hcut.out
      clear hcut
      have HS105 := Lib.hid g0
      have HBC105 := Lib.hid g1
      have HBX105 := Lib.hid g2
      clear g0 g1 g2
      go_upto_region 5 with fail
      go_cut [] (fun  wx => Hid (Since w wx ∧ Blk wx w.heap.size 23 (cfgA c) ∧ Blk wx bX 30 #[.int .i64 x.ds, .int .i64 x.da, .int .i64 x.un, .int .i64 x.wy, .int .i64 x.ti, .int .i64 x.ju, .int .i64 0, .bool false, .bool false, .int .i64 0, .int .i64 x.ta, .bool x.ho, .int .u64 (bits .and .u64 x.sp (mskV (fl c.fl))), .int .u64 (bits .and .u64 x.su (mskV (fl c.fl))), .int .u64 (bits .and .u64 x.sd (mskV (fl c.fl)))]))
      case first =>
        have hrK : ∀ W W' : World, Since W W' → (Since w W ∧ Blk W w.heap.size 23 (cfgA c) ∧ HasRow W bX 30 15) → (Since w W' ∧ Blk W' w.heap.size 23 (cfgA c) ∧ HasRow W' bX 30 15) := fun W W' k ⟨h, h0, h1⟩ => ⟨h.trans k, keep_blk k h0, HasRow.keep k h1⟩
        have hrS : (fun W : World => Since w W ∧ Blk W w.heap.size 23 (cfgA c) ∧ HasRow W bX 30 15) wc := ⟨HS105.out, HBC105.out, HasRow.of HBX105.out rfl⟩
        have HRK := Lib.hid hrK
        have HRD := Lib.hid (show (fun W : World => Since w W ∧ Blk W w.heap.size 23 (cfgA c) ∧ HasRow W bX 30 15) (World.drew wc) from hrK _ _ ((Since.refl wc).drew) hrS)
        clear hrK hrS
        have HPX := Lib.hid (show Blk (World.drew wc) bX 30 #[.int .i64 x.ds, .int .i64 x.da, .int .i64 x.un, .int .i64 x.wy, .int .i64 x.ti, .int .i64 x.ju, .int .i64 0, .bool false, .bool false, .int .i64 0, .int .i64 x.ta, .bool x.ho, .int .u64 (bits .and .u64 x.sp (mskV (fl c.fl))), .int .u64 (bits .and .u64 x.su (mskV (fl c.fl))), .int .u64 x.sd] from HBX105.out)
        refine wp_region_held_drew (S := fun W : World => Since w W ∧ Blk W w.heap.size 23 (cfgA c) ∧ HasRow W bX 30 15) (by kernel_rfl) HRD.out (fun hHeld => ?_)
        refine tkQ 0 (.pointer (some ⟨bX, 12, none⟩)) hHeld (h := ?_)
        (try simp only [Act.put, sA, sB, sC])
        refine tkQ 1 (.pointer (some ⟨bX, 14, none⟩)) hHeld (h := ?_)
        (try simp only [Act.put, sA, sB, sC])
        refine tkQ 3 (.int .i64 (fl c.fl)) hHeld (h := ?_)
        (try simp only [Act.put, sA, sB, sC])
        refine wpAnyH_ready (rs := [2, 4]) (by kernel_rfl) (by simp) ?_
        refine AllReadyH.cons (o := ?o5__2b) ?h5__2b (fun K hK => ?g5__2b) (AllReadyH.cons (o := ?o5__4b) ?h5__4b (fun K hK => ?g5__4b) AllReadyH.nil)
        case h5__2b => (first | (simp only [gA, gB, gC]; done) | (simp only [gA, gB, gC]; exact rfl))
        case h5__4b => (first | (simp only [gA, gB, gC]; done) | (simp only [gA, gB, gC]; exact rfl))
        case g5__2b =>
          rw [if_pos (by rfl)]
          refine wp_q (.int .u64 x.sd) ?e5_b2_2 ?_
          case e5_b2_2 => exact exec_cell 26 _ _ HPX.out rfl rfl rfl Try.underlying26 rfl
          refine hK.out _ _ hHeld (fun hHeld2 => ?_)
          clear hK K hHeld2
          (try simp only [Act.put, sA, sB, sC])
          refine wpAnyH_ready (rs := [4]) (by kernel_rfl) (by simp) ?_
          refine AllReadyH.cons (o := ?o5_b2_4) ?h5_b2_4 (fun K hK => ?_) AllReadyH.nil
          case h5_b2_4 => (first | (simp only [gA, gB, gC]; done) | (simp only [gA, gB, gC]; exact rfl))
          (try go_simp)
          refine (bitR (fl c.fl) _).mono ?_
          rintro e w' ⟨rfl, rfl⟩
          (try go_wp2_with fail)
          refine hK.out _ _ hHeld (fun hHeld2 => ?_)
          clear hK K hHeld2
          (try simp only [Act.put, sA, sB, sC])
          refine tkQ 5 (.int .u64 (mskV (fl c.fl))) hHeld (he := by intro w hSw; (unfold mskV; go_simp; (first | done | rfl))) (h := ?_)
          (try simp only [Act.put, sA, sB, sC])
          refine tkQ 6 (.int .u64 (bits .and .u64 x.sd (mskV (fl c.fl)))) hHeld (he := by intro w hSw; (go_simp; (first | done | rfl))) (h := ?_)
          (try simp only [Act.put, sA, sB, sC])
          refine tkQ 7 (.pointer (some ⟨bX, 12, none⟩)) hHeld (h := ?_)
          (try simp only [Act.put, sA, sB, sC])
          refine tkQ 8 (.pointer (some ⟨bX, 14, none⟩)) hHeld (h := ?_)
          (try simp only [Act.put, sA, sB, sC])
          refine wpAnyH_ready (rs := [9]) (by kernel_rfl) (by simp) ?_
          refine AllReadyH.cons (o := ?o5_b2_9) ?h5_b2_9 (fun K hK => ?_) AllReadyH.nil
          case h5_b2_9 => (first | (simp only [gA, gB, gC]; done) | (simp only [gA, gB, gC]; exact rfl))
          rw [if_pos (by rfl)]
          refine wp_st_cell 26 _ _ rfl #[.int .i64 x.ds, .int .i64 x.da, .int .i64 x.un, .int .i64 x.wy, .int .i64 x.ti, .int .i64 x.ju, .int .i64 0, .bool false, .bool false, .int .i64 0, .int .i64 x.ta, .bool x.ho, .int .u64 (bits .and .u64 x.sp (mskV (fl c.fl))), .int .u64 (bits .and .u64 x.su (mskV (fl c.fl))), .int .u64 (bits .and .u64 x.sd (mskV (fl c.fl)))] (.int .u64 (bits .and .u64 x.sd (mskV (fl c.fl)))) rfl rfl HPX.out (by show 14 < 15; decide) rfl (by first | rfl | simp [Value.oneCell']) (by kernel_rfl) ?_
          clear HPX
          intro w106 hw
          have HRX := Lib.hid (show Blk w106 bX 30 #[.int .i64 x.ds, .int .i64 x.da, .int .i64 x.un, .int .i64 x.wy, .int .i64 x.ti, .int .i64 x.ju, .int .i64 0, .bool false, .bool false, .int .i64 0, .int .i64 x.ta, .bool x.ho, .int .u64 (bits .and .u64 x.sp (mskV (fl c.fl))), .int .u64 (bits .and .u64 x.su (mskV (fl c.fl))), .int .u64 (bits .and .u64 x.sd (mskV (fl c.fl)))] by obtain ⟨old, Bo, _⟩ := hHeld.2.2; rw [hw]; exact Blk.row Bo _)
          have hHeld3 : (fun W : World => Since w W ∧ Blk W w.heap.size 23 (cfgA c) ∧ HasRow W bX 30 15) w106 := ⟨by rw [hw]; exact Since.setRow hHeld.1 (by have := HNE3.out; omega) _, by rw [hw]; exact Blk.row_far (hHeld.2.1) (by have := HNE3.out; omega) _, HasRow.of HRX.out rfl⟩
          refine hK.out _ _ hHeld3 (fun hHeld2 => ?_)
          clear hK K hHeld hHeld3 hw
          have hHeld := hHeld2
          clear hHeld2
          (try simp only [Act.put, sA, sB, sC])
          refine wpAnyH_done (by kernel_rfl) ?_ _
          have HSd5 := Lib.hid hHeld.1
          have HBCd5 := Lib.hid (hHeld.2.1)
          have HBXd5 := Lib.hid HRX.out
          clear HRX
          clear hHeld HRK HRD HS105 HBC105 HBX105
          go_wp2_with fail
          go_meet
          case rel => exact Lib.hid ⟨HSd5.out, HBCd5.out, HBXd5.out⟩
        case g5__4b =>
          (try go_simp)
          refine (bitR (fl c.fl) _).mono ?_
          rintro e w' ⟨rfl, rfl⟩
          (try go_wp2_with fail)
          refine hK.out _ _ hHeld (fun hHeld2 => ?_)
          clear hK K hHeld2
          (try simp only [Act.put, sA, sB, sC])
          refine tkQ 5 (.int .u64 (mskV (fl c.fl))) hHeld (he := by intro w hSw; (unfold mskV; go_simp; (first | done | rfl))) (h := ?_)
          (try simp only [Act.put, sA, sB, sC])
          refine wpAnyH_ready (rs := [2]) (by kernel_rfl) (by simp) ?_
          refine AllReadyH.cons (o := ?o5_b4_2) ?h5_b4_2 (fun K hK => ?_) AllReadyH.nil
          case h5_b4_2 => (first | (simp only [gA, gB, gC]; done) | (simp only [gA, gB, gC]; exact rfl))
          rw [if_pos (by rfl)]
          refine wp_q (.int .u64 x.sd) ?e5_b4_2 ?_
          case e5_b4_2 => exact exec_cell 26 _ _ HPX.out rfl rfl rfl Try.underlying26 rfl
          refine hK.out _ _ hHeld (fun hHeld2 => ?_)
          clear hK K hHeld2
          (try simp only [Act.put, sA, sB, sC])
          refine tkQ 6 (.int .u64 (bits .and .u64 x.sd (mskV (fl c.fl)))) hHeld (he := by intro w hSw; (go_simp; (first | done | rfl))) (h := ?_)
          (try simp only [Act.put, sA, sB, sC])
          refine tkQ 7 (.pointer (some ⟨bX, 12, none⟩)) hHeld (h := ?_)
          (try simp only [Act.put, sA, sB, sC])
          refine tkQ 8 (.pointer (some ⟨bX, 14, none⟩)) hHeld (h := ?_)
          (try simp only [Act.put, sA, sB, sC])
          refine wpAnyH_ready (rs := [9]) (by kernel_rfl) (by simp) ?_
          refine AllReadyH.cons (o := ?o5_b4_9) ?h5_b4_9 (fun K hK => ?_) AllReadyH.nil
          case h5_b4_9 => (first | (simp only [gA, gB, gC]; done) | (simp only [gA, gB, gC]; exact rfl))
          rw [if_pos (by rfl)]
          refine wp_st_cell 26 _ _ rfl #[.int .i64 x.ds, .int .i64 x.da, .int .i64 x.un, .int .i64 x.wy, .int .i64 x.ti, .int .i64 x.ju, .int .i64 0, .bool false, .bool false, .int .i64 0, .int .i64 x.ta, .bool x.ho, .int .u64 (bits .and .u64 x.sp (mskV (fl c.fl))), .int .u64 (bits .and .u64 x.su (mskV (fl c.fl))), .int .u64 (bits .and .u64 x.sd (mskV (fl c.fl)))] (.int .u64 (bits .and .u64 x.sd (mskV (fl c.fl)))) rfl rfl HPX.out (by show 14 < 15; decide) rfl (by first | rfl | simp [Value.oneCell']) (by kernel_rfl) ?_
          clear HPX
          intro w106 hw
          have HRX := Lib.hid (show Blk w106 bX 30 #[.int .i64 x.ds, .int .i64 x.da, .int .i64 x.un, .int .i64 x.wy, .int .i64 x.ti, .int .i64 x.ju, .int .i64 0, .bool false, .bool false, .int .i64 0, .int .i64 x.ta, .bool x.ho, .int .u64 (bits .and .u64 x.sp (mskV (fl c.fl))), .int .u64 (bits .and .u64 x.su (mskV (fl c.fl))), .int .u64 (bits .and .u64 x.sd (mskV (fl c.fl)))] by obtain ⟨old, Bo, _⟩ := hHeld.2.2; rw [hw]; exact Blk.row Bo _)
          have hHeld3 : (fun W : World => Since w W ∧ Blk W w.heap.size 23 (cfgA c) ∧ HasRow W bX 30 15) w106 := ⟨by rw [hw]; exact Since.setRow hHeld.1 (by have := HNE3.out; omega) _, by rw [hw]; exact Blk.row_far (hHeld.2.1) (by have := HNE3.out; omega) _, HasRow.of HRX.out rfl⟩
          refine hK.out _ _ hHeld3 (fun hHeld2 => ?_)
          clear hK K hHeld hHeld3 hw
          have hHeld := hHeld2
          clear hHeld2
          (try simp only [Act.put, sA, sB, sC])
          refine wpAnyH_done (by kernel_rfl) ?_ _
          have HSd5v2 := Lib.hid hHeld.1
          have HBCd5v2 := Lib.hid (hHeld.2.1)
          have HBXd5v2 := Lib.hid HRX.out
          clear HRX
          clear hHeld HRK HRD HS105 HBC105 HBX105
          go_wp2_with fail
          go_meet
          case rel => exact Lib.hid ⟨HSd5v2.out, HBCd5v2.out, HBXd5v2.out⟩
      case rest =>
        clear HS105 HBC105 HBX105
        obtain ⟨g0, g1, g2⟩ := hcut.out
        clear hcut
        have HS155 := Lib.hid g0
        have HBC155 := Lib.hid g1
        have HBX155 := Lib.hid g2
        clear g0 g1 g2
        obtain ⟨y, hy⟩ : ∃ y : CarV, y = ⟨x.ds, x.da, x.un, x.wy, x.ti, x.ju, 0, false, false, 0, x.ta, x.ho, (bits .and .u64 x.sp (mskV (fl c.fl))), (bits .and .u64 x.su (mskV (fl c.fl))), (bits .and .u64 x.sd (mskV (fl c.fl)))⟩ := ⟨_, rfl⟩
        have HBX2 := Lib.hid (show Blk wc bX 30 (carA y) by rw [hy]; exact HBX155.out)
        have HY := Lib.hid (show (y.mo = 0 ∧ y.br = false ∧ y.bl = false ∧ y.lo = 0) ∧ (R y.sp ∧ R y.su ∧ R y.sd) ∧ (fl c.fl ≤ 12 → ∀ g : Nat, g < 64 → (tb y.sp g = true ∨ tb y.su g = true ∨ tb y.sd g = true) → (g : Int) < fl c.fl) by rw [hy]; have f2 := fl_lo c.fl; exact ⟨⟨rfl, rfl, rfl, rfl⟩, ⟨and_R HP.out (msk_R _), and_R HU.out (msk_R _), and_R HD.out (msk_R _)⟩, fun hF g hg k => by rcases k with k | k | k; exact msk_lt HP.out (by omega) hF hg k; exact msk_lt HU.out (by omega) hF hg k; exact msk_lt HD.out (by omega) hF hg k⟩)
        clear hy HBX155
        by_cases hcs : mayB c y = true
        rotate_left
        · have HM := Lib.hid hcs; clear hcs
          go_upto_region 6 with fail
          refine wp_region_lit ?_
          refine wpList_q (by rfl) (.agg (cfgA c)) ?he ?_
          case he => exact exec_load_row 23 _ _ HBC155.out rfl rfl Try.underlying23 rfl (by kernel_rfl)
          (try simp only [Act.put, sA, sB, sC])
          refine wpList_q (by rfl) (.agg (carA y)) ?he ?_
          case he => exact exec_load_row 30 _ _ HBX2.out rfl rfl Try.underlying30 rfl (by kernel_rfl)
          (try simp only [Act.put, sA, sB, sC])
          refine wpList_wp (by rfl) (fun K hK => ?_)
          (try go_simp)
          refine (mayV4 c y false _ (Bool.eq_false_iff.2 HM.out)).mono ?_
          rintro e w156 ⟨rfl, hb⟩
          (try go_wp2_with fail)
          refine hK.out _ _ ?_
          clear hK K
          (try simp only [Act.put, sA, sB, sC])
          have HS156 := Lib.hid (Since.trans HS155.out hb)
          have HBC156 := Lib.hid (keep_blk hb HBC155.out)
          have HBX156 := Lib.hid (keep_blk hb HBX2.out)
          clear HS155 HBC155 HBX2
          clear hb
          refine wpList_q (by rfl) (.bool true) ?he ?_
          case he => (go_simp; (try with_reducible rfl))
          (try simp only [Act.put, sA, sB, sC])
          refine tkL (.bool true) (h := ?_)
          (try simp only [Act.put, sA, sB, sC])
          refine wpList_no (by rfl) ?_
          (try simp only [Act.put, sA, sB, sC])
          refine wpList_no (by rfl) ?_
          (try simp only [Act.put, sA, sB, sC])
          refine tkL (.bool true) (h := ?_)
          (try simp only [Act.put, sA, sB, sC])
          refine tkL (.bool true) (h := ?_)
          (try simp only [Act.put, sA, sB, sC])
          refine wpList_no (by rfl) ?_
          (try simp only [Act.put, sA, sB, sC])
          refine wpList_no (by rfl) ?_
          (try simp only [Act.put, sA, sB, sC])
          refine wpList_no (by rfl) ?_
          (try simp only [Act.put, sA, sB, sC])
          refine tkL (.bool true) (h := ?_)
          (try simp only [Act.put, sA, sB, sC])
          refine tkL (.bool true) (h := ?_)
          (try simp only [Act.put, sA, sB, sC])
          refine wpList_no (by rfl) ?_
          (try simp only [Act.put, sA, sB, sC])
          refine wpList_no (by rfl) ?_
          (try simp only [Act.put, sA, sB, sC])
          refine wpList_no (by rfl) ?_
          (try simp only [Act.put, sA, sB, sC])
          refine tkL (.bool true) (h := ?_)
          (try simp only [Act.put, sA, sB, sC])
          refine tkL (.bool true) (h := ?_)
          (try simp only [Act.put, sA, sB, sC])
          refine wpList_no (by rfl) ?_
          (try simp only [Act.put, sA, sB, sC])
          refine wpList_no (by rfl) ?_
          (try simp only [Act.put, sA, sB, sC])
          refine wpList_no (by rfl) ?_
          (try simp only [Act.put, sA, sB, sC])
          refine tkL (.bool true) (h := ?_)
          (try simp only [Act.put, sA, sB, sC])
          refine tkL (.bool true) (h := ?_)
          (try simp only [Act.put, sA, sB, sC])
          refine wpList_no (by rfl) ?_
          (try simp only [Act.put, sA, sB, sC])
          refine wpList_no (by rfl) ?_
          (try simp only [Act.put, sA, sB, sC])
          refine wpList_no (by rfl) ?_
          (try simp only [Act.put, sA, sB, sC])
          refine tkL (.bool true) (h := ?_)
          (try simp only [Act.put, sA, sB, sC])
          refine wpList_nil ?_
          go_upto_region 7 with fail
          refine wp_region_lit ?_
          refine wpList_wp (by rfl) (fun K hK => ?_)
          (try go_simp)
          refine (ans _).mono ?_
          rintro e w157 ⟨rfl, hb⟩
          (try go_wp2_with fail)
          refine hK.out _ _ ?_
          clear hK K
          (try simp only [Act.put, sA, sB, sC])
          have HS157 := Lib.hid (Since.trans HS156.out hb)
          have HBC157 := Lib.hid (keep_blk hb HBC156.out)
          have HBX157 := Lib.hid (keep_blk hb HBX156.out)
          clear HS156 HBC156 HBX156
          clear hb
          refine tkL (.bool true) (h := ?_)
          (try simp only [Act.put, sA, sB, sC])
          refine wpList_nil ?_
          (try go_wp2_with fail)
          go_ret
          exact ⟨rfl, HS157.out⟩
        · have HM := Lib.hid hcs; clear hcs
          by_cases hcs : 12 < fl c.fl
          rotate_left
          · have HG1 := Lib.hid hcs; clear hcs
            by_cases hcs : 5 < c.dr
            rotate_left
            · have HG2 := Lib.hid hcs; clear hcs
              by_cases hcs : 8 < c.dw
              rotate_left
              · have HG3 := Lib.hid hcs; clear hcs
                by_cases hcs : 8 < y.ti
                rotate_left
                · have HG4 := Lib.hid hcs; clear hcs
                  by_cases hcs : y.ti < 0
                  rotate_left
                  · have HG5 := Lib.hid hcs; clear hcs
                    go_upto_region 6 with fail
                    refine wp_region_lit ?_
                    refine wpList_q (by rfl) (.agg (cfgA c)) ?he ?_
                    case he => exact exec_load_row 23 _ _ HBC155.out rfl rfl Try.underlying23 rfl (by kernel_rfl)
                    (try simp only [Act.put, sA, sB, sC])
                    refine wpList_q (by rfl) (.agg (carA y)) ?he ?_
                    case he => exact exec_load_row 30 _ _ HBX2.out rfl rfl Try.underlying30 rfl (by kernel_rfl)
                    (try simp only [Act.put, sA, sB, sC])
                    refine wpList_wp (by rfl) (fun K hK => ?_)
                    (try go_simp)
                    refine (mayV4 c y true _ HM.out).mono ?_
                    rintro e w156 ⟨rfl, hb⟩
                    (try go_wp2_with fail)
                    refine hK.out _ _ ?_
                    clear hK K
                    (try simp only [Act.put, sA, sB, sC])
                    have HS156 := Lib.hid (Since.trans HS155.out hb)
                    have HBC156 := Lib.hid (keep_blk hb HBC155.out)
                    have HBX156 := Lib.hid (keep_blk hb HBX2.out)
                    clear HS155 HBC155 HBX2
                    clear hb
                    refine wpList_q (by rfl) (.bool false) ?he ?_
                    case he => (go_simp; (try with_reducible rfl))
                    (try simp only [Act.put, sA, sB, sC])
                    refine tkL (.bool false) (h := ?_)
                    (try simp only [Act.put, sA, sB, sC])
                    refine tkL (.int .i64 (fl c.fl)) (h := ?_)
                    (try simp only [Act.put, sA, sB, sC])
                    refine wpList_q (by rfl) (.bool false) ?he ?_
                    case he => (have q0 := HG1.out; go_simp; (first | done | rfl | omega))
                    (try simp only [Act.put, sA, sB, sC])
                    refine tkL (.bool false) (h := ?_)
                    (try simp only [Act.put, sA, sB, sC])
                    refine tkL (.bool false) (h := ?_)
                    (try simp only [Act.put, sA, sB, sC])
                    refine tkL (.pointer (some ⟨w.heap.size, 4, none⟩)) (h := ?_)
                    (try simp only [Act.put, sA, sB, sC])
                    refine wpList_q (by rfl) (.int .i64 c.dr) ?he ?_
                    case he => exact exec_cell 3 _ _ HBC156.out rfl rfl rfl Try.underlying3 rfl
                    (try simp only [Act.put, sA, sB, sC])
                    refine wpList_q (by rfl) (.bool false) ?he ?_
                    case he => (have q0 := HG2.out; go_simp; (first | done | rfl | omega))
                    (try simp only [Act.put, sA, sB, sC])
                    refine tkL (.bool false) (h := ?_)
                    (try simp only [Act.put, sA, sB, sC])
                    refine tkL (.bool false) (h := ?_)
                    (try simp only [Act.put, sA, sB, sC])
                    refine tkL (.pointer (some ⟨w.heap.size, 5, none⟩)) (h := ?_)
                    (try simp only [Act.put, sA, sB, sC])
                    refine wpList_q (by rfl) (.int .i64 c.dw) ?he ?_
                    case he => exact exec_cell 3 _ _ HBC156.out rfl rfl rfl Try.underlying3 rfl
                    (try simp only [Act.put, sA, sB, sC])
                    refine wpList_q (by rfl) (.bool false) ?he ?_
                    case he => (have q0 := HG3.out; go_simp; (first | done | rfl | omega))
                    (try simp only [Act.put, sA, sB, sC])
                    refine tkL (.bool false) (h := ?_)
                    (try simp only [Act.put, sA, sB, sC])
                    refine tkL (.bool false) (h := ?_)
                    (try simp only [Act.put, sA, sB, sC])
                    refine tkL (.pointer (some ⟨bX, 4, none⟩)) (h := ?_)
                    (try simp only [Act.put, sA, sB, sC])
                    refine wpList_q (by rfl) (.int .i64 y.ti) ?he ?_
                    case he => exact exec_cell 3 _ _ HBX156.out rfl rfl rfl Try.underlying3 rfl
                    (try simp only [Act.put, sA, sB, sC])
                    refine wpList_q (by rfl) (.bool false) ?he ?_
                    case he => (have q0 := HG4.out; go_simp; (first | done | rfl | omega))
                    (try simp only [Act.put, sA, sB, sC])
                    refine tkL (.bool false) (h := ?_)
                    (try simp only [Act.put, sA, sB, sC])
                    refine tkL (.bool false) (h := ?_)
                    (try simp only [Act.put, sA, sB, sC])
                    refine tkL (.pointer (some ⟨bX, 4, none⟩)) (h := ?_)
                    (try simp only [Act.put, sA, sB, sC])
                    refine wpList_q (by rfl) (.int .i64 y.ti) ?he ?_
                    case he => exact exec_cell 3 _ _ HBX156.out rfl rfl rfl Try.underlying3 rfl
                    (try simp only [Act.put, sA, sB, sC])
                    refine wpList_q (by rfl) (.bool false) ?he ?_
                    case he => (have q0 := HG5.out; go_simp; (first | done | rfl | omega))
                    (try simp only [Act.put, sA, sB, sC])
                    refine tkL (.bool false) (h := ?_)
                    (try simp only [Act.put, sA, sB, sC])
                    refine wpList_nil ?_
                    have HBD := Lib.hid (show (2 ≤ fl c.fl ∧ fl c.fl ≤ 12) ∧ (1 ≤ m1 c.dr ∧ m1 c.dr ≤ 5) ∧ (1 ≤ m1 c.dw ∧ m1 c.dw ≤ 8) from by have q1 := HG1.out; have q2 := HG2.out; have q3 := HG3.out; have q4 := fl_lo c.fl; have q5 : 1 ≤ m1 c.dr ∧ m1 c.dr ≤ 5 := (by unfold m1; split <;> omega); have q6 : 1 ≤ m1 c.dw ∧ m1 c.dw ≤ 8 := (by unfold m1; split <;> omega); exact ⟨⟨q4, by omega⟩, q5, q6⟩)
                    have HS0 := Lib.hid (show Ser c y (budg c) from ser_first HM.out HY.out.1.1 HY.out.1.2.1 HY.out.1.2.2.1 HY.out.1.2.2.2 (by have := HG5.out; omega) (by have := HG4.out; omega) HY.out.2.1 HBD.out.1.2 (by have := HG2.out; omega) (by have := HG3.out; omega) (HY.out.2.2 HBD.out.1.2))
                    obtain ⟨G, hG⟩ : ∃ G, fl c.fl * (2 * m1 c.dr + m1 c.dw + 4) = G := ⟨_, rfl⟩
                    have HG := Lib.hid (show fl c.fl * (2 * m1 c.dr + m1 c.dw + 4) = G ∧ 0 ≤ G ∧ G ≤ 264 from ⟨hG, prod_in HBD.out.1 HBD.out.2 hG⟩)
                    have HS1 := Lib.hid (show Ser c y (5 * (4 * (fl c.fl - 1) + G)) from by have q := HS0.out; unfold budg at q; rw [hG] at q; exact q)
                    clear hG HS0
                    go_upto_region 8 with fail
                    refine wp_region_lit ?_
                    refine tkL (.int .i64 (fl c.fl)) (h := ?_)
                    (try simp only [Act.put, sA, sB, sC])
                    refine wpList_q (by rfl) (.int .i64 (fl c.fl - 1)) ?he ?_
                    case he => (go_simp; (first | done | (refine wrI _ ?_ ?_ <;> (have q0 := HBD.out; omega)) | (have q0 := HBD.out; omega) | (have q0 := HBD.out; split <;> omega) | (have q0 := HBD.out; intro hh; omega)))
                    (try simp only [Act.put, sA, sB, sC])
                    refine wpList_q (by rfl) (.int .i64 (4 * (fl c.fl - 1))) ?he ?_
                    case he => (go_simp; (first | done | (refine wrI _ ?_ ?_ <;> (have q0 := HBD.out; omega)) | (have q0 := HBD.out; omega) | (have q0 := HBD.out; split <;> omega) | (have q0 := HBD.out; intro hh; omega)))
                    (try simp only [Act.put, sA, sB, sC])
                    refine tkL (.int .i64 (fl c.fl)) (h := ?_)
                    (try simp only [Act.put, sA, sB, sC])
                    refine tkL (.pointer (some ⟨w.heap.size, 4, none⟩)) (h := ?_)
                    (try simp only [Act.put, sA, sB, sC])
                    refine wpList_q (by rfl) (.int .i64 c.dr) ?he ?_
                    case he => exact exec_cell 3 _ _ HBC156.out rfl rfl rfl Try.underlying3 rfl
                    (try simp only [Act.put, sA, sB, sC])
                    refine wpList_q (by rfl) (.int .i64 (m1 c.dr)) ?he ?_
                    case he => (unfold m1; go_simp; (first | done | rfl))
                    (try simp only [Act.put, sA, sB, sC])
                    refine wpList_q (by rfl) (.int .i64 (2 * m1 c.dr)) ?he ?_
                    case he => (go_simp; (first | done | (refine wrI _ ?_ ?_ <;> (have q0 := HBD.out; omega)) | (have q0 := HBD.out; omega) | (have q0 := HBD.out; split <;> omega) | (have q0 := HBD.out; intro hh; omega)))
                    (try simp only [Act.put, sA, sB, sC])
                    refine tkL (.pointer (some ⟨w.heap.size, 5, none⟩)) (h := ?_)
                    (try simp only [Act.put, sA, sB, sC])
                    refine wpList_q (by rfl) (.int .i64 c.dw) ?he ?_
                    case he => exact exec_cell 3 _ _ HBC156.out rfl rfl rfl Try.underlying3 rfl
                    (try simp only [Act.put, sA, sB, sC])
                    refine wpList_q (by rfl) (.int .i64 (m1 c.dw)) ?he ?_
                    case he => (unfold m1; go_simp; (first | done | rfl))
                    (try simp only [Act.put, sA, sB, sC])
                    refine wpList_q (by rfl) (.int .i64 (2 * m1 c.dr + m1 c.dw)) ?he ?_
                    case he => (go_simp; (first | done | (refine wrI _ ?_ ?_ <;> (have q0 := HBD.out; omega)) | (have q0 := HBD.out; omega) | (have q0 := HBD.out; split <;> omega) | (have q0 := HBD.out; intro hh; omega)))
                    (try simp only [Act.put, sA, sB, sC])
                    refine wpList_q (by rfl) (.int .i64 (2 * m1 c.dr + m1 c.dw + 4)) ?he ?_
                    case he => (go_simp; (first | done | (refine wrI _ ?_ ?_ <;> (have q0 := HBD.out; omega)) | (have q0 := HBD.out; omega) | (have q0 := HBD.out; split <;> omega) | (have q0 := HBD.out; intro hh; omega)))
                    (try simp only [Act.put, sA, sB, sC])
                    refine wpList_q (by rfl) (.int .i64 G) ?he ?_
                    case he => (have q := HG.out; go_simp; (first | done | rfl | (rw [q.1]; done) | (refine wrI _ ?_ ?_ <;> omega) | (rw [q.1]; refine wrI _ ?_ ?_ <;> omega) | omega))
                    (try simp only [Act.put, sA, sB, sC])
                    refine wpList_q (by rfl) (.int .i64 (4 * (fl c.fl - 1) + G)) ?he ?_
                    case he => (go_simp; (first | done | (refine wrI _ ?_ ?_ <;> (have q0 := HBD.out; have q1 := HG.out; omega)) | (have q0 := HBD.out; have q1 := HG.out; omega) | (have q0 := HBD.out; have q1 := HG.out; split <;> omega) | (have q0 := HBD.out; have q1 := HG.out; intro hh; omega)))
                    (try simp only [Act.put, sA, sB, sC])
                    refine wpList_q (by rfl) (.int .i64 (5 * (4 * (fl c.fl - 1) + G))) ?he ?_
                    case he => (go_simp; (first | done | (refine wrI _ ?_ ?_ <;> (have q0 := HBD.out; have q1 := HG.out; omega)) | (have q0 := HBD.out; have q1 := HG.out; omega) | (have q0 := HBD.out; have q1 := HG.out; split <;> omega) | (have q0 := HBD.out; have q1 := HG.out; intro hh; omega)))
                    (try simp only [Act.put, sA, sB, sC])
                    refine tkL (.int .i64 (5 * (4 * (fl c.fl - 1) + G))) (h := ?_)
                    (try simp only [Act.put, sA, sB, sC])
                    refine wpList_nil ?_
                    obtain ⟨N, hN⟩ : ∃ N : Int, N = 5 * (4 * (fl c.fl - 1) + G) := ⟨_, rfl⟩
                    rw [← hN]
                    have HN := Lib.hid (show 0 ≤ N ∧ N ≤ 10000 from by have q1 := HBD.out; have q2 := HG.out.2; omega)
                    have HS2 := Lib.hid (show Ser c y (N - ((0 : Nat) : Int)) from by rw [hN]; have q := HS1.out; simpa using q)
                    clear hN HS1
                    go_upto_region 9 with fail
                    refine wp_region_lit ?_
                    refine tkL (.int .i64 0) (h := ?_)
                    (try simp only [Act.put, sA, sB, sC])
                    refine wpList_nil ?_
                    go_wp2_with fail
                    go_loopw [7] (fun s7 wr => ∃ (i : Nat) (x : CarV), (i : Int) ≤ N ∧ s7 = .int .i64 (i : Int) ∧ Hid (Ser c x (N - (i : Int)) ∧ Since w wr ∧ Blk wr w.heap.size 23 (cfgA c) ∧ Blk wr bX 30 (carA x))) (fun s7 wq => ((N : Int) - intOf s7).toNat)
                    case atStart => exact ⟨0, y, HN.out.1, rfl, Lib.hid ⟨HS2.out, HS156.out, HBC156.out, HBX156.out⟩⟩
                    case round =>
                      obtain ⟨i, x, hk, rfl, HO⟩ := hrel
                      obtain ⟨e0, g0, g1, g2⟩ := HO.out
                      clear HO HS156 HBC156 HBX156
                      have HI := Lib.hid e0
                      have HS206 := Lib.hid g0
                      have HBC206 := Lib.hid g1
                      have HBX206 := Lib.hid g2
                      clear e0 g0 g1 g2
                      have HK := Lib.hid hk; clear hk HS2
                      by_cases hcs : (i : Int) < N
                      rotate_left
                      · have HLT := Lib.hid hcs; clear hcs
                        go_upto_region 10 with fail
                        refine wp_region_lit ?_
                        refine tkL (.int .i64 (i : Int)) (h := ?_)
                        (try simp only [Act.put, sA, sB, sC])
                        refine tkL (.int .i64 N) (h := ?_)
                        (try simp only [Act.put, sA, sB, sC])
                        refine wpList_q (by rfl) (.bool false) ?he ?_
                        case he => (have q0 := HLT.out; go_simp; (first | done | rfl | omega))
                        (try simp only [Act.put, sA, sB, sC])
                        refine wpList_nil ?_
                        have HE := Lib.hid (ser_end HI.out (by have := HLT.out; omega))
                        go_upto_region 13 with fail
                        refine wp_region_lit ?_
                        refine wpList_wp (by rfl) (fun K hK => ?_)
                        (try go_simp)
                        refine (ans _).mono ?_
                        rintro e w207 ⟨rfl, hb⟩
                        (try go_wp2_with fail)
                        refine hK.out _ _ ?_
                        clear hK K
                        (try simp only [Act.put, sA, sB, sC])
                        have HS207 := Lib.hid (Since.trans HS206.out hb)
                        have HBC207 := Lib.hid (keep_blk hb HBC206.out)
                        have HBX207 := Lib.hid (keep_blk hb HBX206.out)
                        clear HS206 HBC206 HBX206
                        clear hb
                        refine tkL (.bool true) (h := ?_)
                        (try simp only [Act.put, sA, sB, sC])
                        refine wpList_q (by rfl) (.agg (carA x)) ?he ?_
                        case he => exact exec_load_row 30 _ _ HBX207.out rfl rfl Try.underlying30 rfl (by kernel_rfl)
                        (try simp only [Act.put, sA, sB, sC])
                        refine wpList_wp (by rfl) (fun K hK => ?_)
                        (try go_simp)
                        refine (idle_at HI.out.1.2.1 HI.out.1.2.2.1 HE.out _).mono ?_
                        rintro e w208 ⟨rfl, hb⟩
                        (try go_wp2_with fail)
                        refine hK.out _ _ ?_
                        clear hK K
                        (try simp only [Act.put, sA, sB, sC])
                        have HS208 := Lib.hid (Since.trans HS207.out hb)
                        have HBC208 := Lib.hid (keep_blk hb HBC207.out)
                        have HBX208 := Lib.hid (keep_blk hb HBX207.out)
                        clear HS207 HBC207 HBX207
                        clear hb
                        refine tkL (.bool true) (h := ?_)
                        (try simp only [Act.put, sA, sB, sC])
                        refine tkL (.bool true) (h := ?_)
                        (try simp only [Act.put, sA, sB, sC])
                        refine wpList_nil ?_
                        (try go_wp2_with fail)
                        go_ret
                        exact ⟨rfl, HS208.out⟩
                      · have HLT := Lib.hid hcs; clear hcs
                        go_upto_region 10 with fail
                        refine wp_region_lit ?_
                        refine tkL (.int .i64 (i : Int)) (h := ?_)
                        (try simp only [Act.put, sA, sB, sC])
                        refine tkL (.int .i64 N) (h := ?_)
                        (try simp only [Act.put, sA, sB, sC])
                        refine wpList_q (by rfl) (.bool true) ?he ?_
                        case he => (have q0 := HLT.out; go_simp; (first | done | rfl | omega))
                        (try simp only [Act.put, sA, sB, sC])
                        refine wpList_nil ?_
                        go_upto_region 12 with fail
                        refine wp_region_lit ?_
                        refine wpList_q (by rfl) (.agg (cfgA c)) ?he ?_
                        case he => exact exec_load_row 23 _ _ HBC206.out rfl rfl Try.underlying23 rfl (by kernel_rfl)
                        (try simp only [Act.put, sA, sB, sC])
                        refine wpList_q (by rfl) (.agg (carA x)) ?he ?_
                        case he => exact exec_load_row 30 _ _ HBX206.out rfl rfl Try.underlying30 rfl (by kernel_rfl)
                        (try simp only [Act.put, sA, sB, sC])
                        refine wpList_wp (by rfl) (fun K hK => ?_)
                        (try go_simp)
                        refine (tickT c x _ (may_bd HI.out.1.1).1 HI.out.1.2.2.2.2.2.2.2.1 HI.out.1.2.2.2.2.2.2.2.2.1 HI.out.1.2.2.2.2.2.2.2.2.2 (fun hm => may_ta HI.out.1.1 hm) (by have := HI.out.1.2.2.2.2.2.1; omega) (by have := HI.out.1.2.2.2.2.2.1; omega)).mono ?_
                        rintro e w207 ⟨rfl, hb⟩
                        (try go_wp2_with fail)
                        refine hK.out _ _ ?_
                        clear hK K
                        (try simp only [Act.put, sA, sB, sC])
                        have HS207 := Lib.hid (Since.trans HS206.out hb)
                        have HBC207 := Lib.hid (keep_blk hb HBC206.out)
                        have HBX207 := Lib.hid (keep_blk hb HBX206.out)
                        clear HS206 HBC206 HBX206
                        clear hb
                        refine tkL (.tuple #[.agg (carA (tkV c x)), .agg #[.int .i64 (tkF x), .int .i64 (tkW x)], .bool (tkS x)]) (h := ?_)
                        (try simp only [Act.put, sA, sB, sC])
                        refine tkL (.agg (carA (tkV c x))) (h := ?_)
                        (try simp only [Act.put, sA, sB, sC])
                        refine tkL (.agg #[.int .i64 (tkF x), .int .i64 (tkW x)]) (h := ?_)
                        (try simp only [Act.put, sA, sB, sC])
                        refine tkL (.bool (tkS x)) (h := ?_)
                        (try simp only [Act.put, sA, sB, sC])
                        refine wpList_wp (by rfl) (fun K hK => ?_)
                        refine wp_st_row 30 _ _ rfl (carA (tkV c x)) rfl rfl (HasRow.of HBX207.out rfl) rfl (by simp [cfgA, carA, ctlA, Value.oneCell']) (by kernel_rfl) ?_
                        intro w208 hw
                        refine hK.out _ _ ?_
                        clear hK K
                        (try simp only [Act.put, sA, sB, sC])
                        have HS208 := Lib.hid (show Since w w208 by rw [hw]; exact Since.setRow HS207.out (by have := HNE3.out; omega) _)
                        have HBC208 := Lib.hid (show Blk w208 w.heap.size 23 (cfgA c) by rw [hw]; exact Blk.row_far HBC207.out (by have := HNE3.out; omega) _)
                        have HBX208 := Lib.hid (show Blk w208 bX 30 (carA (tkV c x)) by rw [hw]; exact Blk.row HBX207.out _)
                        clear hw HS207 HBC207 HBX207
                        refine wpList_nil ?_
                        go_upto_region 11 with fail
                        refine wp_region_lit ?_
                        refine tkL (.int .i64 (i : Int)) (h := ?_)
                        (try simp only [Act.put, sA, sB, sC])
                        refine wpList_q (by rfl) (.int .i64 ((i : Int) + 1)) ?he ?_
                        case he => (go_simp; (first | done | (refine wrI _ ?_ ?_ <;> (have q0 := HK.out; have q1 := HN.out; omega)) | (have q0 := HK.out; have q1 := HN.out; omega) | (have q0 := HK.out; have q1 := HN.out; split <;> omega) | (have q0 := HK.out; have q1 := HN.out; intro hh; omega)))
                        (try simp only [Act.put, sA, sB, sC])
                        refine tkL (.int .i64 ((i : Int) + 1)) (h := ?_)
                        (try simp only [Act.put, sA, sB, sC])
                        refine wpList_nil ?_
                        go_wp2_with fail
                        go_roundw
                        case rel => exact ⟨i + 1, tkV c x, by have := HLT.out; push_cast; omega, by go_num, Lib.hid ⟨by have q := ser_next HI.out; rw [show N - ((i + 1 : Nat) : Int) = N - (i : Int) - 1 by push_cast; omega]; exact q, HS208.out, HBC208.out, HBX208.out⟩⟩
                        case measure => have := HLT.out; simp [intOf]; omega
                  · have HG5 := Lib.hid hcs; clear hcs
                    go_upto_region 6 with fail
                    refine wp_region_lit ?_
                    refine wpList_q (by rfl) (.agg (cfgA c)) ?he ?_
                    case he => exact exec_load_row 23 _ _ HBC155.out rfl rfl Try.underlying23 rfl (by kernel_rfl)
                    (try simp only [Act.put, sA, sB, sC])
                    refine wpList_q (by rfl) (.agg (carA y)) ?he ?_
                    case he => exact exec_load_row 30 _ _ HBX2.out rfl rfl Try.underlying30 rfl (by kernel_rfl)
                    (try simp only [Act.put, sA, sB, sC])
                    refine wpList_wp (by rfl) (fun K hK => ?_)
                    (try go_simp)
                    refine (mayV4 c y true _ HM.out).mono ?_
                    rintro e w156 ⟨rfl, hb⟩
                    (try go_wp2_with fail)
                    refine hK.out _ _ ?_
                    clear hK K
                    (try simp only [Act.put, sA, sB, sC])
                    have HS156 := Lib.hid (Since.trans HS155.out hb)
                    have HBC156 := Lib.hid (keep_blk hb HBC155.out)
                    have HBX156 := Lib.hid (keep_blk hb HBX2.out)
                    clear HS155 HBC155 HBX2
                    clear hb
                    refine wpList_q (by rfl) (.bool false) ?he ?_
                    case he => (go_simp; (try with_reducible rfl))
                    (try simp only [Act.put, sA, sB, sC])
                    refine tkL (.bool false) (h := ?_)
                    (try simp only [Act.put, sA, sB, sC])
                    refine tkL (.int .i64 (fl c.fl)) (h := ?_)
                    (try simp only [Act.put, sA, sB, sC])
                    refine wpList_q (by rfl) (.bool false) ?he ?_
                    case he => (have q0 := HG1.out; go_simp; (first | done | rfl | omega))
                    (try simp only [Act.put, sA, sB, sC])
                    refine tkL (.bool false) (h := ?_)
                    (try simp only [Act.put, sA, sB, sC])
                    refine tkL (.bool false) (h := ?_)
                    (try simp only [Act.put, sA, sB, sC])
                    refine tkL (.pointer (some ⟨w.heap.size, 4, none⟩)) (h := ?_)
                    (try simp only [Act.put, sA, sB, sC])
                    refine wpList_q (by rfl) (.int .i64 c.dr) ?he ?_
                    case he => exact exec_cell 3 _ _ HBC156.out rfl rfl rfl Try.underlying3 rfl
                    (try simp only [Act.put, sA, sB, sC])
                    refine wpList_q (by rfl) (.bool false) ?he ?_
                    case he => (have q0 := HG2.out; go_simp; (first | done | rfl | omega))
                    (try simp only [Act.put, sA, sB, sC])
                    refine tkL (.bool false) (h := ?_)
                    (try simp only [Act.put, sA, sB, sC])
                    refine tkL (.bool false) (h := ?_)
                    (try simp only [Act.put, sA, sB, sC])
                    refine tkL (.pointer (some ⟨w.heap.size, 5, none⟩)) (h := ?_)
                    (try simp only [Act.put, sA, sB, sC])
                    refine wpList_q (by rfl) (.int .i64 c.dw) ?he ?_
                    case he => exact exec_cell 3 _ _ HBC156.out rfl rfl rfl Try.underlying3 rfl
                    (try simp only [Act.put, sA, sB, sC])
                    refine wpList_q (by rfl) (.bool false) ?he ?_
                    case he => (have q0 := HG3.out; go_simp; (first | done | rfl | omega))
                    (try simp only [Act.put, sA, sB, sC])
                    refine tkL (.bool false) (h := ?_)
                    (try simp only [Act.put, sA, sB, sC])
                    refine tkL (.bool false) (h := ?_)
                    (try simp only [Act.put, sA, sB, sC])
                    refine tkL (.pointer (some ⟨bX, 4, none⟩)) (h := ?_)
                    (try simp only [Act.put, sA, sB, sC])
                    refine wpList_q (by rfl) (.int .i64 y.ti) ?he ?_
                    case he => exact exec_cell 3 _ _ HBX156.out rfl rfl rfl Try.underlying3 rfl
                    (try simp only [Act.put, sA, sB, sC])
                    refine wpList_q (by rfl) (.bool false) ?he ?_
                    case he => (have q0 := HG4.out; go_simp; (first | done | rfl | omega))
                    (try simp only [Act.put, sA, sB, sC])
                    refine tkL (.bool false) (h := ?_)
                    (try simp only [Act.put, sA, sB, sC])
                    refine tkL (.bool false) (h := ?_)
                    (try simp only [Act.put, sA, sB, sC])
                    refine tkL (.pointer (some ⟨bX, 4, none⟩)) (h := ?_)
                    (try simp only [Act.put, sA, sB, sC])
                    refine wpList_q (by rfl) (.int .i64 y.ti) ?he ?_
                    case he => exact exec_cell 3 _ _ HBX156.out rfl rfl rfl Try.underlying3 rfl
                    (try simp only [Act.put, sA, sB, sC])
                    refine wpList_q (by rfl) (.bool true) ?he ?_
                    case he => (have q0 := HG5.out; go_simp; (first | done | rfl | omega))
                    (try simp only [Act.put, sA, sB, sC])
                    refine tkL (.bool true) (h := ?_)
                    (try simp only [Act.put, sA, sB, sC])
                    refine wpList_nil ?_
                    go_upto_region 7 with fail
                    refine wp_region_lit ?_
                    refine wpList_wp (by rfl) (fun K hK => ?_)
                    (try go_simp)
                    refine (ans _).mono ?_
                    rintro e w157 ⟨rfl, hb⟩
                    (try go_wp2_with fail)
                    refine hK.out _ _ ?_
                    clear hK K
                    (try simp only [Act.put, sA, sB, sC])
                    have HS157 := Lib.hid (Since.trans HS156.out hb)
                    have HBC157 := Lib.hid (keep_blk hb HBC156.out)
                    have HBX157 := Lib.hid (keep_blk hb HBX156.out)
                    clear HS156 HBC156 HBX156
                    clear hb
                    refine tkL (.bool true) (h := ?_)
                    (try simp only [Act.put, sA, sB, sC])
                    refine wpList_nil ?_
                    (try go_wp2_with fail)
                    go_ret
                    exact ⟨rfl, HS157.out⟩
                · have HG4 := Lib.hid hcs; clear hcs
                  go_upto_region 6 with fail
                  refine wp_region_lit ?_
                  refine wpList_q (by rfl) (.agg (cfgA c)) ?he ?_
                  case he => exact exec_load_row 23 _ _ HBC155.out rfl rfl Try.underlying23 rfl (by kernel_rfl)
                  (try simp only [Act.put, sA, sB, sC])
                  refine wpList_q (by rfl) (.agg (carA y)) ?he ?_
                  case he => exact exec_load_row 30 _ _ HBX2.out rfl rfl Try.underlying30 rfl (by kernel_rfl)
                  (try simp only [Act.put, sA, sB, sC])
                  refine wpList_wp (by rfl) (fun K hK => ?_)
                  (try go_simp)
                  refine (mayV4 c y true _ HM.out).mono ?_
                  rintro e w156 ⟨rfl, hb⟩
                  (try go_wp2_with fail)
                  refine hK.out _ _ ?_
                  clear hK K
                  (try simp only [Act.put, sA, sB, sC])
                  have HS156 := Lib.hid (Since.trans HS155.out hb)
                  have HBC156 := Lib.hid (keep_blk hb HBC155.out)
                  have HBX156 := Lib.hid (keep_blk hb HBX2.out)
                  clear HS155 HBC155 HBX2
                  clear hb
                  refine wpList_q (by rfl) (.bool false) ?he ?_
                  case he => (go_simp; (try with_reducible rfl))
                  (try simp only [Act.put, sA, sB, sC])
                  refine tkL (.bool false) (h := ?_)
                  (try simp only [Act.put, sA, sB, sC])
                  refine tkL (.int .i64 (fl c.fl)) (h := ?_)
                  (try simp only [Act.put, sA, sB, sC])
                  refine wpList_q (by rfl) (.bool false) ?he ?_
                  case he => (have q0 := HG1.out; go_simp; (first | done | rfl | omega))
                  (try simp only [Act.put, sA, sB, sC])
                  refine tkL (.bool false) (h := ?_)
                  (try simp only [Act.put, sA, sB, sC])
                  refine tkL (.bool false) (h := ?_)
                  (try simp only [Act.put, sA, sB, sC])
                  refine tkL (.pointer (some ⟨w.heap.size, 4, none⟩)) (h := ?_)
                  (try simp only [Act.put, sA, sB, sC])
                  refine wpList_q (by rfl) (.int .i64 c.dr) ?he ?_
                  case he => exact exec_cell 3 _ _ HBC156.out rfl rfl rfl Try.underlying3 rfl
                  (try simp only [Act.put, sA, sB, sC])
                  refine wpList_q (by rfl) (.bool false) ?he ?_
                  case he => (have q0 := HG2.out; go_simp; (first | done | rfl | omega))
                  (try simp only [Act.put, sA, sB, sC])
                  refine tkL (.bool false) (h := ?_)
                  (try simp only [Act.put, sA, sB, sC])
                  refine tkL (.bool false) (h := ?_)
                  (try simp only [Act.put, sA, sB, sC])
                  refine tkL (.pointer (some ⟨w.heap.size, 5, none⟩)) (h := ?_)
                  (try simp only [Act.put, sA, sB, sC])
                  refine wpList_q (by rfl) (.int .i64 c.dw) ?he ?_
                  case he => exact exec_cell 3 _ _ HBC156.out rfl rfl rfl Try.underlying3 rfl
                  (try simp only [Act.put, sA, sB, sC])
                  refine wpList_q (by rfl) (.bool false) ?he ?_
                  case he => (have q0 := HG3.out; go_simp; (first | done | rfl | omega))
                  (try simp only [Act.put, sA, sB, sC])
                  refine tkL (.bool false) (h := ?_)
                  (try simp only [Act.put, sA, sB, sC])
                  refine tkL (.bool false) (h := ?_)
                  (try simp only [Act.put, sA, sB, sC])
                  refine tkL (.pointer (some ⟨bX, 4, none⟩)) (h := ?_)
                  (try simp only [Act.put, sA, sB, sC])
                  refine wpList_q (by rfl) (.int .i64 y.ti) ?he ?_
                  case he => exact exec_cell 3 _ _ HBX156.out rfl rfl rfl Try.underlying3 rfl
                  (try simp only [Act.put, sA, sB, sC])
                  refine wpList_q (by rfl) (.bool true) ?he ?_
                  case he => (have q0 := HG4.out; go_simp; (first | done | rfl | omega))
                  (try simp only [Act.put, sA, sB, sC])
                  refine tkL (.bool true) (h := ?_)
                  (try simp only [Act.put, sA, sB, sC])
                  refine tkL (.bool true) (h := ?_)
                  (try simp only [Act.put, sA, sB, sC])
                  refine wpList_no (by rfl) ?_
                  (try simp only [Act.put, sA, sB, sC])
                  refine wpList_no (by rfl) ?_
                  (try simp only [Act.put, sA, sB, sC])
                  refine wpList_no (by rfl) ?_
                  (try simp only [Act.put, sA, sB, sC])
                  refine tkL (.bool true) (h := ?_)
                  (try simp only [Act.put, sA, sB, sC])
                  refine wpList_nil ?_
                  go_upto_region 7 with fail
                  refine wp_region_lit ?_
                  refine wpList_wp (by rfl) (fun K hK => ?_)
                  (try go_simp)
                  refine (ans _).mono ?_
                  rintro e w157 ⟨rfl, hb⟩
                  (try go_wp2_with fail)
                  refine hK.out _ _ ?_
                  clear hK K
                  (try simp only [Act.put, sA, sB, sC])
                  have HS157 := Lib.hid (Since.trans HS156.out hb)
                  have HBC157 := Lib.hid (keep_blk hb HBC156.out)
                  have HBX157 := Lib.hid (keep_blk hb HBX156.out)
                  clear HS156 HBC156 HBX156
                  clear hb
                  refine tkL (.bool true) (h := ?_)
                  (try simp only [Act.put, sA, sB, sC])
                  refine wpList_nil ?_
                  (try go_wp2_with fail)
                  go_ret
                  exact ⟨rfl, HS157.out⟩
              · have HG3 := Lib.hid hcs; clear hcs
                go_upto_region 6 with fail
                refine wp_region_lit ?_
                refine wpList_q (by rfl) (.agg (cfgA c)) ?he ?_
                case he => exact exec_load_row 23 _ _ HBC155.out rfl rfl Try.underlying23 rfl (by kernel_rfl)
                (try simp only [Act.put, sA, sB, sC])
                refine wpList_q (by rfl) (.agg (carA y)) ?he ?_
                case he => exact exec_load_row 30 _ _ HBX2.out rfl rfl Try.underlying30 rfl (by kernel_rfl)
                (try simp only [Act.put, sA, sB, sC])
                refine wpList_wp (by rfl) (fun K hK => ?_)
                (try go_simp)
                refine (mayV4 c y true _ HM.out).mono ?_
                rintro e w156 ⟨rfl, hb⟩
                (try go_wp2_with fail)
                refine hK.out _ _ ?_
                clear hK K
                (try simp only [Act.put, sA, sB, sC])
                have HS156 := Lib.hid (Since.trans HS155.out hb)
                have HBC156 := Lib.hid (keep_blk hb HBC155.out)
                have HBX156 := Lib.hid (keep_blk hb HBX2.out)
                clear HS155 HBC155 HBX2
                clear hb
                refine wpList_q (by rfl) (.bool false) ?he ?_
                case he => (go_simp; (try with_reducible rfl))
                (try simp only [Act.put, sA, sB, sC])
                refine tkL (.bool false) (h := ?_)
                (try simp only [Act.put, sA, sB, sC])
                refine tkL (.int .i64 (fl c.fl)) (h := ?_)
                (try simp only [Act.put, sA, sB, sC])
                refine wpList_q (by rfl) (.bool false) ?he ?_
                case he => (have q0 := HG1.out; go_simp; (first | done | rfl | omega))
                (try simp only [Act.put, sA, sB, sC])
                refine tkL (.bool false) (h := ?_)
                (try simp only [Act.put, sA, sB, sC])
                refine tkL (.bool false) (h := ?_)
                (try simp only [Act.put, sA, sB, sC])
                refine tkL (.pointer (some ⟨w.heap.size, 4, none⟩)) (h := ?_)
                (try simp only [Act.put, sA, sB, sC])
                refine wpList_q (by rfl) (.int .i64 c.dr) ?he ?_
                case he => exact exec_cell 3 _ _ HBC156.out rfl rfl rfl Try.underlying3 rfl
                (try simp only [Act.put, sA, sB, sC])
                refine wpList_q (by rfl) (.bool false) ?he ?_
                case he => (have q0 := HG2.out; go_simp; (first | done | rfl | omega))
                (try simp only [Act.put, sA, sB, sC])
                refine tkL (.bool false) (h := ?_)
                (try simp only [Act.put, sA, sB, sC])
                refine tkL (.bool false) (h := ?_)
                (try simp only [Act.put, sA, sB, sC])
                refine tkL (.pointer (some ⟨w.heap.size, 5, none⟩)) (h := ?_)
                (try simp only [Act.put, sA, sB, sC])
                refine wpList_q (by rfl) (.int .i64 c.dw) ?he ?_
                case he => exact exec_cell 3 _ _ HBC156.out rfl rfl rfl Try.underlying3 rfl
                (try simp only [Act.put, sA, sB, sC])
                refine wpList_q (by rfl) (.bool true) ?he ?_
                case he => (have q0 := HG3.out; go_simp; (first | done | rfl | omega))
                (try simp only [Act.put, sA, sB, sC])
                refine tkL (.bool true) (h := ?_)
                (try simp only [Act.put, sA, sB, sC])
                refine tkL (.bool true) (h := ?_)
                (try simp only [Act.put, sA, sB, sC])
                refine wpList_no (by rfl) ?_
                (try simp only [Act.put, sA, sB, sC])
                refine wpList_no (by rfl) ?_
                (try simp only [Act.put, sA, sB, sC])
                refine wpList_no (by rfl) ?_
                (try simp only [Act.put, sA, sB, sC])
                refine tkL (.bool true) (h := ?_)
                (try simp only [Act.put, sA, sB, sC])
                refine tkL (.bool true) (h := ?_)
                (try simp only [Act.put, sA, sB, sC])
                refine wpList_no (by rfl) ?_
                (try simp only [Act.put, sA, sB, sC])
                refine wpList_no (by rfl) ?_
                (try simp only [Act.put, sA, sB, sC])
                refine wpList_no (by rfl) ?_
                (try simp only [Act.put, sA, sB, sC])
                refine tkL (.bool true) (h := ?_)
                (try simp only [Act.put, sA, sB, sC])
                refine wpList_nil ?_
                go_upto_region 7 with fail
                refine wp_region_lit ?_
                refine wpList_wp (by rfl) (fun K hK => ?_)
                (try go_simp)
                refine (ans _).mono ?_
                rintro e w157 ⟨rfl, hb⟩
                (try go_wp2_with fail)
                refine hK.out _ _ ?_
                clear hK K
                (try simp only [Act.put, sA, sB, sC])
                have HS157 := Lib.hid (Since.trans HS156.out hb)
                have HBC157 := Lib.hid (keep_blk hb HBC156.out)
                have HBX157 := Lib.hid (keep_blk hb HBX156.out)
                clear HS156 HBC156 HBX156
                clear hb
                refine tkL (.bool true) (h := ?_)
                (try simp only [Act.put, sA, sB, sC])
                refine wpList_nil ?_
                (try go_wp2_with fail)
                go_ret
                exact ⟨rfl, HS157.out⟩
            · have HG2 := Lib.hid hcs; clear hcs
              go_upto_region 6 with fail
              refine wp_region_lit ?_
              refine wpList_q (by rfl) (.agg (cfgA c)) ?he ?_
              case he => exact exec_load_row 23 _ _ HBC155.out rfl rfl Try.underlying23 rfl (by kernel_rfl)
              (try simp only [Act.put, sA, sB, sC])
              refine wpList_q (by rfl) (.agg (carA y)) ?he ?_
              case he => exact exec_load_row 30 _ _ HBX2.out rfl rfl Try.underlying30 rfl (by kernel_rfl)
              (try simp only [Act.put, sA, sB, sC])
              refine wpList_wp (by rfl) (fun K hK => ?_)
              (try go_simp)
              refine (mayV4 c y true _ HM.out).mono ?_
              rintro e w156 ⟨rfl, hb⟩
              (try go_wp2_with fail)
              refine hK.out _ _ ?_
              clear hK K
              (try simp only [Act.put, sA, sB, sC])
              have HS156 := Lib.hid (Since.trans HS155.out hb)
              have HBC156 := Lib.hid (keep_blk hb HBC155.out)
              have HBX156 := Lib.hid (keep_blk hb HBX2.out)
              clear HS155 HBC155 HBX2
              clear hb
              refine wpList_q (by rfl) (.bool false) ?he ?_
              case he => (go_simp; (try with_reducible rfl))
              (try simp only [Act.put, sA, sB, sC])
              refine tkL (.bool false) (h := ?_)
              (try simp only [Act.put, sA, sB, sC])
              refine tkL (.int .i64 (fl c.fl)) (h := ?_)
              (try simp only [Act.put, sA, sB, sC])
              refine wpList_q (by rfl) (.bool false) ?he ?_
              case he => (have q0 := HG1.out; go_simp; (first | done | rfl | omega))
              (try simp only [Act.put, sA, sB, sC])
              refine tkL (.bool false) (h := ?_)
              (try simp only [Act.put, sA, sB, sC])
              refine tkL (.bool false) (h := ?_)
              (try simp only [Act.put, sA, sB, sC])
              refine tkL (.pointer (some ⟨w.heap.size, 4, none⟩)) (h := ?_)
              (try simp only [Act.put, sA, sB, sC])
              refine wpList_q (by rfl) (.int .i64 c.dr) ?he ?_
              case he => exact exec_cell 3 _ _ HBC156.out rfl rfl rfl Try.underlying3 rfl
              (try simp only [Act.put, sA, sB, sC])
              refine wpList_q (by rfl) (.bool true) ?he ?_
              case he => (have q0 := HG2.out; go_simp; (first | done | rfl | omega))
              (try simp only [Act.put, sA, sB, sC])
              refine tkL (.bool true) (h := ?_)
              (try simp only [Act.put, sA, sB, sC])
              refine tkL (.bool true) (h := ?_)
              (try simp only [Act.put, sA, sB, sC])
              refine wpList_no (by rfl) ?_
              (try simp only [Act.put, sA, sB, sC])
              refine wpList_no (by rfl) ?_
              (try simp only [Act.put, sA, sB, sC])
              refine wpList_no (by rfl) ?_
              (try simp only [Act.put, sA, sB, sC])
              refine tkL (.bool true) (h := ?_)
              (try simp only [Act.put, sA, sB, sC])
              refine tkL (.bool true) (h := ?_)
              (try simp only [Act.put, sA, sB, sC])
              refine wpList_no (by rfl) ?_
              (try simp only [Act.put, sA, sB, sC])
              refine wpList_no (by rfl) ?_
              (try simp only [Act.put, sA, sB, sC])
              refine wpList_no (by rfl) ?_
              (try simp only [Act.put, sA, sB, sC])
              refine tkL (.bool true) (h := ?_)
              (try simp only [Act.put, sA, sB, sC])
              refine tkL (.bool true) (h := ?_)
              (try simp only [Act.put, sA, sB, sC])
              refine wpList_no (by rfl) ?_
              (try simp only [Act.put, sA, sB, sC])
              refine wpList_no (by rfl) ?_
              (try simp only [Act.put, sA, sB, sC])
              refine wpList_no (by rfl) ?_
              (try simp only [Act.put, sA, sB, sC])
              refine tkL (.bool true) (h := ?_)
              (try simp only [Act.put, sA, sB, sC])
              refine wpList_nil ?_
              go_upto_region 7 with fail
              refine wp_region_lit ?_
              refine wpList_wp (by rfl) (fun K hK => ?_)
              (try go_simp)
              refine (ans _).mono ?_
              rintro e w157 ⟨rfl, hb⟩
              (try go_wp2_with fail)
              refine hK.out _ _ ?_
              clear hK K
              (try simp only [Act.put, sA, sB, sC])
              have HS157 := Lib.hid (Since.trans HS156.out hb)
              have HBC157 := Lib.hid (keep_blk hb HBC156.out)
              have HBX157 := Lib.hid (keep_blk hb HBX156.out)
              clear HS156 HBC156 HBX156
              clear hb
              refine tkL (.bool true) (h := ?_)
              (try simp only [Act.put, sA, sB, sC])
              refine wpList_nil ?_
              (try go_wp2_with fail)
              go_ret
              exact ⟨rfl, HS157.out⟩
          · have HG1 := Lib.hid hcs; clear hcs
            go_upto_region 6 with fail
            refine wp_region_lit ?_
            refine wpList_q (by rfl) (.agg (cfgA c)) ?he ?_
            case he => exact exec_load_row 23 _ _ HBC155.out rfl rfl Try.underlying23 rfl (by kernel_rfl)
            (try simp only [Act.put, sA, sB, sC])
            refine wpList_q (by rfl) (.agg (carA y)) ?he ?_
            case he => exact exec_load_row 30 _ _ HBX2.out rfl rfl Try.underlying30 rfl (by kernel_rfl)
            (try simp only [Act.put, sA, sB, sC])
            refine wpList_wp (by rfl) (fun K hK => ?_)
            (try go_simp)
            refine (mayV4 c y true _ HM.out).mono ?_
            rintro e w156 ⟨rfl, hb⟩
            (try go_wp2_with fail)
            refine hK.out _ _ ?_
            clear hK K
            (try simp only [Act.put, sA, sB, sC])
            have HS156 := Lib.hid (Since.trans HS155.out hb)
            have HBC156 := Lib.hid (keep_blk hb HBC155.out)
            have HBX156 := Lib.hid (keep_blk hb HBX2.out)
            clear HS155 HBC155 HBX2
            clear hb
            refine wpList_q (by rfl) (.bool false) ?he ?_
            case he => (go_simp; (try with_reducible rfl))
            (try simp only [Act.put, sA, sB, sC])
            refine tkL (.bool false) (h := ?_)
            (try simp only [Act.put, sA, sB, sC])
            refine tkL (.int .i64 (fl c.fl)) (h := ?_)
            (try simp only [Act.put, sA, sB, sC])
            refine wpList_q (by rfl) (.bool true) ?he ?_
            case he => (have q0 := HG1.out; go_simp; (first | done | rfl | omega))
            (try simp only [Act.put, sA, sB, sC])
            refine tkL (.bool true) (h := ?_)
            (try simp only [Act.put, sA, sB, sC])
            refine tkL (.bool true) (h := ?_)
            (try simp only [Act.put, sA, sB, sC])
            refine wpList_no (by rfl) ?_
            (try simp only [Act.put, sA, sB, sC])
            refine wpList_no (by rfl) ?_
            (try simp only [Act.put, sA, sB, sC])
            refine wpList_no (by rfl) ?_
            (try simp only [Act.put, sA, sB, sC])
            refine tkL (.bool true) (h := ?_)
            (try simp only [Act.put, sA, sB, sC])
            refine tkL (.bool true) (h := ?_)
            (try simp only [Act.put, sA, sB, sC])
            refine wpList_no (by rfl) ?_
            (try simp only [Act.put, sA, sB, sC])
            refine wpList_no (by rfl) ?_
            (try simp only [Act.put, sA, sB, sC])
            refine wpList_no (by rfl) ?_
            (try simp only [Act.put, sA, sB, sC])
            refine tkL (.bool true) (h := ?_)
            (try simp only [Act.put, sA, sB, sC])
            refine tkL (.bool true) (h := ?_)
            (try simp only [Act.put, sA, sB, sC])
            refine wpList_no (by rfl) ?_
            (try simp only [Act.put, sA, sB, sC])
            refine wpList_no (by rfl) ?_
            (try simp only [Act.put, sA, sB, sC])
            refine wpList_no (by rfl) ?_
            (try simp only [Act.put, sA, sB, sC])
            refine tkL (.bool true) (h := ?_)
            (try simp only [Act.put, sA, sB, sC])
            refine tkL (.bool true) (h := ?_)
            (try simp only [Act.put, sA, sB, sC])
            refine wpList_no (by rfl) ?_
            (try simp only [Act.put, sA, sB, sC])
            refine wpList_no (by rfl) ?_
            (try simp only [Act.put, sA, sB, sC])
            refine wpList_no (by rfl) ?_
            (try simp only [Act.put, sA, sB, sC])
            refine tkL (.bool true) (h := ?_)
            (try simp only [Act.put, sA, sB, sC])
            refine wpList_nil ?_
            go_upto_region 7 with fail
            refine wp_region_lit ?_
            refine wpList_wp (by rfl) (fun K hK => ?_)
            (try go_simp)
            refine (ans _).mono ?_
            rintro e w157 ⟨rfl, hb⟩
            (try go_wp2_with fail)
            refine hK.out _ _ ?_
            clear hK K
            (try simp only [Act.put, sA, sB, sC])
            have HS157 := Lib.hid (Since.trans HS156.out hb)
            have HBC157 := Lib.hid (keep_blk hb HBC156.out)
            have HBX157 := Lib.hid (keep_blk hb HBX156.out)
            clear HS156 HBC156 HBX156
            clear hb
            refine tkL (.bool true) (h := ?_)
            (try simp only [Act.put, sA, sB, sC])
            refine wpList_nil ?_
            (try go_wp2_with fail)
            go_ret
            exact ⟨rfl, HS157.out⟩
theorem rw4 {x : Int} (h : (Lit.int .u64 x).wf = true) : R x := by have := bounds_u64 h; unfold R; omega
theorem servesF (cca cfl cft cse cdr cdw cho cre cyi cqu cqo clo csl crt ccp ctr cde cwi : Int) (xds : Int) (xda : Int) (xun : Int) (xwy : Int) (xti : Int) (xju : Int) (xlo : Int) (xbl : Bool) (xbr : Bool) (xmo : Int) (xta : Int) (xho : Bool) (xsp : Int) (xsu : Int) (xsd : Int) (w : World) (_ : (Lit.int .i64 cca).wf = true) (_ : (Lit.int .i64 cfl).wf = true) (_ : (Lit.int .i64 cft).wf = true) (_ : (Lit.int .i64 cse).wf = true) (_ : (Lit.int .i64 cdr).wf = true) (_ : (Lit.int .i64 cdw).wf = true) (_ : (Lit.int .i64 cho).wf = true) (_ : (Lit.int .i64 cre).wf = true) (_ : (Lit.int .i64 cyi).wf = true) (_ : (Lit.int .i64 cqu).wf = true) (_ : (Lit.int .i64 cqo).wf = true) (_ : (Lit.int .i64 clo).wf = true) (_ : (Lit.int .i64 csl).wf = true) (_ : (Lit.int .i64 crt).wf = true) (_ : (Lit.int .i64 ccp).wf = true) (_ : (Lit.int .i64 ctr).wf = true) (_ : (Lit.int .i64 cde).wf = true) (_ : (Lit.int .i64 cwi).wf = true) (wds : (Lit.int .i64 xds).wf = true) (wda : (Lit.int .i64 xda).wf = true) (wun : (Lit.int .i64 xun).wf = true) (wwy : (Lit.int .i64 xwy).wf = true) (wti : (Lit.int .i64 xti).wf = true) (wju : (Lit.int .i64 xju).wf = true) (wlo : (Lit.int .i64 xlo).wf = true) (wmo : (Lit.int .i64 xmo).wf = true) (wta : (Lit.int .i64 xta).wf = true) (wsp : (Lit.int .u64 xsp).wf = true) (wsu : (Lit.int .u64 xsu).wf = true) (wsd : (Lit.int .u64 xsd).wf = true) :
    Calls Try.prog 14 #[.agg #[.int .i64 cca, .int .i64 cfl, .int .i64 cft, .int .i64 cse, .int .i64 cdr, .int .i64 cdw, .int .i64 cho, .int .i64 cre, .int .i64 cyi, .int .i64 cqu, .int .i64 cqo, .int .i64 clo, .int .i64 csl, .int .i64 crt, .int .i64 ccp, .int .i64 ctr, .int .i64 cde, .int .i64 cwi], .agg #[.int .i64 xds, .int .i64 xda, .int .i64 xun, .int .i64 xwy, .int .i64 xti, .int .i64 xju, .int .i64 xlo, .bool xbl, .bool xbr, .int .i64 xmo, .int .i64 xta, .bool xho, .int .u64 xsp, .int .u64 xsu, .int .u64 xsd]] w fun e w' => e = .returned (.bool true) ∧ Since w w' :=
  serves ⟨cca, cfl, cft, cse, cdr, cdw, cho, cre, cyi, cqu, cqo, clo, csl, crt, ccp, ctr, cde, cwi⟩ ⟨xds, xda, xun, xwy, xti, xju, xlo, xbl, xbr, xmo, xta, xho, xsp, xsu, xsd⟩ w (rw4 wsp) (rw4 wsu) (rw4 wsd)
end Go.Proofs.Ytdbbacpofgjgoaa.Ct
