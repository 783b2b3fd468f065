/-
  CarctlSafe, walked.
  Conditions: what stands ahead of each.
-/
import Derived.Test.YtdbbacpofgjgoaaProg
import Derived.Test.YtdbbacpofgjgoaaShort
import Derived.Test.YtdbbacpofgjgoaaCtlN
import Derived.Test.YtdbbacpofgjgoaaCtlAns
import Derived.Test.YtdbbacpofgjgoaaCarL
namespace Go.Proofs.Ytdbbacpofgjgoaa.Ct
set_option linter.unusedVariables false
set_option linter.unusedSimpArgs false
open Go.RowKit Go.Proofs.Ytdbbacpofgjgoaa.Ba Go.Proofs.Ytdbbacpofgjgoaa.Mem Go.Proofs.Ytdbbacpofgjgoaa.Ty Go.Proofs.Ytdbbacpofgjgoaa.Mo Go.Proofs.Ytdbbacpofgjgoaa.St Go.Proofs.Ytdbbacpofgjgoaa.Sc Go.Proofs.Ytdbbacpofgjgoaa.Pl
open Go.Proofs.Ytdbbacpofgjgoaa.Cs (CV carC fitC)
set_option maxRecDepth 100000
attribute [local irreducible] Go.wpList
theorem mayV (c : CfgV) (x : CarV) (b : Bool) (w : World) (h : mayB c x = b) : Calls Try.prog 38 #[.agg (cfgA c), .agg (carA x)] w fun e w' => e = .returned (.bool b) ∧ Since w w' := by subst h; exact mayT c x w
/-- What holds of the car ahead of round k. -/
def SafeI (c : CfgV) (x : CarV) (k : Nat) : Prop := mayB c x = true ∧ R x.sp ∧ R x.su ∧ R x.sd ∧ -(k : Int) ≤ x.ti ∧ x.ti ≤ 2000
theorem safe_next {c : CfgV} {x : CarV} {k : Nat} (h : SafeI c x k) : SafeI c (tkV c x) (k + 1) := by
  obtain ⟨h1, h2, h3, h4, h5, h6⟩ := h
  have q := tk_R c x h2 h3 h4
  have t := tk_ti c x k h5 (by omega) h6
  exact ⟨tk_may c x h1, q.1, q.2.1, q.2.2, by have := t.1; push_cast; exact this, t.2⟩
theorem Rw {x : Int} (h : (Lit.int .u64 x).wf = true) : R x := by have := bounds_u64 h; unfold R; omega
set_option maxHeartbeats 4000000 in
theorem safe (c : CfgV) (x : CarV) (A : Option Addr) (len cap : Nat) (vs : Nat → CarV) (w : World) (hp : R x.sp) (hu : R x.su) (hd : R x.sd) (hcv : CV w A len vs) (hft : ∀ i, i < len → fitC (vs i)) (hlen : len ≤ 9223372036854775807) : Calls Try.prog 11 #[.agg (cfgA c), .agg (carA x), .slice A len cap] w fun e w' => e = .returned (.bool true) ∧ Since w w' := by
  have HP := Lib.hid hp
  clear hp
  have HU := Lib.hid hu
  clear hu
  have HD := Lib.hid hd
  clear hd
  have HCV := Lib.hid hcv
  clear hcv
  have HFT := Lib.hid hft
  clear hft
  have HLEN := Lib.hid hlen
  clear hlen
  go_enter Try.func11, Try.ntmps11
  go_upto_region 1 with fail
  obtain ⟨w1, hw1⟩ : ∃ w1, w1 = ((w.alloc (.cells (cfgA c) 23)).alloc (.cells (carA x) 30)) := ⟨_, rfl⟩
  rw [← hw1]
  have HBC1 := Lib.hid (show Blk w1 (w.heap.size) 23 (cfgA c) by rw [hw1]; exact Blk.alloc (Blk.at_ (by (try simp only [size_alloc])) _ _) _)
  have HBX1 := Lib.hid (show Blk w1 (w.heap.size + 1) 30 (carA x) by rw [hw1]; exact Blk.at_ (by (try simp only [size_alloc])) _ _)
  have HS1 := Lib.hid (show Since w w1 by rw [hw1]; exact Since.alloc (Since.alloc (Since.refl w) _) _)
  have hNE : w.heap.size ≤ w.heap.size ∧ w.heap.size < w.heap.size + 1 := by omega
  have HNE := Lib.hid hNE
  clear hNE hw1
  generalize w.heap.size + 1 = bX at *
  have HNE3 := Lib.hid (show w.heap.size ≤ w.heap.size ∧ w.heap.size < bX from HNE.out)
  clear HNE
  by_cases hcs : mayB c x = true
  rotate_left
  · have HM := Lib.hid hcs; clear hcs
    refine wp_region_lit ?_
    refine wpList_q (by rfl) (.agg (cfgA c)) ?he ?_
    case he => exact exec_load_row 23 _ _ HBC1.out rfl rfl Try.underlying23 rfl (by kernel_rfl)
    (try simp only [Act.put, sA, sB, sC])
    refine wpList_q (by rfl) (.agg (carA x)) ?he ?_
    case he => exact exec_load_row 30 _ _ HBX1.out rfl rfl Try.underlying30 rfl (by kernel_rfl)
    (try simp only [Act.put, sA, sB, sC])
    refine wpList_wp (by rfl) (fun K hK => ?_)
    (try go_simp)
    refine (mayV c x false _ (Bool.eq_false_iff.2 HM.out)).mono ?_
    rintro e w2 ⟨rfl, hb⟩
    (try go_wp2_with fail)
    refine hK.out _ _ ?_
    clear hK K
    (try simp only [Act.put, sA, sB, sC])
    have HS2 := Lib.hid (Since.trans HS1.out hb)
    have HBC2 := Lib.hid (keep_blk hb HBC1.out)
    have HBX2 := Lib.hid (keep_blk hb HBX1.out)
    clear HS1 HBC1 HBX1
    clear hb
    refine wpList_q (by rfl) (.bool true) ?he ?_
    case he => (go_simp; (try with_reducible rfl))
    (try simp only [Act.put, sA, sB, sC])
    refine tkL (.bool true) (h := ?_)
    (try simp only [Act.put, sA, sB, sC])
    refine wpList_no (by rfl) ?_
    (try simp only [Act.put, sA, sB, sC])
    refine wpList_no (by rfl) ?_
    (try simp only [Act.put, sA, sB, sC])
    refine wpList_no (by rfl) ?_
    (try simp only [Act.put, sA, sB, sC])
    refine tkL (.bool true) (h := ?_)
    (try simp only [Act.put, sA, sB, sC])
    refine tkL (.bool true) (h := ?_)
    (try simp only [Act.put, sA, sB, sC])
    refine wpList_no (by rfl) ?_
    (try simp only [Act.put, sA, sB, sC])
    refine wpList_no (by rfl) ?_
    (try simp only [Act.put, sA, sB, sC])
    refine wpList_no (by rfl) ?_
    (try simp only [Act.put, sA, sB, sC])
    refine tkL (.bool true) (h := ?_)
    (try simp only [Act.put, sA, sB, sC])
    refine wpList_nil ?_
    go_upto_region 2 with fail
    refine wp_region_lit ?_
    refine wpList_wp (by rfl) (fun K hK => ?_)
    (try go_simp)
    refine (ans _).mono ?_
    rintro e w3 ⟨rfl, hb⟩
    (try go_wp2_with fail)
    refine hK.out _ _ ?_
    clear hK K
    (try simp only [Act.put, sA, sB, sC])
    have HS3 := Lib.hid (Since.trans HS2.out hb)
    have HBC3 := Lib.hid (keep_blk hb HBC2.out)
    have HBX3 := Lib.hid (keep_blk hb HBX2.out)
    clear HS2 HBC2 HBX2
    clear hb
    refine tkL (.bool true) (h := ?_)
    (try simp only [Act.put, sA, sB, sC])
    refine wpList_nil ?_
    (try go_wp2_with fail)
    go_ret
    exact ⟨rfl, HS3.out⟩
  · have HM := Lib.hid hcs; clear hcs
    by_cases hcs : x.ti < 0
    rotate_left
    · have HT0 := Lib.hid hcs; clear hcs
      by_cases hcs : 2000 < x.ti
      rotate_left
      · have HT1 := Lib.hid hcs; clear hcs
        refine wp_region_lit ?_
        refine wpList_q (by rfl) (.agg (cfgA c)) ?he ?_
        case he => exact exec_load_row 23 _ _ HBC1.out rfl rfl Try.underlying23 rfl (by kernel_rfl)
        (try simp only [Act.put, sA, sB, sC])
        refine wpList_q (by rfl) (.agg (carA x)) ?he ?_
        case he => exact exec_load_row 30 _ _ HBX1.out rfl rfl Try.underlying30 rfl (by kernel_rfl)
        (try simp only [Act.put, sA, sB, sC])
        refine wpList_wp (by rfl) (fun K hK => ?_)
        (try go_simp)
        refine (mayV c x true _ HM.out).mono ?_
        rintro e w2 ⟨rfl, hb⟩
        (try go_wp2_with fail)
        refine hK.out _ _ ?_
        clear hK K
        (try simp only [Act.put, sA, sB, sC])
        have HS2 := Lib.hid (Since.trans HS1.out hb)
        have HBC2 := Lib.hid (keep_blk hb HBC1.out)
        have HBX2 := Lib.hid (keep_blk hb HBX1.out)
        clear HS1 HBC1 HBX1
        clear hb
        refine wpList_q (by rfl) (.bool false) ?he ?_
        case he => (go_simp; (try with_reducible rfl))
        (try simp only [Act.put, sA, sB, sC])
        refine tkL (.bool false) (h := ?_)
        (try simp only [Act.put, sA, sB, sC])
        refine tkL (.pointer (some ⟨bX, 4, none⟩)) (h := ?_)
        (try simp only [Act.put, sA, sB, sC])
        refine wpList_q (by rfl) (.int .i64 x.ti) ?he ?_
        case he => exact exec_cell 3 _ _ HBX2.out rfl rfl rfl Try.underlying3 rfl
        (try simp only [Act.put, sA, sB, sC])
        refine wpList_q (by rfl) (.bool false) ?he ?_
        case he => (have q0 := HT0.out; go_simp; (first | done | rfl | omega))
        (try simp only [Act.put, sA, sB, sC])
        refine tkL (.bool false) (h := ?_)
        (try simp only [Act.put, sA, sB, sC])
        refine tkL (.bool false) (h := ?_)
        (try simp only [Act.put, sA, sB, sC])
        refine tkL (.pointer (some ⟨bX, 4, none⟩)) (h := ?_)
        (try simp only [Act.put, sA, sB, sC])
        refine wpList_q (by rfl) (.int .i64 x.ti) ?he ?_
        case he => exact exec_cell 3 _ _ HBX2.out rfl rfl rfl Try.underlying3 rfl
        (try simp only [Act.put, sA, sB, sC])
        refine wpList_q (by rfl) (.bool false) ?he ?_
        case he => (have q0 := HT1.out; go_simp; (first | done | rfl | omega))
        (try simp only [Act.put, sA, sB, sC])
        refine tkL (.bool false) (h := ?_)
        (try simp only [Act.put, sA, sB, sC])
        refine wpList_nil ?_
        go_upto_region 3 with fail
        refine wp_region_lit ?_
        refine tkL (.int .i64 0) (h := ?_)
        (try simp only [Act.put, sA, sB, sC])
        refine wpList_nil ?_
        go_wp2_with fail
        have HI0 := Lib.hid (show SafeI c x 0 from ⟨HM.out, HP.out, HU.out, HD.out, by have := HT0.out; simp; omega, by have := HT1.out; omega⟩)
        go_loopw [7] (fun s7 wr => ∃ (k : Nat) (x : CarV), k ≤ 300 ∧ k ≤ len ∧ s7 = .int .i64 (k : Int) ∧ Hid (SafeI c x k ∧ Since w wr ∧ Blk wr w.heap.size 23 (cfgA c) ∧ Blk wr bX 30 (carA x))) (fun s7 wq => ((300 : Int) - intOf s7).toNat)
        case atStart => exact ⟨0, x, by omega, by omega, rfl, Lib.hid ⟨HI0.out, HS2.out, HBC2.out, HBX2.out⟩⟩
        case round =>
          obtain ⟨k, x, hk, hkl, rfl, HO⟩ := hrel
          obtain ⟨e0, g0, g1, g2⟩ := HO.out
          clear HO HS2 HBC2 HBX2
          have HI := Lib.hid e0
          have HS52 := Lib.hid g0
          have HBC52 := Lib.hid g1
          have HBX52 := Lib.hid g2
          clear e0 g0 g1 g2
          have HK := Lib.hid hk; have HKL := Lib.hid hkl; clear hk hkl
          by_cases hcs : k < len
          rotate_left
          · have HLT := Lib.hid hcs; clear hcs
            go_upto_region 4 with fail
            refine wp_region_lit ?_
            refine tkL (.int .i64 (k : Int)) (h := ?_)
            (try simp only [Act.put, sA, sB, sC])
            refine tkL (.slice A len cap) (h := ?_)
            (try simp only [Act.put, sA, sB, sC])
            refine tkL (.int .i64 (len : Int)) (h := ?_)
            (try simp only [Act.put, sA, sB, sC])
            refine wpList_q (by rfl) (.bool false) ?he ?_
            case he => (have q0 := HLT.out; go_simp; (first | done | rfl | omega))
            (try simp only [Act.put, sA, sB, sC])
            refine tkL (.bool false) (h := ?_)
            (try simp only [Act.put, sA, sB, sC])
            refine wpList_no (by rfl) ?_
            (try simp only [Act.put, sA, sB, sC])
            refine wpList_no (by rfl) ?_
            (try simp only [Act.put, sA, sB, sC])
            refine tkL (.bool false) (h := ?_)
            (try simp only [Act.put, sA, sB, sC])
            refine wpList_nil ?_
            go_upto_region 14 with fail
            refine wp_region_lit ?_
            refine wpList_wp (by rfl) (fun K hK => ?_)
            (try go_simp)
            refine (ans _).mono ?_
            rintro e w53 ⟨rfl, hb⟩
            (try go_wp2_with fail)
            refine hK.out _ _ ?_
            clear hK K
            (try simp only [Act.put, sA, sB, sC])
            have HS53 := Lib.hid (Since.trans HS52.out hb)
            have HBC53 := Lib.hid (keep_blk hb HBC52.out)
            have HBX53 := Lib.hid (keep_blk hb HBX52.out)
            clear HS52 HBC52 HBX52
            clear hb
            refine tkL (.bool true) (h := ?_)
            (try simp only [Act.put, sA, sB, sC])
            refine wpList_nil ?_
            (try go_wp2_with fail)
            go_ret
            exact ⟨rfl, HS53.out⟩
          · have HLT := Lib.hid hcs; clear hcs
            by_cases hcs : k < 300
            rotate_left
            · have HL3 := Lib.hid hcs; clear hcs
              go_upto_region 4 with fail
              refine wp_region_lit ?_
              refine tkL (.int .i64 (k : Int)) (h := ?_)
              (try simp only [Act.put, sA, sB, sC])
              refine tkL (.slice A len cap) (h := ?_)
              (try simp only [Act.put, sA, sB, sC])
              refine tkL (.int .i64 (len : Int)) (h := ?_)
              (try simp only [Act.put, sA, sB, sC])
              refine wpList_q (by rfl) (.bool true) ?he ?_
              case he => (have q0 := HLT.out; go_simp; (first | done | rfl | omega))
              (try simp only [Act.put, sA, sB, sC])
              refine tkL (.bool true) (h := ?_)
              (try simp only [Act.put, sA, sB, sC])
              refine tkL (.int .i64 (k : Int)) (h := ?_)
              (try simp only [Act.put, sA, sB, sC])
              refine wpList_q (by rfl) (.bool false) ?he ?_
              case he => (have q0 := HL3.out; go_simp; (first | done | rfl | omega))
              (try simp only [Act.put, sA, sB, sC])
              refine tkL (.bool false) (h := ?_)
              (try simp only [Act.put, sA, sB, sC])
              refine wpList_nil ?_
              go_upto_region 14 with fail
              refine wp_region_lit ?_
              refine wpList_wp (by rfl) (fun K hK => ?_)
              (try go_simp)
              refine (ans _).mono ?_
              rintro e w53 ⟨rfl, hb⟩
              (try go_wp2_with fail)
              refine hK.out _ _ ?_
              clear hK K
              (try simp only [Act.put, sA, sB, sC])
              have HS53 := Lib.hid (Since.trans HS52.out hb)
              have HBC53 := Lib.hid (keep_blk hb HBC52.out)
              have HBX53 := Lib.hid (keep_blk hb HBX52.out)
              clear HS52 HBC52 HBX52
              clear hb
              refine tkL (.bool true) (h := ?_)
              (try simp only [Act.put, sA, sB, sC])
              refine wpList_nil ?_
              (try go_wp2_with fail)
              go_ret
              exact ⟨rfl, HS53.out⟩
            · have HL3 := Lib.hid hcs; clear hcs
              go_upto_region 4 with fail
              refine wp_region_lit ?_
              refine tkL (.int .i64 (k : Int)) (h := ?_)
              (try simp only [Act.put, sA, sB, sC])
              refine tkL (.slice A len cap) (h := ?_)
              (try simp only [Act.put, sA, sB, sC])
              refine tkL (.int .i64 (len : Int)) (h := ?_)
              (try simp only [Act.put, sA, sB, sC])
              refine wpList_q (by rfl) (.bool true) ?he ?_
              case he => (have q0 := HLT.out; go_simp; (first | done | rfl | omega))
              (try simp only [Act.put, sA, sB, sC])
              refine tkL (.bool true) (h := ?_)
              (try simp only [Act.put, sA, sB, sC])
              refine tkL (.int .i64 (k : Int)) (h := ?_)
              (try simp only [Act.put, sA, sB, sC])
              refine wpList_q (by rfl) (.bool true) ?he ?_
              case he => (have q0 := HL3.out; go_simp; (first | done | rfl | omega))
              (try simp only [Act.put, sA, sB, sC])
              refine tkL (.bool true) (h := ?_)
              (try simp only [Act.put, sA, sB, sC])
              refine wpList_nil ?_
              obtain ⟨ga, offa, hAa, hba, hca⟩ := CV.at_ HCV.out HLT.out
              have hcea := hca k HLT.out; clear hca hba
              subst hAa
              have HCE := Lib.hid hcea; clear hcea
              go_upto_region 6 with fail
              refine wp_region_lit ?_
              refine tkL (.slice (some ⟨ga, offa, none⟩) len cap) (h := ?_)
              (try simp only [Act.put, sA, sB, sC])
              refine tkL (.int .i64 (k : Int)) (h := ?_)
              (try simp only [Act.put, sA, sB, sC])
              refine wpList_q (by rfl) (.pointer (some ⟨ga, (offa + k * 15), none⟩)) ?he ?_
              case he => exact exec_ix (i := k) 58 30 _ _ rfl rfl rfl rfl HLT.out Try.underlying58 (by kernel_rfl)
              (try simp only [Act.put, sA, sB, sC])
              refine wpList_q (by rfl) (.agg (carA (vs k))) ?he ?_
              case he => exact exec_rng (l := carC (vs k)) 30 _ _ (fun j v hj => keep_cell HS52.out (HCE.out j v hj)) rfl rfl Try.underlying30 rfl (by kernel_rfl)
              (try simp only [Act.put, sA, sB, sC])
              refine wpList_wp (by rfl) (fun K hK => ?_)
              refine wp_new (fun b => .pointer (some ⟨b, 0, none⟩)) 30 #[.int .i64 0, .int .i64 0, .int .i64 0, .int .i64 0, .int .i64 0, .int .i64 0, .int .i64 0, .bool false, .bool false, .int .i64 0, .int .i64 0, .bool false, .int .u64 0, .int .u64 0, .int .u64 0] (by rintro b rfl; first | rfl | kernel_rfl) ?_
              intro bn8 w53 hge hB hb
              refine hK.out _ _ ?_
              clear hK K
              (try simp only [Act.put, sA, sB, sC])
              have HNn8C := Lib.hid (show bn8 ≠ w.heap.size by have := Blk.lt HBC52.out; omega)
              have HNn8X := Lib.hid (show bn8 ≠ bX by have := Blk.lt HBX52.out; omega)
              have HGn8 := Lib.hid (show w.heap.size ≤ bn8 by have := Since.size HS52.out; omega)
              have HS53 := Lib.hid (Since.trans HS52.out hb)
              have HBC53 := Lib.hid (keep_blk hb HBC52.out)
              have HBX53 := Lib.hid (keep_blk hb HBX52.out)
              clear HS52 HBC52 HBX52
              clear hb hge
              have HBn853 := Lib.hid hB
              clear hB
              refine wpList_wp (by rfl) (fun K hK => ?_)
              refine wp_st_row 30 _ _ rfl (carA (vs k)) rfl rfl (HasRow.of HBn853.out rfl) rfl (by simp [cfgA, carA, ctlA, Value.oneCell']) (by kernel_rfl) ?_
              intro w54 hw
              refine hK.out _ _ ?_
              clear hK K
              (try simp only [Act.put, sA, sB, sC])
              have HS54 := Lib.hid (show Since w w54 by rw [hw]; exact Since.setRow HS53.out HGn8.out _)
              have HBC54 := Lib.hid (show Blk w54 w.heap.size 23 (cfgA c) by rw [hw]; exact Blk.row_far HBC53.out (Ne.symm HNn8C.out) _)
              have HBX54 := Lib.hid (show Blk w54 bX 30 (carA x) by rw [hw]; exact Blk.row_far HBX53.out (Ne.symm HNn8X.out) _)
              have HBn854 := Lib.hid (show Blk w54 bn8 30 (carA (vs k)) by rw [hw]; exact Blk.row HBn853.out _)
              clear hw HS53 HBC53 HBX53 HBn853
              refine wpList_nil ?_
              go_upto_region 7 with fail
              go_cut [] (fun  wx => Hid (Since w wx ∧ Blk wx w.heap.size 23 (cfgA c) ∧ Blk wx bX 30 #[.int .i64 x.ds, .int .i64 x.da, .int .i64 x.un, .int .i64 x.wy, .int .i64 x.ti, .int .i64 x.ju, .int .i64 ((vs k).lo), .bool ((vs k).bl), .bool ((vs k).br), .int .i64 x.mo, .int .i64 x.ta, .bool x.ho, .int .u64 x.sp, .int .u64 x.su, .int .u64 x.sd] ∧ Blk wx bn8 30 (carA (vs k))))
              case first =>
                have hrK : ∀ W W' : World, Since W W' → (Since w W ∧ Blk W w.heap.size 23 (cfgA c) ∧ HasRow W bX 30 15 ∧ Blk W bn8 30 (carA (vs k))) → (Since w W' ∧ Blk W' w.heap.size 23 (cfgA c) ∧ HasRow W' bX 30 15 ∧ Blk W' bn8 30 (carA (vs k))) := fun W W' k ⟨h, h0, h1, h2⟩ => ⟨h.trans k, keep_blk k h0, HasRow.keep k h1, keep_blk k h2⟩
                have hrS : (fun W : World => Since w W ∧ Blk W w.heap.size 23 (cfgA c) ∧ HasRow W bX 30 15 ∧ Blk W bn8 30 (carA (vs k))) w54 := ⟨HS54.out, HBC54.out, HasRow.of HBX54.out rfl, HBn854.out⟩
                have HRK := Lib.hid hrK
                have HRD := Lib.hid (show (fun W : World => Since w W ∧ Blk W w.heap.size 23 (cfgA c) ∧ HasRow W bX 30 15 ∧ Blk W bn8 30 (carA (vs k))) (World.drew w54) from hrK _ _ ((Since.refl w54).drew) hrS)
                clear hrK hrS
                have HPX := Lib.hid (show Blk (World.drew w54) bX 30 (carA x) from HBX54.out)
                refine wp_region_held_drew (S := fun W : World => Since w W ∧ Blk W w.heap.size 23 (cfgA c) ∧ HasRow W bX 30 15 ∧ Blk W bn8 30 (carA (vs k))) (by kernel_rfl) HRD.out (fun hHeld => ?_)
                refine tkQ 0 (.pointer (some ⟨bn8, 7, none⟩)) hHeld (h := ?_)
                (try simp only [Act.put, sA, sB, sC])
                refine tkQ 1 (.bool ((vs k).bl)) hHeld (he := by intro w hSw; exact exec_cell 4 _ _ hSw.2.2.2 rfl rfl rfl Try.underlying4 rfl) (h := ?_)
                (try simp only [Act.put, sA, sB, sC])
                refine tkQ 2 (.pointer (some ⟨bn8, 8, none⟩)) hHeld (h := ?_)
                (try simp only [Act.put, sA, sB, sC])
                refine tkQ 3 (.bool ((vs k).br)) hHeld (he := by intro w hSw; exact exec_cell 4 _ _ hSw.2.2.2 rfl rfl rfl Try.underlying4 rfl) (h := ?_)
                (try simp only [Act.put, sA, sB, sC])
                refine tkQ 4 (.pointer (some ⟨bn8, 6, none⟩)) hHeld (h := ?_)
                (try simp only [Act.put, sA, sB, sC])
                refine tkQ 5 (.int .i64 ((vs k).lo)) hHeld (he := by intro w hSw; exact exec_cell 3 _ _ hSw.2.2.2 rfl rfl rfl Try.underlying3 rfl) (h := ?_)
                (try simp only [Act.put, sA, sB, sC])
                refine tkQ 6 (.pointer (some ⟨bX, 7, none⟩)) hHeld (h := ?_)
                (try simp only [Act.put, sA, sB, sC])
                refine wpAnyH_ready (rs := [7]) (by kernel_rfl) (by simp) ?_
                refine AllReadyH.cons (o := ?o7__7) ?h7__7 (fun K hK => ?_) AllReadyH.nil
                case h7__7 => (first | (simp only [gA, gB, gC]; done) | (simp only [gA, gB, gC]; exact rfl))
                rw [if_pos (by rfl)]
                refine wp_st_cell 4 _ _ rfl #[.int .i64 x.ds, .int .i64 x.da, .int .i64 x.un, .int .i64 x.wy, .int .i64 x.ti, .int .i64 x.ju, .int .i64 x.lo, .bool ((vs k).bl), .bool x.br, .int .i64 x.mo, .int .i64 x.ta, .bool x.ho, .int .u64 x.sp, .int .u64 x.su, .int .u64 x.sd] (.bool ((vs k).bl)) rfl rfl HPX.out (by show 7 < 15; decide) rfl (by first | rfl | simp [Value.oneCell']) (by kernel_rfl) ?_
                clear HPX
                intro w55 hw
                have HRX := Lib.hid (show Blk w55 bX 30 #[.int .i64 x.ds, .int .i64 x.da, .int .i64 x.un, .int .i64 x.wy, .int .i64 x.ti, .int .i64 x.ju, .int .i64 x.lo, .bool ((vs k).bl), .bool x.br, .int .i64 x.mo, .int .i64 x.ta, .bool x.ho, .int .u64 x.sp, .int .u64 x.su, .int .u64 x.sd] by obtain ⟨old, Bo, _⟩ := hHeld.2.2.1; rw [hw]; exact Blk.row Bo _)
                have hHeld3 : (fun W : World => Since w W ∧ Blk W w.heap.size 23 (cfgA c) ∧ HasRow W bX 30 15 ∧ Blk W bn8 30 (carA (vs k))) w55 := ⟨by rw [hw]; exact Since.setRow hHeld.1 (by have := HNE3.out; omega) _, by rw [hw]; exact Blk.row_far (hHeld.2.1) (by have := HNE3.out; omega) _, HasRow.of HRX.out rfl, by rw [hw]; exact Blk.row_far (hHeld.2.2.2) HNn8X.out _⟩
                refine hK.out _ _ hHeld3 (fun hHeld2 => ?_)
                clear hK K hHeld hHeld3 hw
                have hHeld := hHeld2
                clear hHeld2
                (try simp only [Act.put, sA, sB, sC])
                refine tkQ 8 (.pointer (some ⟨bX, 8, none⟩)) hHeld (h := ?_)
                (try simp only [Act.put, sA, sB, sC])
                refine wpAnyH_ready (rs := [9]) (by kernel_rfl) (by simp) ?_
                refine AllReadyH.cons (o := ?o7__9) ?h7__9 (fun K hK => ?_) AllReadyH.nil
                case h7__9 => (first | (simp only [gA, gB, gC]; done) | (simp only [gA, gB, gC]; exact rfl))
                rw [if_pos (by rfl)]
                refine wp_st_cell 4 _ _ rfl #[.int .i64 x.ds, .int .i64 x.da, .int .i64 x.un, .int .i64 x.wy, .int .i64 x.ti, .int .i64 x.ju, .int .i64 x.lo, .bool ((vs k).bl), .bool ((vs k).br), .int .i64 x.mo, .int .i64 x.ta, .bool x.ho, .int .u64 x.sp, .int .u64 x.su, .int .u64 x.sd] (.bool ((vs k).br)) rfl rfl HRX.out (by show 8 < 15; decide) rfl (by first | rfl | simp [Value.oneCell']) (by kernel_rfl) ?_
                clear HRX
                intro w56 hw
                have HRX := Lib.hid (show Blk w56 bX 30 #[.int .i64 x.ds, .int .i64 x.da, .int .i64 x.un, .int .i64 x.wy, .int .i64 x.ti, .int .i64 x.ju, .int .i64 x.lo, .bool ((vs k).bl), .bool ((vs k).br), .int .i64 x.mo, .int .i64 x.ta, .bool x.ho, .int .u64 x.sp, .int .u64 x.su, .int .u64 x.sd] by obtain ⟨old, Bo, _⟩ := hHeld.2.2.1; rw [hw]; exact Blk.row Bo _)
                have hHeld3 : (fun W : World => Since w W ∧ Blk W w.heap.size 23 (cfgA c) ∧ HasRow W bX 30 15 ∧ Blk W bn8 30 (carA (vs k))) w56 := ⟨by rw [hw]; exact Since.setRow hHeld.1 (by have := HNE3.out; omega) _, by rw [hw]; exact Blk.row_far (hHeld.2.1) (by have := HNE3.out; omega) _, HasRow.of HRX.out rfl, by rw [hw]; exact Blk.row_far (hHeld.2.2.2) HNn8X.out _⟩
                refine hK.out _ _ hHeld3 (fun hHeld2 => ?_)
                clear hK K hHeld hHeld3 hw
                have hHeld := hHeld2
                clear hHeld2
                (try simp only [Act.put, sA, sB, sC])
                refine tkQ 10 (.pointer (some ⟨bX, 6, none⟩)) hHeld (h := ?_)
                (try simp only [Act.put, sA, sB, sC])
                refine wpAnyH_ready (rs := [11]) (by kernel_rfl) (by simp) ?_
                refine AllReadyH.cons (o := ?o7__11) ?h7__11 (fun K hK => ?_) AllReadyH.nil
                case h7__11 => (first | (simp only [gA, gB, gC]; done) | (simp only [gA, gB, gC]; exact rfl))
                rw [if_pos (by rfl)]
                refine wp_st_cell 3 _ _ rfl #[.int .i64 x.ds, .int .i64 x.da, .int .i64 x.un, .int .i64 x.wy, .int .i64 x.ti, .int .i64 x.ju, .int .i64 ((vs k).lo), .bool ((vs k).bl), .bool ((vs k).br), .int .i64 x.mo, .int .i64 x.ta, .bool x.ho, .int .u64 x.sp, .int .u64 x.su, .int .u64 x.sd] (.int .i64 ((vs k).lo)) rfl rfl HRX.out (by show 6 < 15; decide) rfl (by first | rfl | simp [Value.oneCell']) (by kernel_rfl) ?_
                clear HRX
                intro w57 hw
                have HRX := Lib.hid (show Blk w57 bX 30 #[.int .i64 x.ds, .int .i64 x.da, .int .i64 x.un, .int .i64 x.wy, .int .i64 x.ti, .int .i64 x.ju, .int .i64 ((vs k).lo), .bool ((vs k).bl), .bool ((vs k).br), .int .i64 x.mo, .int .i64 x.ta, .bool x.ho, .int .u64 x.sp, .int .u64 x.su, .int .u64 x.sd] by obtain ⟨old, Bo, _⟩ := hHeld.2.2.1; rw [hw]; exact Blk.row Bo _)
                have hHeld3 : (fun W : World => Since w W ∧ Blk W w.heap.size 23 (cfgA c) ∧ HasRow W bX 30 15 ∧ Blk W bn8 30 (carA (vs k))) w57 := ⟨by rw [hw]; exact Since.setRow hHeld.1 (by have := HNE3.out; omega) _, by rw [hw]; exact Blk.row_far (hHeld.2.1) (by have := HNE3.out; omega) _, HasRow.of HRX.out rfl, by rw [hw]; exact Blk.row_far (hHeld.2.2.2) HNn8X.out _⟩
                refine hK.out _ _ hHeld3 (fun hHeld2 => ?_)
                clear hK K hHeld hHeld3 hw
                have hHeld := hHeld2
                clear hHeld2
                (try simp only [Act.put, sA, sB, sC])
                refine wpAnyH_done (by kernel_rfl) ?_ _
                have HSd7 := Lib.hid hHeld.1
                have HBCd7 := Lib.hid (hHeld.2.1)
                have HBXd7 := Lib.hid HRX.out
                clear HRX
                have HBn8d7 := Lib.hid (hHeld.2.2.2)
                clear hHeld HRK HRD HS54 HBC54 HBX54 HBn854
                go_wp2_with fail
                go_meet
                case rel => exact Lib.hid ⟨HSd7.out, HBCd7.out, HBXd7.out, HBn8d7.out⟩
              case rest =>
                clear HS54 HBC54 HBX54 HBn854
                obtain ⟨g0, g1, g2, g3⟩ := hcut.out
                clear hcut
                have HS104 := Lib.hid g0
                have HBC104 := Lib.hid g1
                have HBX104 := Lib.hid g2
                have HBn8104 := Lib.hid g3
                clear g0 g1 g2 g3
                go_upto_region 8 with fail
                refine wp_region_lit ?_
                refine tkL (.pointer (some ⟨bX, 12, none⟩)) (h := ?_)
                (try simp only [Act.put, sA, sB, sC])
                refine tkL (.pointer (some ⟨bX, 12, none⟩)) (h := ?_)
                (try simp only [Act.put, sA, sB, sC])
                refine wpList_q (by rfl) (.int .u64 x.sp) ?he ?_
                case he => exact exec_cell 26 _ _ HBX104.out rfl rfl rfl Try.underlying26 rfl
                (try simp only [Act.put, sA, sB, sC])
                refine tkL (.pointer (some ⟨bn8, 12, none⟩)) (h := ?_)
                (try simp only [Act.put, sA, sB, sC])
                refine tkL (.pointer (some ⟨bn8, 12, none⟩)) (h := ?_)
                (try simp only [Act.put, sA, sB, sC])
                refine wpList_q (by rfl) (.int .u64 ((vs k).sp)) ?he ?_
                case he => exact exec_cell 26 _ _ HBn8104.out rfl rfl rfl Try.underlying26 rfl
                (try simp only [Act.put, sA, sB, sC])
                refine tkL (.int .u64 (bits .and .u64 (vs k).sp 7)) (h := ?_)
                (try simp only [Act.put, sA, sB, sC])
                refine tkL (.int .u64 (bits .or .u64 x.sp (bits .and .u64 (vs k).sp 7))) (h := ?_)
                (try simp only [Act.put, sA, sB, sC])
                refine tkL (.pointer (some ⟨bX, 12, none⟩)) (h := ?_)
                (try simp only [Act.put, sA, sB, sC])
                refine tkL (.pointer (some ⟨bX, 12, none⟩)) (h := ?_)
                (try simp only [Act.put, sA, sB, sC])
                refine wpList_wp (by rfl) (fun K hK => ?_)
                refine wp_st_cell 26 _ _ rfl #[.int .i64 x.ds, .int .i64 x.da, .int .i64 x.un, .int .i64 x.wy, .int .i64 x.ti, .int .i64 x.ju, .int .i64 ((vs k).lo), .bool ((vs k).bl), .bool ((vs k).br), .int .i64 x.mo, .int .i64 x.ta, .bool x.ho, .int .u64 (bits .or .u64 x.sp (bits .and .u64 (vs k).sp 7)), .int .u64 x.su, .int .u64 x.sd] (.int .u64 (bits .or .u64 x.sp (bits .and .u64 (vs k).sp 7))) rfl rfl HBX104.out (by show 12 < 15; decide) rfl (by first | rfl | simp [Value.oneCell']) (by kernel_rfl) ?_
                intro w105 hw
                refine hK.out _ _ ?_
                clear hK K
                (try simp only [Act.put, sA, sB, sC])
                have HS105 := Lib.hid (show Since w w105 by rw [hw]; exact Since.setRow HS104.out (by have := HNE3.out; omega) _)
                have HBC105 := Lib.hid (show Blk w105 w.heap.size 23 (cfgA c) by rw [hw]; exact Blk.row_far HBC104.out (by have := HNE3.out; omega) _)
                have HBX105 := Lib.hid (show Blk w105 bX 30 #[.int .i64 x.ds, .int .i64 x.da, .int .i64 x.un, .int .i64 x.wy, .int .i64 x.ti, .int .i64 x.ju, .int .i64 ((vs k).lo), .bool ((vs k).bl), .bool ((vs k).br), .int .i64 x.mo, .int .i64 x.ta, .bool x.ho, .int .u64 (bits .or .u64 x.sp (bits .and .u64 (vs k).sp 7)), .int .u64 x.su, .int .u64 x.sd] by rw [hw]; exact Blk.row HBX104.out _)
                have HBn8105 := Lib.hid (show Blk w105 bn8 30 (carA (vs k)) by rw [hw]; exact Blk.row_far HBn8104.out HNn8X.out _)
                clear hw HS104 HBC104 HBX104 HBn8104
                refine wpList_nil ?_
                go_upto_region 9 with fail
                refine wp_region_lit ?_
                refine tkL (.pointer (some ⟨bX, 12, none⟩)) (h := ?_)
                (try simp only [Act.put, sA, sB, sC])
                refine tkL (.pointer (some ⟨bX, 13, none⟩)) (h := ?_)
                (try simp only [Act.put, sA, sB, sC])
                refine wpList_q (by rfl) (.int .u64 x.su) ?he ?_
                case he => exact exec_cell 26 _ _ HBX105.out rfl rfl rfl Try.underlying26 rfl
                (try simp only [Act.put, sA, sB, sC])
                refine tkL (.pointer (some ⟨bn8, 12, none⟩)) (h := ?_)
                (try simp only [Act.put, sA, sB, sC])
                refine tkL (.pointer (some ⟨bn8, 13, none⟩)) (h := ?_)
                (try simp only [Act.put, sA, sB, sC])
                refine wpList_q (by rfl) (.int .u64 ((vs k).su)) ?he ?_
                case he => exact exec_cell 26 _ _ HBn8105.out rfl rfl rfl Try.underlying26 rfl
                (try simp only [Act.put, sA, sB, sC])
                refine tkL (.int .u64 (bits .and .u64 (vs k).su 1)) (h := ?_)
                (try simp only [Act.put, sA, sB, sC])
                refine tkL (.int .u64 (bits .or .u64 x.su (bits .and .u64 (vs k).su 1))) (h := ?_)
                (try simp only [Act.put, sA, sB, sC])
                refine tkL (.pointer (some ⟨bX, 12, none⟩)) (h := ?_)
                (try simp only [Act.put, sA, sB, sC])
                refine tkL (.pointer (some ⟨bX, 13, none⟩)) (h := ?_)
                (try simp only [Act.put, sA, sB, sC])
                refine wpList_wp (by rfl) (fun K hK => ?_)
                refine wp_st_cell 26 _ _ rfl #[.int .i64 x.ds, .int .i64 x.da, .int .i64 x.un, .int .i64 x.wy, .int .i64 x.ti, .int .i64 x.ju, .int .i64 ((vs k).lo), .bool ((vs k).bl), .bool ((vs k).br), .int .i64 x.mo, .int .i64 x.ta, .bool x.ho, .int .u64 (bits .or .u64 x.sp (bits .and .u64 (vs k).sp 7)), .int .u64 (bits .or .u64 x.su (bits .and .u64 (vs k).su 1)), .int .u64 x.sd] (.int .u64 (bits .or .u64 x.su (bits .and .u64 (vs k).su 1))) rfl rfl HBX105.out (by show 13 < 15; decide) rfl (by first | rfl | simp [Value.oneCell']) (by kernel_rfl) ?_
                intro w106 hw
                refine hK.out _ _ ?_
                clear hK K
                (try simp only [Act.put, sA, sB, sC])
                have HS106 := Lib.hid (show Since w w106 by rw [hw]; exact Since.setRow HS105.out (by have := HNE3.out; omega) _)
                have HBC106 := Lib.hid (show Blk w106 w.heap.size 23 (cfgA c) by rw [hw]; exact Blk.row_far HBC105.out (by have := HNE3.out; omega) _)
                have HBX106 := Lib.hid (show Blk w106 bX 30 #[.int .i64 x.ds, .int .i64 x.da, .int .i64 x.un, .int .i64 x.wy, .int .i64 x.ti, .int .i64 x.ju, .int .i64 ((vs k).lo), .bool ((vs k).bl), .bool ((vs k).br), .int .i64 x.mo, .int .i64 x.ta, .bool x.ho, .int .u64 (bits .or .u64 x.sp (bits .and .u64 (vs k).sp 7)), .int .u64 (bits .or .u64 x.su (bits .and .u64 (vs k).su 1)), .int .u64 x.sd] by rw [hw]; exact Blk.row HBX105.out _)
                have HBn8106 := Lib.hid (show Blk w106 bn8 30 (carA (vs k)) by rw [hw]; exact Blk.row_far HBn8105.out HNn8X.out _)
                clear hw HS105 HBC105 HBX105 HBn8105
                refine wpList_nil ?_
                obtain ⟨x1, hx1⟩ : ∃ x1 : CarV, x1 = ⟨x.ds, x.da, x.un, x.wy, x.ti, x.ju, (vs k).lo, (vs k).bl, (vs k).br, x.mo, x.ta, x.ho, (bits .or .u64 x.sp (bits .and .u64 (vs k).sp 7)), (bits .or .u64 x.su (bits .and .u64 (vs k).su 1)), x.sd⟩ := ⟨_, rfl⟩
                have HBX2 := Lib.hid (show Blk w106 bX 30 (carA x1) by rw [hx1]; exact HBX106.out)
                have HI1 := Lib.hid (show SafeI c x1 k by rw [hx1]; have hf := HFT.out k HLT.out; exact ⟨HI.out.1, or_R HI.out.2.1 (and_R (Rw hf.1) (by unfold R; omega)), or_R HI.out.2.2.1 (and_R (Rw hf.2.1) (by unfold R; omega)), HI.out.2.2.2.1, HI.out.2.2.2.2⟩)
                clear hx1 HI HBX106
                go_upto_region 10 with fail
                refine wp_region_lit ?_
                refine wpList_q (by rfl) (.agg (cfgA c)) ?he ?_
                case he => exact exec_load_row 23 _ _ HBC106.out rfl rfl Try.underlying23 rfl (by kernel_rfl)
                (try simp only [Act.put, sA, sB, sC])
                refine wpList_q (by rfl) (.agg (carA x1)) ?he ?_
                case he => exact exec_load_row 30 _ _ HBX2.out rfl rfl Try.underlying30 rfl (by kernel_rfl)
                (try simp only [Act.put, sA, sB, sC])
                refine wpList_wp (by rfl) (fun K hK => ?_)
                (try go_simp)
                refine (tickT c x1 _ (may_bd HI1.out.1).1 HI1.out.2.1 HI1.out.2.2.1 HI1.out.2.2.2.1 (fun hm => may_ta HI1.out.1 hm) (by have q1 := HI1.out.2.2.2.2.1; have q2 := HK.out; omega) (by have q1 := HI1.out.2.2.2.2.2; omega)).mono ?_
                rintro e w107 ⟨rfl, hb⟩
                (try go_wp2_with fail)
                refine hK.out _ _ ?_
                clear hK K
                (try simp only [Act.put, sA, sB, sC])
                have HS107 := Lib.hid (Since.trans HS106.out hb)
                have HBC107 := Lib.hid (keep_blk hb HBC106.out)
                have HBX107 := Lib.hid (keep_blk hb HBX2.out)
                have HBn8107 := Lib.hid (keep_blk hb HBn8106.out)
                clear HS106 HBC106 HBX2 HBn8106
                clear hb
                refine tkL (.tuple #[.agg (carA (tkV c x1)), .agg #[.int .i64 (tkF x1), .int .i64 (tkW x1)], .bool (tkS x1)]) (h := ?_)
                (try simp only [Act.put, sA, sB, sC])
                refine tkL (.agg (carA (tkV c x1))) (h := ?_)
                (try simp only [Act.put, sA, sB, sC])
                refine tkL (.agg #[.int .i64 (tkF x1), .int .i64 (tkW x1)]) (h := ?_)
                (try simp only [Act.put, sA, sB, sC])
                refine tkL (.bool (tkS x1)) (h := ?_)
                (try simp only [Act.put, sA, sB, sC])
                refine wpList_wp (by rfl) (fun K hK => ?_)
                refine wp_new (fun b => .pointer (some ⟨b, 0, none⟩)) 30 #[.int .i64 0, .int .i64 0, .int .i64 0, .int .i64 0, .int .i64 0, .int .i64 0, .int .i64 0, .bool false, .bool false, .int .i64 0, .int .i64 0, .bool false, .int .u64 0, .int .u64 0, .int .u64 0] (by rintro b rfl; first | rfl | kernel_rfl) ?_
                intro bn9 w108 hge hB hb
                refine hK.out _ _ ?_
                clear hK K
                (try simp only [Act.put, sA, sB, sC])
                have HNn9C := Lib.hid (show bn9 ≠ w.heap.size by have := Blk.lt HBC107.out; omega)
                have HNn9X := Lib.hid (show bn9 ≠ bX by have := Blk.lt HBX107.out; omega)
                have HNn9n8 := Lib.hid (show bn9 ≠ bn8 by have := Blk.lt HBn8107.out; omega)
                have HGn9 := Lib.hid (show w.heap.size ≤ bn9 by have := Since.size HS107.out; omega)
                have HS108 := Lib.hid (Since.trans HS107.out hb)
                have HBC108 := Lib.hid (keep_blk hb HBC107.out)
                have HBX108 := Lib.hid (keep_blk hb HBX107.out)
                have HBn8108 := Lib.hid (keep_blk hb HBn8107.out)
                clear HS107 HBC107 HBX107 HBn8107
                clear hb hge
                have HBn9108 := Lib.hid hB
                clear hB
                refine wpList_wp (by rfl) (fun K hK => ?_)
                refine wp_new (fun b => .pointer (some ⟨b, 0, none⟩)) 50 #[.int .i64 0, .int .i64 0] (by rintro b rfl; first | rfl | kernel_rfl) ?_
                intro bn10 w109 hge hB hb
                refine hK.out _ _ ?_
                clear hK K
                (try simp only [Act.put, sA, sB, sC])
                have HNn10C := Lib.hid (show bn10 ≠ w.heap.size by have := Blk.lt HBC108.out; omega)
                have HNn10X := Lib.hid (show bn10 ≠ bX by have := Blk.lt HBX108.out; omega)
                have HNn10n8 := Lib.hid (show bn10 ≠ bn8 by have := Blk.lt HBn8108.out; omega)
                have HNn10n9 := Lib.hid (show bn10 ≠ bn9 by have := Blk.lt HBn9108.out; omega)
                have HGn10 := Lib.hid (show w.heap.size ≤ bn10 by have := Since.size HS108.out; omega)
                have HS109 := Lib.hid (Since.trans HS108.out hb)
                have HBC109 := Lib.hid (keep_blk hb HBC108.out)
                have HBX109 := Lib.hid (keep_blk hb HBX108.out)
                have HBn8109 := Lib.hid (keep_blk hb HBn8108.out)
                have HBn9109 := Lib.hid (keep_blk hb HBn9108.out)
                clear HS108 HBC108 HBX108 HBn8108 HBn9108
                clear hb hge
                have HBn10109 := Lib.hid hB
                clear hB
                refine wpList_wp (by rfl) (fun K hK => ?_)
                refine wp_st_row 30 _ _ rfl (carA (tkV c x1)) rfl rfl (HasRow.of HBn9109.out rfl) rfl (by simp [cfgA, carA, ctlA, Value.oneCell']) (by kernel_rfl) ?_
                intro w110 hw
                refine hK.out _ _ ?_
                clear hK K
                (try simp only [Act.put, sA, sB, sC])
                have HS110 := Lib.hid (show Since w w110 by rw [hw]; exact Since.setRow HS109.out HGn9.out _)
                have HBC110 := Lib.hid (show Blk w110 w.heap.size 23 (cfgA c) by rw [hw]; exact Blk.row_far HBC109.out (Ne.symm HNn9C.out) _)
                have HBX110 := Lib.hid (show Blk w110 bX 30 (carA x1) by rw [hw]; exact Blk.row_far HBX109.out (Ne.symm HNn9X.out) _)
                have HBn8110 := Lib.hid (show Blk w110 bn8 30 (carA (vs k)) by rw [hw]; exact Blk.row_far HBn8109.out (Ne.symm HNn9n8.out) _)
                have HBn9110 := Lib.hid (show Blk w110 bn9 30 (carA (tkV c x1)) by rw [hw]; exact Blk.row HBn9109.out _)
                have HBn10110 := Lib.hid (show Blk w110 bn10 50 #[.int .i64 0, .int .i64 0] by rw [hw]; exact Blk.row_far HBn10109.out HNn10n9.out _)
                clear hw HS109 HBC109 HBX109 HBn8109 HBn9109 HBn10109
                refine wpList_wp (by rfl) (fun K hK => ?_)
                refine wp_st_row 50 _ _ rfl #[.int .i64 (tkF x1), .int .i64 (tkW x1)] rfl rfl (HasRow.of HBn10110.out rfl) rfl (by simp [cfgA, carA, ctlA, Value.oneCell']) (by kernel_rfl) ?_
                intro w111 hw
                refine hK.out _ _ ?_
                clear hK K
                (try simp only [Act.put, sA, sB, sC])
                have HS111 := Lib.hid (show Since w w111 by rw [hw]; exact Since.setRow HS110.out HGn10.out _)
                have HBC111 := Lib.hid (show Blk w111 w.heap.size 23 (cfgA c) by rw [hw]; exact Blk.row_far HBC110.out (Ne.symm HNn10C.out) _)
                have HBX111 := Lib.hid (show Blk w111 bX 30 (carA x1) by rw [hw]; exact Blk.row_far HBX110.out (Ne.symm HNn10X.out) _)
                have HBn8111 := Lib.hid (show Blk w111 bn8 30 (carA (vs k)) by rw [hw]; exact Blk.row_far HBn8110.out (Ne.symm HNn10n8.out) _)
                have HBn9111 := Lib.hid (show Blk w111 bn9 30 (carA (tkV c x1)) by rw [hw]; exact Blk.row_far HBn9110.out (Ne.symm HNn10n9.out) _)
                have HBn10111 := Lib.hid (show Blk w111 bn10 50 #[.int .i64 (tkF x1), .int .i64 (tkW x1)] by rw [hw]; exact Blk.row HBn10110.out _)
                clear hw HS110 HBC110 HBX110 HBn8110 HBn9110 HBn10110
                refine tkL (.bool (tkS x1)) (h := ?_)
                (try simp only [Act.put, sA, sB, sC])
                refine wpList_nil ?_
                by_cases hcs : (tkV c x1).un = x1.un
                rotate_left
                · have HUN := Lib.hid hcs; clear hcs
                  have HSH := Lib.hid (tk_shut c x1 HUN.out)
                  go_upto_region 11 with fail
                  refine wp_region_lit ?_
                  refine wpList_q (by rfl) (.agg (cfgA c)) ?he ?_
                  case he => exact exec_load_row 23 _ _ HBC111.out rfl rfl Try.underlying23 rfl (by kernel_rfl)
                  (try simp only [Act.put, sA, sB, sC])
                  refine wpList_q (by rfl) (.agg (carA (tkV c x1))) ?he ?_
                  case he => exact exec_load_row 30 _ _ HBn9111.out rfl rfl Try.underlying30 rfl (by kernel_rfl)
                  (try simp only [Act.put, sA, sB, sC])
                  refine wpList_wp (by rfl) (fun K hK => ?_)
                  (try go_simp)
                  refine (mayV c (tkV c x1) true _ (tk_may c x1 HI1.out.1)).mono ?_
                  rintro e w112 ⟨rfl, hb⟩
                  (try go_wp2_with fail)
                  refine hK.out _ _ ?_
                  clear hK K
                  (try simp only [Act.put, sA, sB, sC])
                  have HS112 := Lib.hid (Since.trans HS111.out hb)
                  have HBC112 := Lib.hid (keep_blk hb HBC111.out)
                  have HBX112 := Lib.hid (keep_blk hb HBX111.out)
                  have HBn8112 := Lib.hid (keep_blk hb HBn8111.out)
                  have HBn9112 := Lib.hid (keep_blk hb HBn9111.out)
                  have HBn10112 := Lib.hid (keep_blk hb HBn10111.out)
                  clear HS111 HBC111 HBX111 HBn8111 HBn9111 HBn10111
                  clear hb
                  refine wpList_q (by rfl) (.bool false) ?he ?_
                  case he => (go_simp; (try with_reducible rfl))
                  (try simp only [Act.put, sA, sB, sC])
                  refine tkL (.bool false) (h := ?_)
                  (try simp only [Act.put, sA, sB, sC])
                  refine tkL (.pointer (some ⟨bn9, 2, none⟩)) (h := ?_)
                  (try simp only [Act.put, sA, sB, sC])
                  refine wpList_q (by rfl) (.int .i64 ((tkV c x1).un)) ?he ?_
                  case he => exact exec_cell 3 _ _ HBn9112.out rfl rfl rfl Try.underlying3 rfl
                  (try simp only [Act.put, sA, sB, sC])
                  refine tkL (.pointer (some ⟨bX, 2, none⟩)) (h := ?_)
                  (try simp only [Act.put, sA, sB, sC])
                  refine wpList_q (by rfl) (.int .i64 x1.un) ?he ?_
                  case he => exact exec_cell 3 _ _ HBX112.out rfl rfl rfl Try.underlying3 rfl
                  (try simp only [Act.put, sA, sB, sC])
                  refine wpList_q (by rfl) (.bool true) ?he ?_
                  case he => (have q := HUN.out; go_simp; (first | done | exact q | (simp [q]; done)))
                  (try simp only [Act.put, sA, sB, sC])
                  refine tkL (.bool true) (h := ?_)
                  (try simp only [Act.put, sA, sB, sC])
                  refine tkL (.pointer (some ⟨bX, 0, none⟩)) (h := ?_)
                  (try simp only [Act.put, sA, sB, sC])
                  refine tkL (.pointer (some ⟨bX, 0, none⟩)) (h := ?_)
                  (try simp only [Act.put, sA, sB, sC])
                  refine wpList_q (by rfl) (.int .i64 x1.ds) ?he ?_
                  case he => exact exec_cell 3 _ _ HBX112.out rfl rfl rfl Try.underlying3 rfl
                  (try simp only [Act.put, sA, sB, sC])
                  refine wpList_q (by rfl) (.bool false) ?he ?_
                  case he => (have q := HSH.out.1; go_simp; (first | done | exact q | (simp [q]; done)))
                  (try simp only [Act.put, sA, sB, sC])
                  refine tkL (.bool false) (h := ?_)
                  (try simp only [Act.put, sA, sB, sC])
                  refine tkL (.pointer (some ⟨bn9, 0, none⟩)) (h := ?_)
                  (try simp only [Act.put, sA, sB, sC])
                  refine tkL (.pointer (some ⟨bn9, 0, none⟩)) (h := ?_)
                  (try simp only [Act.put, sA, sB, sC])
                  refine wpList_q (by rfl) (.int .i64 ((tkV c x1).ds)) ?he ?_
                  case he => exact exec_cell 3 _ _ HBn9112.out rfl rfl rfl Try.underlying3 rfl
                  (try simp only [Act.put, sA, sB, sC])
                  refine wpList_q (by rfl) (.bool false) ?he ?_
                  case he => (have q := HSH.out.2; go_simp; (first | done | exact q | (simp [q]; done)))
                  (try simp only [Act.put, sA, sB, sC])
                  refine tkL (.bool false) (h := ?_)
                  (try simp only [Act.put, sA, sB, sC])
                  refine tkL (.bool false) (h := ?_)
                  (try simp only [Act.put, sA, sB, sC])
                  refine tkL (.bool false) (h := ?_)
                  (try simp only [Act.put, sA, sB, sC])
                  refine wpList_nil ?_
                  go_upto_region 13 with fail
                  refine wp_region_lit ?_
                  refine wpList_q (by rfl) (.agg (carA (tkV c x1))) ?he ?_
                  case he => exact exec_load_row 30 _ _ HBn9112.out rfl rfl Try.underlying30 rfl (by kernel_rfl)
                  (try simp only [Act.put, sA, sB, sC])
                  refine wpList_wp (by rfl) (fun K hK => ?_)
                  refine wp_st_row 30 _ _ rfl (carA (tkV c x1)) rfl rfl (HasRow.of HBX112.out rfl) rfl (by simp [cfgA, carA, ctlA, Value.oneCell']) (by kernel_rfl) ?_
                  intro w113 hw
                  refine hK.out _ _ ?_
                  clear hK K
                  (try simp only [Act.put, sA, sB, sC])
                  have HS113 := Lib.hid (show Since w w113 by rw [hw]; exact Since.setRow HS112.out (by have := HNE3.out; omega) _)
                  have HBC113 := Lib.hid (show Blk w113 w.heap.size 23 (cfgA c) by rw [hw]; exact Blk.row_far HBC112.out (by have := HNE3.out; omega) _)
                  have HBX113 := Lib.hid (show Blk w113 bX 30 (carA (tkV c x1)) by rw [hw]; exact Blk.row HBX112.out _)
                  have HBn8113 := Lib.hid (show Blk w113 bn8 30 (carA (vs k)) by rw [hw]; exact Blk.row_far HBn8112.out HNn8X.out _)
                  have HBn9113 := Lib.hid (show Blk w113 bn9 30 (carA (tkV c x1)) by rw [hw]; exact Blk.row_far HBn9112.out HNn9X.out _)
                  have HBn10113 := Lib.hid (show Blk w113 bn10 50 #[.int .i64 (tkF x1), .int .i64 (tkW x1)] by rw [hw]; exact Blk.row_far HBn10112.out HNn10X.out _)
                  clear hw HS112 HBC112 HBX112 HBn8112 HBn9112 HBn10112
                  refine wpList_nil ?_
                  go_upto_region 5 with fail
                  refine wp_region_lit ?_
                  refine tkL (.int .i64 (k : Int)) (h := ?_)
                  (try simp only [Act.put, sA, sB, sC])
                  refine wpList_q (by rfl) (.int .i64 ((k : Int) + 1)) ?he ?_
                  case he => (go_simp; (first | done | (refine wrI _ ?_ ?_ <;> (have q0 := HL3.out; omega)) | (have q0 := HL3.out; omega) | (have q0 := HL3.out; split <;> omega) | (have q0 := HL3.out; intro hh; omega)))
                  (try simp only [Act.put, sA, sB, sC])
                  refine tkL (.int .i64 ((k : Int) + 1)) (h := ?_)
                  (try simp only [Act.put, sA, sB, sC])
                  refine wpList_nil ?_
                  go_wp2_with fail
                  go_roundw
                  case rel => exact ⟨k + 1, tkV c x1, by have := HL3.out; omega, by have := HLT.out; omega, by go_num, Lib.hid ⟨safe_next HI1.out, HS113.out, HBC113.out, HBX113.out⟩⟩
                  case measure => have := HL3.out; simp [intOf]; omega
                · have HUN := Lib.hid hcs; clear hcs
                  go_upto_region 11 with fail
                  refine wp_region_lit ?_
                  refine wpList_q (by rfl) (.agg (cfgA c)) ?he ?_
                  case he => exact exec_load_row 23 _ _ HBC111.out rfl rfl Try.underlying23 rfl (by kernel_rfl)
                  (try simp only [Act.put, sA, sB, sC])
                  refine wpList_q (by rfl) (.agg (carA (tkV c x1))) ?he ?_
                  case he => exact exec_load_row 30 _ _ HBn9111.out rfl rfl Try.underlying30 rfl (by kernel_rfl)
                  (try simp only [Act.put, sA, sB, sC])
                  refine wpList_wp (by rfl) (fun K hK => ?_)
                  (try go_simp)
                  refine (mayV c (tkV c x1) true _ (tk_may c x1 HI1.out.1)).mono ?_
                  rintro e w112 ⟨rfl, hb⟩
                  (try go_wp2_with fail)
                  refine hK.out _ _ ?_
                  clear hK K
                  (try simp only [Act.put, sA, sB, sC])
                  have HS112 := Lib.hid (Since.trans HS111.out hb)
                  have HBC112 := Lib.hid (keep_blk hb HBC111.out)
                  have HBX112 := Lib.hid (keep_blk hb HBX111.out)
                  have HBn8112 := Lib.hid (keep_blk hb HBn8111.out)
                  have HBn9112 := Lib.hid (keep_blk hb HBn9111.out)
                  have HBn10112 := Lib.hid (keep_blk hb HBn10111.out)
                  clear HS111 HBC111 HBX111 HBn8111 HBn9111 HBn10111
                  clear hb
                  refine wpList_q (by rfl) (.bool false) ?he ?_
                  case he => (go_simp; (try with_reducible rfl))
                  (try simp only [Act.put, sA, sB, sC])
                  refine tkL (.bool false) (h := ?_)
                  (try simp only [Act.put, sA, sB, sC])
                  refine tkL (.pointer (some ⟨bn9, 2, none⟩)) (h := ?_)
                  (try simp only [Act.put, sA, sB, sC])
                  refine wpList_q (by rfl) (.int .i64 ((tkV c x1).un)) ?he ?_
                  case he => exact exec_cell 3 _ _ HBn9112.out rfl rfl rfl Try.underlying3 rfl
                  (try simp only [Act.put, sA, sB, sC])
                  refine tkL (.pointer (some ⟨bX, 2, none⟩)) (h := ?_)
                  (try simp only [Act.put, sA, sB, sC])
                  refine wpList_q (by rfl) (.int .i64 x1.un) ?he ?_
                  case he => exact exec_cell 3 _ _ HBX112.out rfl rfl rfl Try.underlying3 rfl
                  (try simp only [Act.put, sA, sB, sC])
                  refine wpList_q (by rfl) (.bool false) ?he ?_
                  case he => (have q := HUN.out; go_simp; (first | done | exact q | (simp [q]; done)))
                  (try simp only [Act.put, sA, sB, sC])
                  refine tkL (.bool false) (h := ?_)
                  (try simp only [Act.put, sA, sB, sC])
                  refine wpList_no (by rfl) ?_
                  (try simp only [Act.put, sA, sB, sC])
                  refine wpList_no (by rfl) ?_
                  (try simp only [Act.put, sA, sB, sC])
                  refine wpList_no (by rfl) ?_
                  (try simp only [Act.put, sA, sB, sC])
                  refine wpList_no (by rfl) ?_
                  (try simp only [Act.put, sA, sB, sC])
                  refine wpList_no (by rfl) ?_
                  (try simp only [Act.put, sA, sB, sC])
                  refine wpList_no (by rfl) ?_
                  (try simp only [Act.put, sA, sB, sC])
                  refine wpList_no (by rfl) ?_
                  (try simp only [Act.put, sA, sB, sC])
                  refine wpList_no (by rfl) ?_
                  (try simp only [Act.put, sA, sB, sC])
                  refine wpList_no (by rfl) ?_
                  (try simp only [Act.put, sA, sB, sC])
                  refine wpList_no (by rfl) ?_
                  (try simp only [Act.put, sA, sB, sC])
                  refine tkL (.bool false) (h := ?_)
                  (try simp only [Act.put, sA, sB, sC])
                  refine tkL (.bool false) (h := ?_)
                  (try simp only [Act.put, sA, sB, sC])
                  refine wpList_nil ?_
                  go_upto_region 13 with fail
                  refine wp_region_lit ?_
                  refine wpList_q (by rfl) (.agg (carA (tkV c x1))) ?he ?_
                  case he => exact exec_load_row 30 _ _ HBn9112.out rfl rfl Try.underlying30 rfl (by kernel_rfl)
                  (try simp only [Act.put, sA, sB, sC])
                  refine wpList_wp (by rfl) (fun K hK => ?_)
                  refine wp_st_row 30 _ _ rfl (carA (tkV c x1)) rfl rfl (HasRow.of HBX112.out rfl) rfl (by simp [cfgA, carA, ctlA, Value.oneCell']) (by kernel_rfl) ?_
                  intro w113 hw
                  refine hK.out _ _ ?_
                  clear hK K
                  (try simp only [Act.put, sA, sB, sC])
                  have HS113 := Lib.hid (show Since w w113 by rw [hw]; exact Since.setRow HS112.out (by have := HNE3.out; omega) _)
                  have HBC113 := Lib.hid (show Blk w113 w.heap.size 23 (cfgA c) by rw [hw]; exact Blk.row_far HBC112.out (by have := HNE3.out; omega) _)
                  have HBX113 := Lib.hid (show Blk w113 bX 30 (carA (tkV c x1)) by rw [hw]; exact Blk.row HBX112.out _)
                  have HBn8113 := Lib.hid (show Blk w113 bn8 30 (carA (vs k)) by rw [hw]; exact Blk.row_far HBn8112.out HNn8X.out _)
                  have HBn9113 := Lib.hid (show Blk w113 bn9 30 (carA (tkV c x1)) by rw [hw]; exact Blk.row_far HBn9112.out HNn9X.out _)
                  have HBn10113 := Lib.hid (show Blk w113 bn10 50 #[.int .i64 (tkF x1), .int .i64 (tkW x1)] by rw [hw]; exact Blk.row_far HBn10112.out HNn10X.out _)
                  clear hw HS112 HBC112 HBX112 HBn8112 HBn9112 HBn10112
                  refine wpList_nil ?_
                  go_upto_region 5 with fail
                  refine wp_region_lit ?_
                  refine tkL (.int .i64 (k : Int)) (h := ?_)
                  (try simp only [Act.put, sA, sB, sC])
                  refine wpList_q (by rfl) (.int .i64 ((k : Int) + 1)) ?he ?_
                  case he => (go_simp; (first | done | (refine wrI _ ?_ ?_ <;> (have q0 := HL3.out; omega)) | (have q0 := HL3.out; omega) | (have q0 := HL3.out; split <;> omega) | (have q0 := HL3.out; intro hh; omega)))
                  (try simp only [Act.put, sA, sB, sC])
                  refine tkL (.int .i64 ((k : Int) + 1)) (h := ?_)
                  (try simp only [Act.put, sA, sB, sC])
                  refine wpList_nil ?_
                  go_wp2_with fail
                  go_roundw
                  case rel => exact ⟨k + 1, tkV c x1, by have := HL3.out; omega, by have := HLT.out; omega, by go_num, Lib.hid ⟨safe_next HI1.out, HS113.out, HBC113.out, HBX113.out⟩⟩
                  case measure => have := HL3.out; simp [intOf]; omega
      · have HT1 := Lib.hid hcs; clear hcs
        refine wp_region_lit ?_
        refine wpList_q (by rfl) (.agg (cfgA c)) ?he ?_
        case he => exact exec_load_row 23 _ _ HBC1.out rfl rfl Try.underlying23 rfl (by kernel_rfl)
        (try simp only [Act.put, sA, sB, sC])
        refine wpList_q (by rfl) (.agg (carA x)) ?he ?_
        case he => exact exec_load_row 30 _ _ HBX1.out rfl rfl Try.underlying30 rfl (by kernel_rfl)
        (try simp only [Act.put, sA, sB, sC])
        refine wpList_wp (by rfl) (fun K hK => ?_)
        (try go_simp)
        refine (mayV c x true _ HM.out).mono ?_
        rintro e w2 ⟨rfl, hb⟩
        (try go_wp2_with fail)
        refine hK.out _ _ ?_
        clear hK K
        (try simp only [Act.put, sA, sB, sC])
        have HS2 := Lib.hid (Since.trans HS1.out hb)
        have HBC2 := Lib.hid (keep_blk hb HBC1.out)
        have HBX2 := Lib.hid (keep_blk hb HBX1.out)
        clear HS1 HBC1 HBX1
        clear hb
        refine wpList_q (by rfl) (.bool false) ?he ?_
        case he => (go_simp; (try with_reducible rfl))
        (try simp only [Act.put, sA, sB, sC])
        refine tkL (.bool false) (h := ?_)
        (try simp only [Act.put, sA, sB, sC])
        refine tkL (.pointer (some ⟨bX, 4, none⟩)) (h := ?_)
        (try simp only [Act.put, sA, sB, sC])
        refine wpList_q (by rfl) (.int .i64 x.ti) ?he ?_
        case he => exact exec_cell 3 _ _ HBX2.out rfl rfl rfl Try.underlying3 rfl
        (try simp only [Act.put, sA, sB, sC])
        refine wpList_q (by rfl) (.bool false) ?he ?_
        case he => (have q0 := HT0.out; go_simp; (first | done | rfl | omega))
        (try simp only [Act.put, sA, sB, sC])
        refine tkL (.bool false) (h := ?_)
        (try simp only [Act.put, sA, sB, sC])
        refine tkL (.bool false) (h := ?_)
        (try simp only [Act.put, sA, sB, sC])
        refine tkL (.pointer (some ⟨bX, 4, none⟩)) (h := ?_)
        (try simp only [Act.put, sA, sB, sC])
        refine wpList_q (by rfl) (.int .i64 x.ti) ?he ?_
        case he => exact exec_cell 3 _ _ HBX2.out rfl rfl rfl Try.underlying3 rfl
        (try simp only [Act.put, sA, sB, sC])
        refine wpList_q (by rfl) (.bool true) ?he ?_
        case he => (have q0 := HT1.out; go_simp; (first | done | rfl | omega))
        (try simp only [Act.put, sA, sB, sC])
        refine tkL (.bool true) (h := ?_)
        (try simp only [Act.put, sA, sB, sC])
        refine wpList_nil ?_
        go_upto_region 2 with fail
        refine wp_region_lit ?_
        refine wpList_wp (by rfl) (fun K hK => ?_)
        (try go_simp)
        refine (ans _).mono ?_
        rintro e w3 ⟨rfl, hb⟩
        (try go_wp2_with fail)
        refine hK.out _ _ ?_
        clear hK K
        (try simp only [Act.put, sA, sB, sC])
        have HS3 := Lib.hid (Since.trans HS2.out hb)
        have HBC3 := Lib.hid (keep_blk hb HBC2.out)
        have HBX3 := Lib.hid (keep_blk hb HBX2.out)
        clear HS2 HBC2 HBX2
        clear hb
        refine tkL (.bool true) (h := ?_)
        (try simp only [Act.put, sA, sB, sC])
        refine wpList_nil ?_
        (try go_wp2_with fail)
        go_ret
        exact ⟨rfl, HS3.out⟩
    · have HT0 := Lib.hid hcs; clear hcs
      refine wp_region_lit ?_
      refine wpList_q (by rfl) (.agg (cfgA c)) ?he ?_
      case he => exact exec_load_row 23 _ _ HBC1.out rfl rfl Try.underlying23 rfl (by kernel_rfl)
      (try simp only [Act.put, sA, sB, sC])
      refine wpList_q (by rfl) (.agg (carA x)) ?he ?_
      case he => exact exec_load_row 30 _ _ HBX1.out rfl rfl Try.underlying30 rfl (by kernel_rfl)
      (try simp only [Act.put, sA, sB, sC])
      refine wpList_wp (by rfl) (fun K hK => ?_)
      (try go_simp)
      refine (mayV c x true _ HM.out).mono ?_
      rintro e w2 ⟨rfl, hb⟩
      (try go_wp2_with fail)
      refine hK.out _ _ ?_
      clear hK K
      (try simp only [Act.put, sA, sB, sC])
      have HS2 := Lib.hid (Since.trans HS1.out hb)
      have HBC2 := Lib.hid (keep_blk hb HBC1.out)
      have HBX2 := Lib.hid (keep_blk hb HBX1.out)
      clear HS1 HBC1 HBX1
      clear hb
      refine wpList_q (by rfl) (.bool false) ?he ?_
      case he => (go_simp; (try with_reducible rfl))
      (try simp only [Act.put, sA, sB, sC])
      refine tkL (.bool false) (h := ?_)
      (try simp only [Act.put, sA, sB, sC])
      refine tkL (.pointer (some ⟨bX, 4, none⟩)) (h := ?_)
      (try simp only [Act.put, sA, sB, sC])
      refine wpList_q (by rfl) (.int .i64 x.ti) ?he ?_
      case he => exact exec_cell 3 _ _ HBX2.out rfl rfl rfl Try.underlying3 rfl
      (try simp only [Act.put, sA, sB, sC])
      refine wpList_q (by rfl) (.bool true) ?he ?_
      case he => (have q0 := HT0.out; go_simp; (first | done | rfl | omega))
      (try simp only [Act.put, sA, sB, sC])
      refine tkL (.bool true) (h := ?_)
      (try simp only [Act.put, sA, sB, sC])
      refine tkL (.bool true) (h := ?_)
      (try simp only [Act.put, sA, sB, sC])
      refine wpList_no (by rfl) ?_
      (try simp only [Act.put, sA, sB, sC])
      refine wpList_no (by rfl) ?_
      (try simp only [Act.put, sA, sB, sC])
      refine wpList_no (by rfl) ?_
      (try simp only [Act.put, sA, sB, sC])
      refine tkL (.bool true) (h := ?_)
      (try simp only [Act.put, sA, sB, sC])
      refine wpList_nil ?_
      go_upto_region 2 with fail
      refine wp_region_lit ?_
      refine wpList_wp (by rfl) (fun K hK => ?_)
      (try go_simp)
      refine (ans _).mono ?_
      rintro e w3 ⟨rfl, hb⟩
      (try go_wp2_with fail)
      refine hK.out _ _ ?_
      clear hK K
      (try simp only [Act.put, sA, sB, sC])
      have HS3 := Lib.hid (Since.trans HS2.out hb)
      have HBC3 := Lib.hid (keep_blk hb HBC2.out)
      have HBX3 := Lib.hid (keep_blk hb HBX2.out)
      clear HS2 HBC2 HBX2
      clear hb
      refine tkL (.bool true) (h := ?_)
      (try simp only [Act.put, sA, sB, sC])
      refine wpList_nil ?_
      (try go_wp2_with fail)
      go_ret
      exact ⟨rfl, HS3.out⟩
theorem safeF {H : Type} {enc : TypeId × Value → H} {x2 : DataW H × List MemPlace} (cca cfl cft cse cdr cdw cho cre cyi cqu cqo clo csl crt ccp ctr cde cwi : Int) (xds : Int) (xda : Int) (xun : Int) (xwy : Int) (xti : Int) (xju : Int) (xlo : Int) (xbl : Bool) (xbr : Bool) (xmo : Int) (xta : Int) (xho : Bool) (xsp : Int) (xsu : Int) (xsd : Int) (a2 : Option Addr) (len2 cap2 : Nat) (w : World) (_ : (Lit.int .i64 cca).wf = true) (_ : (Lit.int .i64 cfl).wf = true) (_ : (Lit.int .i64 cft).wf = true) (_ : (Lit.int .i64 cse).wf = true) (_ : (Lit.int .i64 cdr).wf = true) (_ : (Lit.int .i64 cdw).wf = true) (_ : (Lit.int .i64 cho).wf = true) (_ : (Lit.int .i64 cre).wf = true) (_ : (Lit.int .i64 cyi).wf = true) (_ : (Lit.int .i64 cqu).wf = true) (_ : (Lit.int .i64 cqo).wf = true) (_ : (Lit.int .i64 clo).wf = true) (_ : (Lit.int .i64 csl).wf = true) (_ : (Lit.int .i64 crt).wf = true) (_ : (Lit.int .i64 ccp).wf = true) (_ : (Lit.int .i64 ctr).wf = true) (_ : (Lit.int .i64 cde).wf = true) (_ : (Lit.int .i64 cwi).wf = true) (wds : (Lit.int .i64 xds).wf = true) (wda : (Lit.int .i64 xda).wf = true) (wun : (Lit.int .i64 xun).wf = true) (wwy : (Lit.int .i64 xwy).wf = true) (wti : (Lit.int .i64 xti).wf = true) (wju : (Lit.int .i64 xju).wf = true) (wlo : (Lit.int .i64 xlo).wf = true) (wmo : (Lit.int .i64 xmo).wf = true) (wta : (Lit.int .i64 xta).wf = true) (wsp : (Lit.int .u64 xsp).wf = true) (wsu : (Lit.int .u64 xsu).wf = true) (wsd : (Lit.int .u64 xsd).wf = true)
    (h2 : ∃ m, DataW.trod enc Try.prog w 0 (fun _ => true) true m 58 (Value.cells (.slice a2 len2 cap2)).toList = some x2) :
    Calls Try.prog 11 #[.agg #[.int .i64 cca, .int .i64 cfl, .int .i64 cft, .int .i64 cse, .int .i64 cdr, .int .i64 cdw, .int .i64 cho, .int .i64 cre, .int .i64 cyi, .int .i64 cqu, .int .i64 cqo, .int .i64 clo, .int .i64 csl, .int .i64 crt, .int .i64 ccp, .int .i64 ctr, .int .i64 cde, .int .i64 cwi], .agg #[.int .i64 xds, .int .i64 xda, .int .i64 xun, .int .i64 xwy, .int .i64 xti, .int .i64 xju, .int .i64 xlo, .bool xbl, .bool xbr, .int .i64 xmo, .int .i64 xta, .bool xho, .int .u64 xsp, .int .u64 xsu, .int .u64 xsd], .slice a2 len2 cap2] w fun e w' => e = .returned (.bool true) ∧ Since w w' := by
  obtain ⟨m2, h2⟩ := h2
  obtain ⟨vs, hV, hl, hf⟩ := CV.open_ h2
  exact safe ⟨cca, cfl, cft, cse, cdr, cdw, cho, cre, cyi, cqu, cqo, clo, csl, crt, ccp, ctr, cde, cwi⟩ ⟨xds, xda, xun, xwy, xti, xju, xlo, xbl, xbr, xmo, xta, xho, xsp, xsu, xsd⟩ a2 len2 cap2 vs w (Rw wsp) (Rw wsu) (Rw wsd) hV hf hl
end Go.Proofs.Ytdbbacpofgjgoaa.Ct
