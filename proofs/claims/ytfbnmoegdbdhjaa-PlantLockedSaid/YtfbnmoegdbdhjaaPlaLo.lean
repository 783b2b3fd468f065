/-
  PlantLocked, walked (layer 11).
  Conditions: each argument fits its kind.
-/
import Derived.Test.YtfbnmoegdbdhjaaPlaAns
import Derived.Test.YtfbnmoegdbdhjaaCmdL
import Derived.Test.YtfbnmoegdbdhjaaExt
namespace Go.Proofs.Ytfbnmoegdbdhjaa.Pl
set_option linter.unusedVariables false
set_option linter.unusedSimpArgs false
open Go.RowKit Go.Proofs.Ytfbnmoegdbdhjaa.Ba Go.Proofs.Ytfbnmoegdbdhjaa.Do Go.Proofs.Ytfbnmoegdbdhjaa.Mo Go.Proofs.Ytfbnmoegdbdhjaa.Ty Go.Proofs.Ytfbnmoegdbdhjaa.Mem
open Go.Proofs.Ytfbnmoegdbdhjaa.Cm (CmdV cmdC MV BoV)
set_option maxRecDepth 100000
def cfgA (c : CfgV) : Array Value := #[.int .i64 c.ca, .int .i64 c.fl, .int .i64 c.ft, .int .i64 c.se, .int .i64 c.dr, .int .i64 c.dw, .int .i64 c.ho, .int .i64 c.re, .int .i64 c.yi, .int .i64 c.qu, .int .i64 c.qo, .int .i64 c.lo, .int .i64 c.sl, .int .i64 c.rt, .int .i64 c.cp, .int .i64 c.tr, .int .i64 c.de, .int .i64 c.wi]
def carA (x : CarV) : Array Value := #[.int .i64 x.ds, .int .i64 x.da, .int .i64 x.un, .int .i64 x.wy, .int .i64 x.ti, .int .i64 x.ju, .int .i64 x.lo, .bool x.bl, .bool x.br, .int .i64 x.mo, .int .i64 x.ta, .bool x.ho, .int .u64 x.sp, .int .u64 x.su, .int .u64 x.sd]
theorem wr (x : Int) (h0 : -9223372036854775808 ≤ x) (h1 : x ≤ 9223372036854775807) : IntKind.i64.wrap x = x := by
  simp only [IntKind.wrap, IntKind.bits, IntKind.signed]; simp; omega
/-- A car that was told moves by one at most, and only with its door closed. -/
theorem step_facts (c : CfgV) (x : CarV) (r : Int) (o k : Bool) (h : goodB c x = true) : (stepV c x r o k).un - x.un ≤ 1 ∧ x.un - (stepV c x r o k).un ≤ 1 ∧ ((stepV c x r o k).un = x.un ∨ (x.ds = 0 ∧ (stepV c x r o k).ds = 0 ∧ x.br = false)) := by
  show un1 c x r o k - x.un ≤ 1 ∧ x.un - un1 c x r o k ≤ 1 ∧ (un1 c x r o k = x.un ∨ (x.ds = 0 ∧ dS1 c x o k = 0 ∧ x.br = false))
  unfold un1
  by_cases g : goesB c x r o k = true
  · rw [if_pos g]
    have hm := mv_near x.un r c.fl
    unfold goesB at g
    have g' := of_decide_eq_true g
    exact ⟨hm.1, hm.2, .inr ⟨g'.2.1, g'.2.2.1, g'.1⟩⟩
  · rw [if_neg g]
    exact ⟨by omega, by omega, .inl rfl⟩
theorem good_new (c : CfgV) : goodB c newC = true := by
  rw [goodB_iff]
  have := fl_lo c.fl
  refine ⟨?_, by show (0 : Int) ≤ 0; omega, by show (0 : Int) ≤ _; omega, .inl rfl, .inl rfl⟩
  unfold gd newC; simp
attribute [local irreducible] Go.wpList
set_option maxHeartbeats 2000000 in
theorem locked (c : CfgV) (a : Option Addr) (len cap : Nat) (ms : Nat → CmdV) (a1 : Option Addr) (len1 cap1 : Nat) (bs1 : Nat → Bool) (a2 : Option Addr) (len2 cap2 : Nat) (bs2 : Nat → Bool) (w : World) (hM : MV w a len ms) (hl : len ≤ 9223372036854775807) (hX1 : BoV w a1 len1 bs1) (hl1 : len1 ≤ 9223372036854775807) (hX2 : BoV w a2 len2 bs2) (hl2 : len2 ≤ 9223372036854775807) : Calls Try.prog 4 #[.agg #[.int .i64 c.ca, .int .i64 c.fl, .int .i64 c.ft, .int .i64 c.se, .int .i64 c.dr, .int .i64 c.dw, .int .i64 c.ho, .int .i64 c.re, .int .i64 c.yi, .int .i64 c.qu, .int .i64 c.qo, .int .i64 c.lo, .int .i64 c.sl, .int .i64 c.rt, .int .i64 c.cp, .int .i64 c.tr, .int .i64 c.de, .int .i64 c.wi], .slice a len cap, .slice a1 len1 cap1, .slice a2 len2 cap2] w fun e w' => e = .returned (.bool true) ∧ Since w w' := by
  have hlI : (len : Int) ≤ 9223372036854775807 := by omega
  have hlI1 : (len1 : Int) ≤ 9223372036854775807 := by omega
  have hlI2 : (len2 : Int) ≤ 9223372036854775807 := by omega
  have HM := Lib.hid hM; have HX1 := Lib.hid hX1; have HX2 := Lib.hid hX2
  clear hM hX1 hX2
  go_enter Try.func4, Try.ntmps4
  go_upto_region 1 with fail
  obtain ⟨w1, hw1⟩ : ∃ w1, w1 = (w.alloc (.cells #[.int .i64 c.ca, .int .i64 c.fl, .int .i64 c.ft, .int .i64 c.se, .int .i64 c.dr, .int .i64 c.dw, .int .i64 c.ho, .int .i64 c.re, .int .i64 c.yi, .int .i64 c.qu, .int .i64 c.qo, .int .i64 c.lo, .int .i64 c.sl, .int .i64 c.rt, .int .i64 c.cp, .int .i64 c.tr, .int .i64 c.de, .int .i64 c.wi] 23)) := ⟨_, rfl⟩
  rw [← hw1]
  have HBC1 := Lib.hid (show Blk w1 (w.heap.size) 23 (cfgA c) by rw [hw1]; exact Blk.at_ (by (try simp only [size_alloc])) _ _)
  have HS1 := Lib.hid (show Since w w1 by rw [hw1]; exact Since.alloc (Since.refl w) _)
  have hNE : w.heap.size ≤ w.heap.size := by omega
  have HNE := Lib.hid hNE
  clear hNE hw1
  have HNE3 := Lib.hid (show w.heap.size ≤ w.heap.size from HNE.out)
  clear HNE
  refine no_implicit_lambda% (wp_region_lit ?_)
  refine no_implicit_lambda% (wpList_wp (by rfl) (fun K hK => ?_))
  (try go_simp)
  refine (newT _).mono ?_
  rintro e w2 ⟨rfl, hb⟩
  (try go_wp2_with fail)
  refine no_implicit_lambda% (hK.out _ _ ?_)
  clear hK K
  (try simp only [Act.put, sA, sB, sC])
  have HS2 := Lib.hid (Since.trans HS1.out hb)
  have HBC2 := Lib.hid (keep_blk hb HBC1.out)
  clear HS1 HBC1
  clear hb
  refine no_implicit_lambda% (wpList_wp (by rfl) (fun K hK => ?_))
  refine no_implicit_lambda% (wp_new (fun b => .pointer (some ⟨b, 0, none⟩)) 30 #[.int .i64 0, .int .i64 0, .int .i64 0, .int .i64 0, .int .i64 0, .int .i64 0, .int .i64 0, .bool false, .bool false, .int .i64 0, .int .i64 0, .bool false, .int .u64 0, .int .u64 0, .int .u64 0] (by rintro b rfl; first | rfl | kernel_rfl) ?_)
  intro bn9 w3 hge hB hb
  refine no_implicit_lambda% (hK.out _ _ ?_)
  clear hK K
  (try simp only [Act.put, sA, sB, sC])
  have HNn9C := Lib.hid (show bn9 ≠ w.heap.size by have := Blk.lt HBC2.out; omega)
  have HGn9 := Lib.hid (show w.heap.size ≤ bn9 by have := Since.size HS2.out; omega)
  have HS3 := Lib.hid (Since.trans HS2.out hb)
  have HBC3 := Lib.hid (keep_blk hb HBC2.out)
  clear HS2 HBC2
  clear hb hge
  have HBn93 := Lib.hid hB
  clear hB
  refine no_implicit_lambda% (wpList_wp (by rfl) (fun K hK => ?_))
  refine no_implicit_lambda% (wp_st_row 30 _ _ rfl #[.int .i64 0, .int .i64 0, .int .i64 0, .int .i64 0, .int .i64 0, .int .i64 (-1), .int .i64 0, .bool false, .bool false, .int .i64 0, .int .i64 0, .bool false, .int .u64 0, .int .u64 0, .int .u64 0] rfl rfl (HasRow.of HBn93.out rfl) rfl (by simp [cfgA, carA, Value.oneCell']) (by kernel_rfl) ?_)
  intro w4 hw
  refine no_implicit_lambda% (hK.out _ _ ?_)
  clear hK K
  (try simp only [Act.put, sA, sB, sC])
  have HS4 := Lib.hid (show Since w w4 by rw [hw]; exact Since.setRow HS3.out HGn9.out _)
  have HBC4 := Lib.hid (show Blk w4 w.heap.size 23 (cfgA c) by rw [hw]; exact Blk.row_far HBC3.out (Ne.symm HNn9C.out) _)
  have HBn94 := Lib.hid (show Blk w4 bn9 30 #[.int .i64 0, .int .i64 0, .int .i64 0, .int .i64 0, .int .i64 0, .int .i64 (-1), .int .i64 0, .bool false, .bool false, .int .i64 0, .int .i64 0, .bool false, .int .u64 0, .int .u64 0, .int .u64 0] by rw [hw]; exact Blk.row HBn93.out _)
  clear hw HS3 HBC3 HBn93
  refine no_implicit_lambda% (wpList_nil ?_)
  go_wp2_with fail
  go_loopw [10] (fun s10 wr => ∃ (k : Nat) (x : CarV), k ≤ len ∧ s10 = .int .i64 k ∧ Hid (goodB c x = true ∧ Since w wr ∧ Blk wr w.heap.size 23 (cfgA c) ∧ Blk wr bn9 30 (carA x))) (fun s10 _ => ((len : Int) - intOf s10).toNat)
  case atStart => exact ⟨0, newC, by omega, rfl, Lib.hid ⟨good_new c, HS4.out, HBC4.out, HBn94.out⟩⟩
  case round =>
    obtain ⟨k, x, hk, rfl, HO⟩ := hrel
    obtain ⟨e0, g0, g1, g2⟩ := HO.out
    clear HO HS4 HBC4 HBn94
    have HGD := Lib.hid e0
    have HS54 := Lib.hid g0
    have HBC54 := Lib.hid g1
    have HBn954 := Lib.hid g2
    clear e0 g0 g1 g2
    have hk0 : (0 : Int) ≤ (k : Int) := by omega
    by_cases hlt : k < len ∧ k < 500
    · obtain ⟨hlt, h500⟩ := hlt
      have hk1 : (k : Int) < (len : Int) := by omega
      have hk5 : (k : Int) < 500 := by omega
      have hk2 : decide (k < len) = true := decide_eq_true hlt
      obtain ⟨bM, oM, rfl, hbM, hcM⟩ : ∃ bM oM, a = some ⟨bM, oM, none⟩ ∧ bM < w.heap.size ∧ ∀ j v, (cmdC (ms k))[j]? = some v → w.cell? ⟨bM, oM + k * 3 + j, none⟩ = some v := by obtain ⟨b, o, e, h1, h2⟩ := MV.at_ HM.out hlt; exact ⟨b, o, e, h1, fun j v hj => h2 k hlt j v hj⟩
      have HCM := Lib.hid hcM; clear hcM hbM
      go_upto_region 5 with fail
      go_cut [10] (fun s10 wx => Hid (∃ b_bl : Bool, s10 = .int .i64 (k : Int) ∧ Since w wx ∧ Blk wx w.heap.size 23 (cfgA c) ∧ Blk wx bn9 30 #[.int .i64 x.ds, .int .i64 x.da, .int .i64 x.un, .int .i64 x.wy, .int .i64 x.ti, .int .i64 x.ju, .int .i64 x.lo, .bool b_bl, .bool x.br, .int .i64 x.mo, .int .i64 x.ta, .bool x.ho, .int .u64 x.sp, .int .u64 x.su, .int .u64 x.sd]))
      case first =>
        by_cases hb : k < len1
        · have hb' : decide (k < len1) = true := decide_eq_true hb
          have HB' := Lib.hid hb'; clear hb'
          obtain ⟨bB, oB, rfl, hbB, hcB⟩ : ∃ bB oB, a1 = some ⟨bB, oB, none⟩ ∧ bB < w.heap.size ∧ w.cell? ⟨bB, oB + k, none⟩ = some (.bool (bs1 k)) := by rcases HX1.out with h | ⟨b, o, e, h1, h2⟩; (exact absurd h (by omega)); exact ⟨b, o, e, h1, h2 k hb⟩
          have HCB := Lib.hid hcB; clear hcB hbB
          have hkb : (k : Int) < (len1 : Int) := by omega
          refine no_implicit_lambda% (wp_region_lit ?_)
          refine no_implicit_lambda% (wpList_q (by rfl) (.int .i64 k) ?he ?_)
          case he => (first | rfl | (go_simp; (try with_reducible rfl)))
          (try simp only [Act.put, sA, sB, sC])
          refine no_implicit_lambda% (wpList_q (by rfl) (.slice (some ⟨bB, oB, none⟩) len1 cap1) ?he ?_)
          case he => (first | rfl | (go_simp; (try with_reducible rfl)))
          (try simp only [Act.put, sA, sB, sC])
          refine no_implicit_lambda% (wpList_q (by rfl) (.int .i64 len1) ?he ?_)
          case he => (first | rfl | (go_simp; (try with_reducible rfl)))
          (try simp only [Act.put, sA, sB, sC])
          refine no_implicit_lambda% (wpList_q (by rfl) (.bool true) ?he ?_)
          case he => (have hq := HB'.out; go_simp; (try with_reducible rfl))
          (try simp only [Act.put, sA, sB, sC])
          refine no_implicit_lambda% (wpList_q (by rfl) (.bool true) ?he ?_)
          case he => (first | rfl | (go_simp; (try with_reducible rfl)))
          (try simp only [Act.put, sA, sB, sC])
          refine no_implicit_lambda% (wpList_q (by rfl) (.slice (some ⟨bB, oB, none⟩) len1 cap1) ?he ?_)
          case he => (first | rfl | (go_simp; (try with_reducible rfl)))
          (try simp only [Act.put, sA, sB, sC])
          refine no_implicit_lambda% (wpList_q (by rfl) (.int .i64 k) ?he ?_)
          case he => (first | rfl | (go_simp; (try with_reducible rfl)))
          (try simp only [Act.put, sA, sB, sC])
          refine no_implicit_lambda% (wpList_q (by rfl) (.pointer (some ⟨bB, (oB + k), none⟩)) ?he ?_)
          case he => (first | rfl | (go_simp; (try with_reducible rfl)))
          (try simp only [Act.put, sA, sB, sC])
          refine no_implicit_lambda% (wpList_q (by rfl) (.bool (bs1 k)) ?he ?_)
          case he => exact exec_at 4 _ _ (keep_cell HS54.out HCB.out) rfl rfl Try.underlying4 rfl
          (try simp only [Act.put, sA, sB, sC])
          refine no_implicit_lambda% (wpList_q (by rfl) (.bool (bs1 k)) ?he ?_)
          case he => (first | rfl | (go_simp; (try with_reducible rfl)))
          (try simp only [Act.put, sA, sB, sC])
          refine no_implicit_lambda% (wpList_q (by rfl) (.pointer (some ⟨bn9, 7, none⟩)) ?he ?_)
          case he => (first | rfl | (go_simp; (try with_reducible rfl)))
          (try simp only [Act.put, sA, sB, sC])
          refine no_implicit_lambda% (wpList_wp (by rfl) (fun K hK => ?_))
          refine no_implicit_lambda% (wp_st_cell 4 _ _ rfl #[.int .i64 x.ds, .int .i64 x.da, .int .i64 x.un, .int .i64 x.wy, .int .i64 x.ti, .int .i64 x.ju, .int .i64 x.lo, .bool (bs1 k), .bool x.br, .int .i64 x.mo, .int .i64 x.ta, .bool x.ho, .int .u64 x.sp, .int .u64 x.su, .int .u64 x.sd] (.bool (bs1 k)) rfl rfl HBn954.out (by show 7 < 15; decide) rfl (by first | rfl | simp [Value.oneCell']) (by kernel_rfl) ?_)
          intro w55 hw
          refine no_implicit_lambda% (hK.out _ _ ?_)
          clear hK K
          (try simp only [Act.put, sA, sB, sC])
          have HS55 := Lib.hid (show Since w w55 by rw [hw]; exact Since.setRow HS54.out HGn9.out _)
          have HBC55 := Lib.hid (show Blk w55 w.heap.size 23 (cfgA c) by rw [hw]; exact Blk.row_far HBC54.out (Ne.symm HNn9C.out) _)
          have HBn955 := Lib.hid (show Blk w55 bn9 30 #[.int .i64 x.ds, .int .i64 x.da, .int .i64 x.un, .int .i64 x.wy, .int .i64 x.ti, .int .i64 x.ju, .int .i64 x.lo, .bool (bs1 k), .bool x.br, .int .i64 x.mo, .int .i64 x.ta, .bool x.ho, .int .u64 x.sp, .int .u64 x.su, .int .u64 x.sd] by rw [hw]; exact Blk.row HBn954.out _)
          clear hw HS54 HBC54 HBn954
          refine no_implicit_lambda% (wpList_nil ?_)
          go_wp2_with fail
          go_meet
          case rel => exact Lib.hid ⟨(bs1 k), rfl, HS55.out, HBC55.out, HBn955.out⟩
        · have hb' : decide (k < len1) = false := decide_eq_false hb
          have HB' := Lib.hid hb'; clear hb'
          refine no_implicit_lambda% (wp_region_lit ?_)
          refine no_implicit_lambda% (wpList_q (by rfl) (.int .i64 k) ?he ?_)
          case he => (first | rfl | (go_simp; (try with_reducible rfl)))
          (try simp only [Act.put, sA, sB, sC])
          refine no_implicit_lambda% (wpList_q (by rfl) (.slice a1 len1 cap1) ?he ?_)
          case he => (first | rfl | (go_simp; (try with_reducible rfl)))
          (try simp only [Act.put, sA, sB, sC])
          refine no_implicit_lambda% (wpList_q (by rfl) (.int .i64 len1) ?he ?_)
          case he => (first | rfl | (go_simp; (try with_reducible rfl)))
          (try simp only [Act.put, sA, sB, sC])
          refine no_implicit_lambda% (wpList_q (by rfl) (.bool false) ?he ?_)
          case he => (have hq := HB'.out; go_simp; (try with_reducible rfl))
          (try simp only [Act.put, sA, sB, sC])
          refine no_implicit_lambda% (wpList_q (by rfl) (.bool false) ?he ?_)
          case he => (first | rfl | (go_simp; (try with_reducible rfl)))
          (try simp only [Act.put, sA, sB, sC])
          refine no_implicit_lambda% (wpList_no (by rfl) ?_)
          (try simp only [Act.put, sA, sB, sC])
          refine no_implicit_lambda% (wpList_no (by rfl) ?_)
          (try simp only [Act.put, sA, sB, sC])
          refine no_implicit_lambda% (wpList_no (by rfl) ?_)
          (try simp only [Act.put, sA, sB, sC])
          refine no_implicit_lambda% (wpList_no (by rfl) ?_)
          (try simp only [Act.put, sA, sB, sC])
          refine no_implicit_lambda% (wpList_q (by rfl) (.bool false) ?he ?_)
          case he => (first | rfl | (go_simp; (try with_reducible rfl)))
          (try simp only [Act.put, sA, sB, sC])
          refine no_implicit_lambda% (wpList_q (by rfl) (.pointer (some ⟨bn9, 7, none⟩)) ?he ?_)
          case he => (first | rfl | (go_simp; (try with_reducible rfl)))
          (try simp only [Act.put, sA, sB, sC])
          refine no_implicit_lambda% (wpList_wp (by rfl) (fun K hK => ?_))
          refine no_implicit_lambda% (wp_st_cell 4 _ _ rfl #[.int .i64 x.ds, .int .i64 x.da, .int .i64 x.un, .int .i64 x.wy, .int .i64 x.ti, .int .i64 x.ju, .int .i64 x.lo, .bool false, .bool x.br, .int .i64 x.mo, .int .i64 x.ta, .bool x.ho, .int .u64 x.sp, .int .u64 x.su, .int .u64 x.sd] (.bool false) rfl rfl HBn954.out (by show 7 < 15; decide) rfl (by first | rfl | simp [Value.oneCell']) (by kernel_rfl) ?_)
          intro w55 hw
          refine no_implicit_lambda% (hK.out _ _ ?_)
          clear hK K
          (try simp only [Act.put, sA, sB, sC])
          have HS55 := Lib.hid (show Since w w55 by rw [hw]; exact Since.setRow HS54.out HGn9.out _)
          have HBC55 := Lib.hid (show Blk w55 w.heap.size 23 (cfgA c) by rw [hw]; exact Blk.row_far HBC54.out (Ne.symm HNn9C.out) _)
          have HBn955 := Lib.hid (show Blk w55 bn9 30 #[.int .i64 x.ds, .int .i64 x.da, .int .i64 x.un, .int .i64 x.wy, .int .i64 x.ti, .int .i64 x.ju, .int .i64 x.lo, .bool false, .bool x.br, .int .i64 x.mo, .int .i64 x.ta, .bool x.ho, .int .u64 x.sp, .int .u64 x.su, .int .u64 x.sd] by rw [hw]; exact Blk.row HBn954.out _)
          clear hw HS54 HBC54 HBn954
          refine no_implicit_lambda% (wpList_nil ?_)
          go_wp2_with fail
          go_meet
          case rel => exact Lib.hid ⟨false, rfl, HS55.out, HBC55.out, HBn955.out⟩
      case rest =>
        clear HS54 HBC54 HBn954
        obtain ⟨b_bl, rfl, g0, g1, g2⟩ := hcut.out
        clear hcut
        have HS104 := Lib.hid g0; have HBC104 := Lib.hid g1; have HBn9104 := Lib.hid g2
        clear g0 g1 g2
        go_upto_region 6 with fail
        go_cut [10] (fun s10 wx => Hid (∃ b_br : Bool, s10 = .int .i64 (k : Int) ∧ Since w wx ∧ Blk wx w.heap.size 23 (cfgA c) ∧ Blk wx bn9 30 #[.int .i64 x.ds, .int .i64 x.da, .int .i64 x.un, .int .i64 x.wy, .int .i64 x.ti, .int .i64 x.ju, .int .i64 x.lo, .bool b_bl, .bool b_br, .int .i64 x.mo, .int .i64 x.ta, .bool x.ho, .int .u64 x.sp, .int .u64 x.su, .int .u64 x.sd]))
        case first =>
          by_cases hb : k < len2
          · have hb' : decide (k < len2) = true := decide_eq_true hb
            have HB' := Lib.hid hb'; clear hb'
            obtain ⟨bB, oB, rfl, hbB, hcB⟩ : ∃ bB oB, a2 = some ⟨bB, oB, none⟩ ∧ bB < w.heap.size ∧ w.cell? ⟨bB, oB + k, none⟩ = some (.bool (bs2 k)) := by rcases HX2.out with h | ⟨b, o, e, h1, h2⟩; (exact absurd h (by omega)); exact ⟨b, o, e, h1, h2 k hb⟩
            have HCB := Lib.hid hcB; clear hcB hbB
            have hkb : (k : Int) < (len2 : Int) := by omega
            refine no_implicit_lambda% (wp_region_lit ?_)
            refine no_implicit_lambda% (wpList_q (by rfl) (.int .i64 k) ?he ?_)
            case he => (first | rfl | (go_simp; (try with_reducible rfl)))
            (try simp only [Act.put, sA, sB, sC])
            refine no_implicit_lambda% (wpList_q (by rfl) (.slice (some ⟨bB, oB, none⟩) len2 cap2) ?he ?_)
            case he => (first | rfl | (go_simp; (try with_reducible rfl)))
            (try simp only [Act.put, sA, sB, sC])
            refine no_implicit_lambda% (wpList_q (by rfl) (.int .i64 len2) ?he ?_)
            case he => (first | rfl | (go_simp; (try with_reducible rfl)))
            (try simp only [Act.put, sA, sB, sC])
            refine no_implicit_lambda% (wpList_q (by rfl) (.bool true) ?he ?_)
            case he => (have hq := HB'.out; go_simp; (try with_reducible rfl))
            (try simp only [Act.put, sA, sB, sC])
            refine no_implicit_lambda% (wpList_q (by rfl) (.bool true) ?he ?_)
            case he => (first | rfl | (go_simp; (try with_reducible rfl)))
            (try simp only [Act.put, sA, sB, sC])
            refine no_implicit_lambda% (wpList_q (by rfl) (.slice (some ⟨bB, oB, none⟩) len2 cap2) ?he ?_)
            case he => (first | rfl | (go_simp; (try with_reducible rfl)))
            (try simp only [Act.put, sA, sB, sC])
            refine no_implicit_lambda% (wpList_q (by rfl) (.int .i64 k) ?he ?_)
            case he => (first | rfl | (go_simp; (try with_reducible rfl)))
            (try simp only [Act.put, sA, sB, sC])
            refine no_implicit_lambda% (wpList_q (by rfl) (.pointer (some ⟨bB, (oB + k), none⟩)) ?he ?_)
            case he => (first | rfl | (go_simp; (try with_reducible rfl)))
            (try simp only [Act.put, sA, sB, sC])
            refine no_implicit_lambda% (wpList_q (by rfl) (.bool (bs2 k)) ?he ?_)
            case he => exact exec_at 4 _ _ (keep_cell HS104.out HCB.out) rfl rfl Try.underlying4 rfl
            (try simp only [Act.put, sA, sB, sC])
            refine no_implicit_lambda% (wpList_q (by rfl) (.bool (bs2 k)) ?he ?_)
            case he => (first | rfl | (go_simp; (try with_reducible rfl)))
            (try simp only [Act.put, sA, sB, sC])
            refine no_implicit_lambda% (wpList_q (by rfl) (.pointer (some ⟨bn9, 8, none⟩)) ?he ?_)
            case he => (first | rfl | (go_simp; (try with_reducible rfl)))
            (try simp only [Act.put, sA, sB, sC])
            refine no_implicit_lambda% (wpList_wp (by rfl) (fun K hK => ?_))
            refine no_implicit_lambda% (wp_st_cell 4 _ _ rfl #[.int .i64 x.ds, .int .i64 x.da, .int .i64 x.un, .int .i64 x.wy, .int .i64 x.ti, .int .i64 x.ju, .int .i64 x.lo, .bool b_bl, .bool (bs2 k), .int .i64 x.mo, .int .i64 x.ta, .bool x.ho, .int .u64 x.sp, .int .u64 x.su, .int .u64 x.sd] (.bool (bs2 k)) rfl rfl HBn9104.out (by show 8 < 15; decide) rfl (by first | rfl | simp [Value.oneCell']) (by kernel_rfl) ?_)
            intro w105 hw
            refine no_implicit_lambda% (hK.out _ _ ?_)
            clear hK K
            (try simp only [Act.put, sA, sB, sC])
            have HS105 := Lib.hid (show Since w w105 by rw [hw]; exact Since.setRow HS104.out HGn9.out _)
            have HBC105 := Lib.hid (show Blk w105 w.heap.size 23 (cfgA c) by rw [hw]; exact Blk.row_far HBC104.out (Ne.symm HNn9C.out) _)
            have HBn9105 := Lib.hid (show Blk w105 bn9 30 #[.int .i64 x.ds, .int .i64 x.da, .int .i64 x.un, .int .i64 x.wy, .int .i64 x.ti, .int .i64 x.ju, .int .i64 x.lo, .bool b_bl, .bool (bs2 k), .int .i64 x.mo, .int .i64 x.ta, .bool x.ho, .int .u64 x.sp, .int .u64 x.su, .int .u64 x.sd] by rw [hw]; exact Blk.row HBn9104.out _)
            clear hw HS104 HBC104 HBn9104
            refine no_implicit_lambda% (wpList_nil ?_)
            go_wp2_with fail
            go_meet
            case rel => exact Lib.hid ⟨(bs2 k), rfl, HS105.out, HBC105.out, HBn9105.out⟩
          · have hb' : decide (k < len2) = false := decide_eq_false hb
            have HB' := Lib.hid hb'; clear hb'
            refine no_implicit_lambda% (wp_region_lit ?_)
            refine no_implicit_lambda% (wpList_q (by rfl) (.int .i64 k) ?he ?_)
            case he => (first | rfl | (go_simp; (try with_reducible rfl)))
            (try simp only [Act.put, sA, sB, sC])
            refine no_implicit_lambda% (wpList_q (by rfl) (.slice a2 len2 cap2) ?he ?_)
            case he => (first | rfl | (go_simp; (try with_reducible rfl)))
            (try simp only [Act.put, sA, sB, sC])
            refine no_implicit_lambda% (wpList_q (by rfl) (.int .i64 len2) ?he ?_)
            case he => (first | rfl | (go_simp; (try with_reducible rfl)))
            (try simp only [Act.put, sA, sB, sC])
            refine no_implicit_lambda% (wpList_q (by rfl) (.bool false) ?he ?_)
            case he => (have hq := HB'.out; go_simp; (try with_reducible rfl))
            (try simp only [Act.put, sA, sB, sC])
            refine no_implicit_lambda% (wpList_q (by rfl) (.bool false) ?he ?_)
            case he => (first | rfl | (go_simp; (try with_reducible rfl)))
            (try simp only [Act.put, sA, sB, sC])
            refine no_implicit_lambda% (wpList_no (by rfl) ?_)
            (try simp only [Act.put, sA, sB, sC])
            refine no_implicit_lambda% (wpList_no (by rfl) ?_)
            (try simp only [Act.put, sA, sB, sC])
            refine no_implicit_lambda% (wpList_no (by rfl) ?_)
            (try simp only [Act.put, sA, sB, sC])
            refine no_implicit_lambda% (wpList_no (by rfl) ?_)
            (try simp only [Act.put, sA, sB, sC])
            refine no_implicit_lambda% (wpList_q (by rfl) (.bool false) ?he ?_)
            case he => (first | rfl | (go_simp; (try with_reducible rfl)))
            (try simp only [Act.put, sA, sB, sC])
            refine no_implicit_lambda% (wpList_q (by rfl) (.pointer (some ⟨bn9, 8, none⟩)) ?he ?_)
            case he => (first | rfl | (go_simp; (try with_reducible rfl)))
            (try simp only [Act.put, sA, sB, sC])
            refine no_implicit_lambda% (wpList_wp (by rfl) (fun K hK => ?_))
            refine no_implicit_lambda% (wp_st_cell 4 _ _ rfl #[.int .i64 x.ds, .int .i64 x.da, .int .i64 x.un, .int .i64 x.wy, .int .i64 x.ti, .int .i64 x.ju, .int .i64 x.lo, .bool b_bl, .bool false, .int .i64 x.mo, .int .i64 x.ta, .bool x.ho, .int .u64 x.sp, .int .u64 x.su, .int .u64 x.sd] (.bool false) rfl rfl HBn9104.out (by show 8 < 15; decide) rfl (by first | rfl | simp [Value.oneCell']) (by kernel_rfl) ?_)
            intro w105 hw
            refine no_implicit_lambda% (hK.out _ _ ?_)
            clear hK K
            (try simp only [Act.put, sA, sB, sC])
            have HS105 := Lib.hid (show Since w w105 by rw [hw]; exact Since.setRow HS104.out HGn9.out _)
            have HBC105 := Lib.hid (show Blk w105 w.heap.size 23 (cfgA c) by rw [hw]; exact Blk.row_far HBC104.out (Ne.symm HNn9C.out) _)
            have HBn9105 := Lib.hid (show Blk w105 bn9 30 #[.int .i64 x.ds, .int .i64 x.da, .int .i64 x.un, .int .i64 x.wy, .int .i64 x.ti, .int .i64 x.ju, .int .i64 x.lo, .bool b_bl, .bool false, .int .i64 x.mo, .int .i64 x.ta, .bool x.ho, .int .u64 x.sp, .int .u64 x.su, .int .u64 x.sd] by rw [hw]; exact Blk.row HBn9104.out _)
            clear hw HS104 HBC104 HBn9104
            refine no_implicit_lambda% (wpList_nil ?_)
            go_wp2_with fail
            go_meet
            case rel => exact Lib.hid ⟨false, rfl, HS105.out, HBC105.out, HBn9105.out⟩
        case rest =>
          clear HS104 HBC104 HBn9104
          obtain ⟨b_br, rfl, g0, g1, g2⟩ := hcut.out
          clear hcut
          have HS154 := Lib.hid g0; have HBC154 := Lib.hid g1; have HBn9154 := Lib.hid g2
          clear g0 g1 g2
          obtain ⟨x2, hx2⟩ : ∃ x2 : CarV, x2 = ⟨x.ds, x.da, x.un, x.wy, x.ti, x.ju, x.lo, b_bl, b_br, x.mo, x.ta, x.ho, x.sp, x.su, x.sd⟩ := ⟨_, rfl⟩
          have HBX2 := Lib.hid (show Blk wc bn9 30 (carA x2) by rw [hx2]; exact HBn9154.out)
          have hg2 : goodB c x2 = true := by rw [hx2]; exact HGD.out
          clear hx2 HBn9154
          have hbd := good_bd c x2 hg2
          have hgs := good_step c x2 (ms k).r (ms k).o (ms k).k hg2
          have hsf := step_facts c x2 (ms k).r (ms k).o (ms k).k hg2
          obtain ⟨y, hy⟩ : ∃ y, y = stepV c x2 (ms k).r (ms k).o (ms k).k := ⟨_, rfl⟩
          rw [← hy] at hgs hsf
          have HT := Lib.hid (fun W => show Calls Try.prog 20 #[.agg (cfgA c), .agg (carA x2), .agg #[.int .i64 (ms k).r, .bool (ms k).o, .bool (ms k).k]] W fun e w' => e = .returned (.agg (carA y)) ∧ Since W w' by rw [hy]; exact stepT c x2 (ms k).r (ms k).o (ms k).k hbd.1 hbd.2.1 (by omega) (by omega) W)
          have hby := good_bd c y hgs
          have hsy := good_safe c y hgs
          have HSAFE := Lib.hid (fun W => show Calls Try.prog 22 #[.agg (carA y)] W fun e w' => e = .returned (.bool true) ∧ Since W w' by have h := safeT y W; rw [hsy] at h; exact h)
          have HGY := Lib.hid hgs; have HBD := Lib.hid (And.intro hbd hby); have HSF := Lib.hid hsf
          clear hy hg2 hbd hgs hby hsy HGD
          go_upto_region 7 with fail
          go_cut [11] (fun s11 wx => Hid (∃ bn11 : Nat, s11 = .pointer (some ⟨bn11, 0, none⟩) ∧ Since w wx ∧ Blk wx w.heap.size 23 (cfgA c) ∧ Blk wx bn9 30 (carA x2) ∧ Blk wx bn11 30 (carA y) ∧ w.heap.size ≤ bn11 ∧ bn11 ≠ w.heap.size ∧ bn11 ≠ bn9))
          case first =>
            have hrK : ∀ W W' : World, Since W W' → (Since w W ∧ Blk W w.heap.size 23 (cfgA c) ∧ Blk W bn9 30 (carA x2)) → (Since w W' ∧ Blk W' w.heap.size 23 (cfgA c) ∧ Blk W' bn9 30 (carA x2)) := fun W W' k ⟨h, h0, h1⟩ => ⟨h.trans k, keep_blk k h0, keep_blk k h1⟩
            have hrS : (fun W : World => Since w W ∧ Blk W w.heap.size 23 (cfgA c) ∧ Blk W bn9 30 (carA x2)) wc := ⟨HS154.out, HBC154.out, HBX2.out⟩
            have HRK := Lib.hid hrK
            have HRD := Lib.hid (show (fun W : World => Since w W ∧ Blk W w.heap.size 23 (cfgA c) ∧ Blk W bn9 30 (carA x2)) (World.drew wc) from ⟨Since.drew hrS.1, hrS.2⟩)
            clear hrK hrS
            refine no_implicit_lambda% (wp_region_held_drew (S := fun W : World => Since w W ∧ Blk W w.heap.size 23 (cfgA c) ∧ Blk W bn9 30 (carA x2)) (by kernel_rfl) HRD.out (fun hHeld => ?_))
            refine no_implicit_lambda% (wpAnyH_take (i := 0) (oi := ?o7__0) (v := .agg (cfgA c)) ?h7__0 (by kernel_rfl) (by kernel_rfl) (by kernel_rfl) ?q7__0 ?y7__0 (by assumption) ?_)
            case h7__0 => (first | (simp only [gA, gB, gC]; done) | (simp only [gA, gB, gC]; exact rfl))
            case q7__0 => exact fun _ _ _ h => h
            case y7__0 => (refine Or.inl ⟨rfl, ?_⟩; intro w hSw; exact exec_load_row 23 _ _ hSw.2.1 rfl rfl Try.underlying23 rfl (by kernel_rfl))
            (try simp only [Act.put, sA, sB, sC])
            refine no_implicit_lambda% (wpAnyH_take (i := 1) (oi := ?o7__1) (v := .agg (carA x2)) ?h7__1 (by kernel_rfl) (by kernel_rfl) (by kernel_rfl) ?q7__1 ?y7__1 (by assumption) ?_)
            case h7__1 => (first | (simp only [gA, gB, gC]; done) | (simp only [gA, gB, gC]; exact rfl))
            case q7__1 => exact fun _ _ _ h => h
            case y7__1 => (refine Or.inl ⟨rfl, ?_⟩; intro w hSw; exact exec_load_row 30 _ _ hSw.2.2 rfl rfl Try.underlying30 rfl (by kernel_rfl))
            (try simp only [Act.put, sA, sB, sC])
            refine no_implicit_lambda% (wpAnyH_take (i := 2) (oi := ?o7__2) (v := .slice (some ⟨bM, oM, none⟩) len cap) ?h7__2 (by kernel_rfl) (by kernel_rfl) (by kernel_rfl) ?q7__2 ?y7__2 (by assumption) ?_)
            case h7__2 => (first | (simp only [gA, gB, gC]; done) | (simp only [gA, gB, gC]; exact rfl))
            case q7__2 => exact fun _ _ _ h => h
            case y7__2 => (refine Or.inl ⟨rfl, ?_⟩; intro w hSw; (first | rfl | (go_simp; (try with_reducible rfl))))
            (try simp only [Act.put, sA, sB, sC])
            refine no_implicit_lambda% (wpAnyH_take (i := 3) (oi := ?o7__3) (v := .int .i64 k) ?h7__3 (by kernel_rfl) (by kernel_rfl) (by kernel_rfl) ?q7__3 ?y7__3 (by assumption) ?_)
            case h7__3 => (first | (simp only [gA, gB, gC]; done) | (simp only [gA, gB, gC]; exact rfl))
            case q7__3 => exact fun _ _ _ h => h
            case y7__3 => (refine Or.inl ⟨rfl, ?_⟩; intro w hSw; (first | rfl | (go_simp; (try with_reducible rfl))))
            (try simp only [Act.put, sA, sB, sC])
            refine no_implicit_lambda% (wpAnyH_take (i := 4) (oi := ?o7__4) (v := .pointer (some ⟨bM, (oM + k * 3), none⟩)) ?h7__4 (by kernel_rfl) (by kernel_rfl) (by kernel_rfl) ?q7__4 ?y7__4 (by assumption) ?_)
            case h7__4 => (first | (simp only [gA, gB, gC]; done) | (simp only [gA, gB, gC]; exact rfl))
            case q7__4 => exact fun _ _ _ h => h
            case y7__4 => (refine Or.inl ⟨rfl, ?_⟩; intro w hSw; (first | rfl | (go_simp; (try with_reducible rfl))))
            (try simp only [Act.put, sA, sB, sC])
            refine no_implicit_lambda% (wpAnyH_take (i := 5) (oi := ?o7__5) (v := .agg #[.int .i64 ((ms k).r), .bool ((ms k).o), .bool ((ms k).k)]) ?h7__5 (by kernel_rfl) (by kernel_rfl) (by kernel_rfl) ?q7__5 ?y7__5 (by assumption) ?_)
            case h7__5 => (first | (simp only [gA, gB, gC]; done) | (simp only [gA, gB, gC]; exact rfl))
            case q7__5 => exact fun _ _ _ h => h
            case y7__5 => (refine Or.inl ⟨rfl, ?_⟩; intro w hSw; exact exec_rng (l := cmdC (ms k)) 32 _ _ (fun j v hv => keep_cell hSw.1 (HCM.out j v hv)) rfl rfl Try.underlying32 rfl (by kernel_rfl))
            (try simp only [Act.put, sA, sB, sC])
            refine no_implicit_lambda% (wpAnyH_ready (rs := [6, 7]) (by kernel_rfl) (by simp) ?_)
            refine AllReadyH.cons (o := ?o7__6b) ?h7__6b (fun K hK => ?g7__6b) (AllReadyH.cons (o := ?o7__7b) ?h7__7b (fun K hK => ?g7__7b) AllReadyH.nil)
            case h7__6b => (first | (simp only [gA, gB, gC]; done) | (simp only [gA, gB, gC]; exact rfl))
            case h7__7b => (first | (simp only [gA, gB, gC]; done) | (simp only [gA, gB, gC]; exact rfl))
            case g7__6b =>
              (try go_simp)
              refine (HT.out _).mono ?_
              rintro e w155 ⟨rfl, hb⟩
              (try go_wp2_with fail)
              refine no_implicit_lambda% (hK.out _ _ (by (apply HRK.out; exact hb; exact hHeld)) (fun hHeld2 => ?_))
              clear hK K hHeld hb
              have hHeld := hHeld2
              clear hHeld2
              (try simp only [Act.put, sA, sB, sC])
              refine no_implicit_lambda% (wpAnyH_ready (rs := [7]) (by kernel_rfl) (by simp) ?_)
              refine AllReadyH.cons (o := ?o7_b6_7) ?h7_b6_7 (fun K hK => ?_) AllReadyH.nil
              case h7_b6_7 => (first | (simp only [gA, gB, gC]; done) | (simp only [gA, gB, gC]; exact rfl))
              rw [if_pos (by rfl)]
              refine no_implicit_lambda% (wp_new (fun b => .pointer (some ⟨b, 0, none⟩)) 30 #[.int .i64 0, .int .i64 0, .int .i64 0, .int .i64 0, .int .i64 0, .int .i64 0, .int .i64 0, .bool false, .bool false, .int .i64 0, .int .i64 0, .bool false, .int .u64 0, .int .u64 0, .int .u64 0] (by rintro b rfl; first | rfl | kernel_rfl) ?_)
              intro bn11 w156 hge hB hb
              refine no_implicit_lambda% (hK.out _ _ (by (apply HRK.out; exact hb; exact hHeld)) (fun hHeld2 => ?_))
              have HNn11C := Lib.hid (show bn11 ≠ w.heap.size by have := Blk.lt (hHeld.2.1); (try simp at this); (try simp at hge); omega)
              have HNn11n9 := Lib.hid (show bn11 ≠ bn9 by have := Blk.lt (hHeld.2.2); (try simp at this); (try simp at hge); omega)
              have HGn11 := Lib.hid (show w.heap.size ≤ bn11 by have := Since.size hHeld.1; (try simp at this); (try simp at hge); omega)
              have HXn11 := Lib.hid hB
              clear hB
              clear hge
              clear hK K hHeld hb
              have hHeld := hHeld2
              clear hHeld2
              (try simp only [Act.put, sA, sB, sC])
              refine no_implicit_lambda% (wpAnyH_ready (rs := [8]) (by kernel_rfl) (by simp) ?_)
              refine AllReadyH.cons (o := ?o7_b6_8) ?h7_b6_8 (fun K hK => ?_) AllReadyH.nil
              case h7_b6_8 => (first | (simp only [gA, gB, gC]; done) | (simp only [gA, gB, gC]; exact rfl))
              rw [if_pos (by rfl)]
              refine no_implicit_lambda% (wp_st_row 30 _ _ rfl (carA y) rfl rfl (HasRow.of HXn11.out rfl) rfl (by simp [cfgA, carA, Value.oneCell']) (by kernel_rfl) ?_)
              intro w157 hw
              have HXn112 := Lib.hid (show Blk w157 bn11 30 (carA y) by rw [hw]; exact Blk.row HXn11.out _)
              have hHeld3 : (fun W : World => Since w W ∧ Blk W w.heap.size 23 (cfgA c) ∧ Blk W bn9 30 (carA x2)) w157 := ⟨by rw [hw]; exact Since.setRow hHeld.1 HGn11.out _, by rw [hw]; exact Blk.row_far (hHeld.2.1) (Ne.symm HNn11C.out) _, by rw [hw]; exact Blk.row_far (hHeld.2.2) (Ne.symm HNn11n9.out) _⟩
              refine no_implicit_lambda% (hK.out _ _ hHeld3 (fun hHeld2 => ?_))
              clear HXn11 hK K hHeld hHeld3 hw
              have hHeld := hHeld2
              clear hHeld2
              (try simp only [Act.put, sA, sB, sC])
              refine no_implicit_lambda% (wpAnyH_done (by kernel_rfl) ?_ _)
              have HSd7 := Lib.hid hHeld.1
              have HBCd7 := Lib.hid (hHeld.2.1)
              have HBn9d7 := Lib.hid (hHeld.2.2)
              clear hHeld HRK HRD HS154 HBC154 HBX2
              go_wp2_with fail
              go_meet
              case rel => exact Lib.hid ⟨bn11, rfl, HSd7.out, HBCd7.out, HBn9d7.out, HXn112.out, HGn11.out, HNn11C.out, HNn11n9.out⟩
            case g7__7b =>
              rw [if_pos (by rfl)]
              refine no_implicit_lambda% (wp_new (fun b => .pointer (some ⟨b, 0, none⟩)) 30 #[.int .i64 0, .int .i64 0, .int .i64 0, .int .i64 0, .int .i64 0, .int .i64 0, .int .i64 0, .bool false, .bool false, .int .i64 0, .int .i64 0, .bool false, .int .u64 0, .int .u64 0, .int .u64 0] (by rintro b rfl; first | rfl | kernel_rfl) ?_)
              intro bn11 w155 hge hB hb
              refine no_implicit_lambda% (hK.out _ _ (by (apply HRK.out; exact hb; exact hHeld)) (fun hHeld2 => ?_))
              have HNn11C := Lib.hid (show bn11 ≠ w.heap.size by have := Blk.lt (hHeld.2.1); (try simp at this); (try simp at hge); omega)
              have HNn11n9 := Lib.hid (show bn11 ≠ bn9 by have := Blk.lt (hHeld.2.2); (try simp at this); (try simp at hge); omega)
              have HGn11 := Lib.hid (show w.heap.size ≤ bn11 by have := Since.size hHeld.1; (try simp at this); (try simp at hge); omega)
              have HXn11 := Lib.hid hB
              clear hB
              clear hge
              clear hK K hHeld hb
              have hHeld := hHeld2
              clear hHeld2
              (try simp only [Act.put, sA, sB, sC])
              refine no_implicit_lambda% (wpAnyH_ready (rs := [6]) (by kernel_rfl) (by simp) ?_)
              refine AllReadyH.cons (o := ?o7_b7_6) ?h7_b7_6 (fun K hK => ?_) AllReadyH.nil
              case h7_b7_6 => (first | (simp only [gA, gB, gC]; done) | (simp only [gA, gB, gC]; exact rfl))
              (try go_simp)
              refine (HT.out _).mono ?_
              rintro e w156 ⟨rfl, hb⟩
              (try go_wp2_with fail)
              refine no_implicit_lambda% (hK.out _ _ (by (apply HRK.out; exact hb; exact hHeld)) (fun hHeld2 => ?_))
              have HXn112 := Lib.hid (keep_blk hb HXn11.out)
              clear HXn11
              clear hK K hHeld hb
              have hHeld := hHeld2
              clear hHeld2
              (try simp only [Act.put, sA, sB, sC])
              refine no_implicit_lambda% (wpAnyH_ready (rs := [8]) (by kernel_rfl) (by simp) ?_)
              refine AllReadyH.cons (o := ?o7_b7_8) ?h7_b7_8 (fun K hK => ?_) AllReadyH.nil
              case h7_b7_8 => (first | (simp only [gA, gB, gC]; done) | (simp only [gA, gB, gC]; exact rfl))
              rw [if_pos (by rfl)]
              refine no_implicit_lambda% (wp_st_row 30 _ _ rfl (carA y) rfl rfl (HasRow.of HXn112.out rfl) rfl (by simp [cfgA, carA, Value.oneCell']) (by kernel_rfl) ?_)
              intro w157 hw
              have HXn1122 := Lib.hid (show Blk w157 bn11 30 (carA y) by rw [hw]; exact Blk.row HXn112.out _)
              have hHeld3 : (fun W : World => Since w W ∧ Blk W w.heap.size 23 (cfgA c) ∧ Blk W bn9 30 (carA x2)) w157 := ⟨by rw [hw]; exact Since.setRow hHeld.1 HGn11.out _, by rw [hw]; exact Blk.row_far (hHeld.2.1) (Ne.symm HNn11C.out) _, by rw [hw]; exact Blk.row_far (hHeld.2.2) (Ne.symm HNn11n9.out) _⟩
              refine no_implicit_lambda% (hK.out _ _ hHeld3 (fun hHeld2 => ?_))
              clear HXn112 hK K hHeld hHeld3 hw
              have hHeld := hHeld2
              clear hHeld2
              (try simp only [Act.put, sA, sB, sC])
              refine no_implicit_lambda% (wpAnyH_done (by kernel_rfl) ?_ _)
              have HSd7 := Lib.hid hHeld.1
              have HBCd7 := Lib.hid (hHeld.2.1)
              have HBn9d7 := Lib.hid (hHeld.2.2)
              clear hHeld HRK HRD HS154 HBC154 HBX2
              go_wp2_with fail
              go_meet
              case rel => exact Lib.hid ⟨bn11, rfl, HSd7.out, HBCd7.out, HBn9d7.out, HXn1122.out, HGn11.out, HNn11C.out, HNn11n9.out⟩
          case rest =>
            clear HS154 HBC154 HBX2
            obtain ⟨bn11, rfl, g0, g1, g2, g3, g4, g5, g6⟩ := hcut.out
            clear hcut
            have HS204 := Lib.hid g0
            have HBC204 := Lib.hid g1
            have HBn9204 := Lib.hid g2
            have HBn11204 := Lib.hid g3
            have HGn11 := Lib.hid g4
            have HNn11C := Lib.hid g5
            have HNn11n9 := Lib.hid g6
            clear g0 g1 g2 g3 g4 g5 g6
            by_cases hu : y.un = x2.un
            · have HU := Lib.hid hu; clear hu
              go_upto_region 8 with fail
              refine no_implicit_lambda% (wp_region_lit ?_)
              refine no_implicit_lambda% (wpList_q (by rfl) (.pointer (some ⟨bn11, 2, none⟩)) ?he ?_)
              case he => (first | rfl | (go_simp; (try with_reducible rfl)))
              (try simp only [Act.put, sA, sB, sC])
              refine no_implicit_lambda% (wpList_q (by rfl) (.int .i64 y.un) ?he ?_)
              case he => exact exec_cell 3 _ _ HBn11204.out rfl rfl rfl Try.underlying3 rfl
              (try simp only [Act.put, sA, sB, sC])
              refine no_implicit_lambda% (wpList_q (by rfl) (.pointer (some ⟨bn9, 2, none⟩)) ?he ?_)
              case he => (first | rfl | (go_simp; (try with_reducible rfl)))
              (try simp only [Act.put, sA, sB, sC])
              refine no_implicit_lambda% (wpList_q (by rfl) (.int .i64 x2.un) ?he ?_)
              case he => exact exec_cell 3 _ _ HBn9204.out rfl rfl rfl Try.underlying3 rfl
              (try simp only [Act.put, sA, sB, sC])
              refine no_implicit_lambda% (wpList_q (by rfl) (.bool false) ?he ?_)
              case he => (have hq := HU.out; go_simp; (try with_reducible rfl))
              (try simp only [Act.put, sA, sB, sC])
              refine no_implicit_lambda% (wpList_q (by rfl) (.bool false) ?he ?_)
              case he => (first | rfl | (go_simp; (try with_reducible rfl)))
              (try simp only [Act.put, sA, sB, sC])
              refine no_implicit_lambda% (wpList_no (by rfl) ?_)
              (try simp only [Act.put, sA, sB, sC])
              refine no_implicit_lambda% (wpList_no (by rfl) ?_)
              (try simp only [Act.put, sA, sB, sC])
              refine no_implicit_lambda% (wpList_no (by rfl) ?_)
              (try simp only [Act.put, sA, sB, sC])
              refine no_implicit_lambda% (wpList_no (by rfl) ?_)
              (try simp only [Act.put, sA, sB, sC])
              refine no_implicit_lambda% (wpList_no (by rfl) ?_)
              (try simp only [Act.put, sA, sB, sC])
              refine no_implicit_lambda% (wpList_no (by rfl) ?_)
              (try simp only [Act.put, sA, sB, sC])
              refine no_implicit_lambda% (wpList_no (by rfl) ?_)
              (try simp only [Act.put, sA, sB, sC])
              refine no_implicit_lambda% (wpList_no (by rfl) ?_)
              (try simp only [Act.put, sA, sB, sC])
              refine no_implicit_lambda% (wpList_no (by rfl) ?_)
              (try simp only [Act.put, sA, sB, sC])
              refine no_implicit_lambda% (wpList_no (by rfl) ?_)
              (try simp only [Act.put, sA, sB, sC])
              refine no_implicit_lambda% (wpList_no (by rfl) ?_)
              (try simp only [Act.put, sA, sB, sC])
              refine no_implicit_lambda% (wpList_no (by rfl) ?_)
              (try simp only [Act.put, sA, sB, sC])
              refine no_implicit_lambda% (wpList_no (by rfl) ?_)
              (try simp only [Act.put, sA, sB, sC])
              refine no_implicit_lambda% (wpList_no (by rfl) ?_)
              (try simp only [Act.put, sA, sB, sC])
              refine no_implicit_lambda% (wpList_q (by rfl) (.bool false) ?he ?_)
              case he => (first | rfl | (go_simp; (try with_reducible rfl)))
              (try simp only [Act.put, sA, sB, sC])
              refine no_implicit_lambda% (wpList_nil ?_)
              go_upto_region 10 with fail
              refine no_implicit_lambda% (wp_region_lit ?_)
              refine no_implicit_lambda% (wpList_q (by rfl) (.agg (carA y)) ?he ?_)
              case he => exact exec_load_row 30 _ _ HBn11204.out rfl rfl Try.underlying30 rfl (by kernel_rfl)
              (try simp only [Act.put, sA, sB, sC])
              refine no_implicit_lambda% (wpList_wp (by rfl) (fun K hK => ?_))
              (try go_simp)
              refine (HSAFE.out _).mono ?_
              rintro e w205 ⟨rfl, hb⟩
              (try go_wp2_with fail)
              refine no_implicit_lambda% (hK.out _ _ ?_)
              clear hK K
              (try simp only [Act.put, sA, sB, sC])
              have HS205 := Lib.hid (Since.trans HS204.out hb)
              have HBC205 := Lib.hid (keep_blk hb HBC204.out)
              have HBn9205 := Lib.hid (keep_blk hb HBn9204.out)
              have HBn11205 := Lib.hid (keep_blk hb HBn11204.out)
              clear HS204 HBC204 HBn9204 HBn11204
              clear hb
              refine no_implicit_lambda% (wpList_q (by rfl) (.bool false) ?he ?_)
              case he => (go_simp; (try with_reducible rfl))
              (try simp only [Act.put, sA, sB, sC])
              refine no_implicit_lambda% (wpList_q (by rfl) (.bool false) ?he ?_)
              case he => (first | rfl | (go_simp; (try with_reducible rfl)))
              (try simp only [Act.put, sA, sB, sC])
              refine no_implicit_lambda% (wpList_q (by rfl) (.pointer (some ⟨bn11, 2, none⟩)) ?he ?_)
              case he => (first | rfl | (go_simp; (try with_reducible rfl)))
              (try simp only [Act.put, sA, sB, sC])
              refine no_implicit_lambda% (wpList_q (by rfl) (.int .i64 y.un) ?he ?_)
              case he => exact exec_cell 3 _ _ HBn11205.out rfl rfl rfl Try.underlying3 rfl
              (try simp only [Act.put, sA, sB, sC])
              refine no_implicit_lambda% (wpList_q (by rfl) (.pointer (some ⟨bn9, 2, none⟩)) ?he ?_)
              case he => (first | rfl | (go_simp; (try with_reducible rfl)))
              (try simp only [Act.put, sA, sB, sC])
              refine no_implicit_lambda% (wpList_q (by rfl) (.int .i64 x2.un) ?he ?_)
              case he => exact exec_cell 3 _ _ HBn9205.out rfl rfl rfl Try.underlying3 rfl
              (try simp only [Act.put, sA, sB, sC])
              refine no_implicit_lambda% (wpList_q (by rfl) (.int .i64 (y.un - x2.un)) ?he ?_)
              case he => (go_simp; (first | done | (refine wr64 _ ?_ ?_ <;> (have q0 := HBD.out; omega)) | (have q0 := HBD.out; omega) | (have q0 := HBD.out; split <;> omega) | (have q0 := HBD.out; intro hh; omega)))
              (try simp only [Act.put, sA, sB, sC])
              refine no_implicit_lambda% (wpList_q (by rfl) (.bool false) ?he ?_)
              case he => (have q := HSF.out; go_simp; (first | done | omega))
              (try simp only [Act.put, sA, sB, sC])
              refine no_implicit_lambda% (wpList_q (by rfl) (.bool false) ?he ?_)
              case he => (first | rfl | (go_simp; (try with_reducible rfl)))
              (try simp only [Act.put, sA, sB, sC])
              refine no_implicit_lambda% (wpList_q (by rfl) (.bool false) ?he ?_)
              case he => (first | rfl | (go_simp; (try with_reducible rfl)))
              (try simp only [Act.put, sA, sB, sC])
              refine no_implicit_lambda% (wpList_q (by rfl) (.pointer (some ⟨bn9, 2, none⟩)) ?he ?_)
              case he => (first | rfl | (go_simp; (try with_reducible rfl)))
              (try simp only [Act.put, sA, sB, sC])
              refine no_implicit_lambda% (wpList_q (by rfl) (.int .i64 x2.un) ?he ?_)
              case he => exact exec_cell 3 _ _ HBn9205.out rfl rfl rfl Try.underlying3 rfl
              (try simp only [Act.put, sA, sB, sC])
              refine no_implicit_lambda% (wpList_q (by rfl) (.pointer (some ⟨bn11, 2, none⟩)) ?he ?_)
              case he => (first | rfl | (go_simp; (try with_reducible rfl)))
              (try simp only [Act.put, sA, sB, sC])
              refine no_implicit_lambda% (wpList_q (by rfl) (.int .i64 y.un) ?he ?_)
              case he => exact exec_cell 3 _ _ HBn11205.out rfl rfl rfl Try.underlying3 rfl
              (try simp only [Act.put, sA, sB, sC])
              refine no_implicit_lambda% (wpList_q (by rfl) (.int .i64 (x2.un - y.un)) ?he ?_)
              case he => (go_simp; (first | done | (refine wr64 _ ?_ ?_ <;> (have q0 := HBD.out; omega)) | (have q0 := HBD.out; omega) | (have q0 := HBD.out; split <;> omega) | (have q0 := HBD.out; intro hh; omega)))
              (try simp only [Act.put, sA, sB, sC])
              refine no_implicit_lambda% (wpList_q (by rfl) (.bool false) ?he ?_)
              case he => (have q := HSF.out; go_simp; (first | done | omega))
              (try simp only [Act.put, sA, sB, sC])
              refine no_implicit_lambda% (wpList_q (by rfl) (.bool false) ?he ?_)
              case he => (first | rfl | (go_simp; (try with_reducible rfl)))
              (try simp only [Act.put, sA, sB, sC])
              refine no_implicit_lambda% (wpList_nil ?_)
              go_upto_region 12 with fail
              refine no_implicit_lambda% (wp_region_lit ?_)
              refine no_implicit_lambda% (wpList_q (by rfl) (.agg (carA y)) ?he ?_)
              case he => exact exec_load_row 30 _ _ HBn11205.out rfl rfl Try.underlying30 rfl (by kernel_rfl)
              (try simp only [Act.put, sA, sB, sC])
              refine no_implicit_lambda% (wpList_wp (by rfl) (fun K hK => ?_))
              refine no_implicit_lambda% (wp_st_row 30 _ _ rfl (carA y) rfl rfl (HasRow.of HBn9205.out rfl) rfl (by simp [cfgA, carA, Value.oneCell']) (by kernel_rfl) ?_)
              intro w206 hw
              refine no_implicit_lambda% (hK.out _ _ ?_)
              clear hK K
              (try simp only [Act.put, sA, sB, sC])
              have HS206 := Lib.hid (show Since w w206 by rw [hw]; exact Since.setRow HS205.out HGn9.out _)
              have HBC206 := Lib.hid (show Blk w206 w.heap.size 23 (cfgA c) by rw [hw]; exact Blk.row_far HBC205.out (Ne.symm HNn9C.out) _)
              have HBn9206 := Lib.hid (show Blk w206 bn9 30 (carA y) by rw [hw]; exact Blk.row HBn9205.out _)
              have HBn11206 := Lib.hid (show Blk w206 bn11 30 (carA y) by rw [hw]; exact Blk.row_far HBn11205.out HNn11n9.out _)
              clear hw HS205 HBC205 HBn9205 HBn11205
              refine no_implicit_lambda% (wpList_nil ?_)
              go_wp2_with fail
              go_roundw
              case rel => exact ⟨k + 1, y, by omega, by go_num, Lib.hid ⟨HGY.out, HS206.out, HBC206.out, HBn9206.out⟩⟩
              case measure => simp [intOf]; omega
            · have HU := Lib.hid hu; clear hu
              have HM3 := Lib.hid (show x2.ds = 0 ∧ y.ds = 0 ∧ x2.br = false by rcases HSF.out.2.2 with h | h; exact absurd h HU.out; exact h)
              go_upto_region 8 with fail
              refine no_implicit_lambda% (wp_region_lit ?_)
              refine no_implicit_lambda% (wpList_q (by rfl) (.pointer (some ⟨bn11, 2, none⟩)) ?he ?_)
              case he => (first | rfl | (go_simp; (try with_reducible rfl)))
              (try simp only [Act.put, sA, sB, sC])
              refine no_implicit_lambda% (wpList_q (by rfl) (.int .i64 y.un) ?he ?_)
              case he => exact exec_cell 3 _ _ HBn11204.out rfl rfl rfl Try.underlying3 rfl
              (try simp only [Act.put, sA, sB, sC])
              refine no_implicit_lambda% (wpList_q (by rfl) (.pointer (some ⟨bn9, 2, none⟩)) ?he ?_)
              case he => (first | rfl | (go_simp; (try with_reducible rfl)))
              (try simp only [Act.put, sA, sB, sC])
              refine no_implicit_lambda% (wpList_q (by rfl) (.int .i64 x2.un) ?he ?_)
              case he => exact exec_cell 3 _ _ HBn9204.out rfl rfl rfl Try.underlying3 rfl
              (try simp only [Act.put, sA, sB, sC])
              refine no_implicit_lambda% (wpList_q (by rfl) (.bool true) ?he ?_)
              case he => (have hq := HU.out; go_simp; (try with_reducible rfl))
              (try simp only [Act.put, sA, sB, sC])
              refine no_implicit_lambda% (wpList_q (by rfl) (.bool true) ?he ?_)
              case he => (first | rfl | (go_simp; (try with_reducible rfl)))
              (try simp only [Act.put, sA, sB, sC])
              refine no_implicit_lambda% (wpList_q (by rfl) (.pointer (some ⟨bn9, 0, none⟩)) ?he ?_)
              case he => (first | rfl | (go_simp; (try with_reducible rfl)))
              (try simp only [Act.put, sA, sB, sC])
              refine no_implicit_lambda% (wpList_q (by rfl) (.pointer (some ⟨bn9, 0, none⟩)) ?he ?_)
              case he => (first | rfl | (go_simp; (try with_reducible rfl)))
              (try simp only [Act.put, sA, sB, sC])
              refine no_implicit_lambda% (wpList_q (by rfl) (.int .i64 x2.ds) ?he ?_)
              case he => exact exec_cell 3 _ _ HBn9204.out rfl rfl rfl Try.underlying3 rfl
              (try simp only [Act.put, sA, sB, sC])
              refine no_implicit_lambda% (wpList_q (by rfl) (.bool false) ?he ?_)
              case he => (have hq := HM3.out.1; go_simp; (try with_reducible rfl))
              (try simp only [Act.put, sA, sB, sC])
              refine no_implicit_lambda% (wpList_q (by rfl) (.bool false) ?he ?_)
              case he => (first | rfl | (go_simp; (try with_reducible rfl)))
              (try simp only [Act.put, sA, sB, sC])
              refine no_implicit_lambda% (wpList_q (by rfl) (.pointer (some ⟨bn11, 0, none⟩)) ?he ?_)
              case he => (first | rfl | (go_simp; (try with_reducible rfl)))
              (try simp only [Act.put, sA, sB, sC])
              refine no_implicit_lambda% (wpList_q (by rfl) (.pointer (some ⟨bn11, 0, none⟩)) ?he ?_)
              case he => (first | rfl | (go_simp; (try with_reducible rfl)))
              (try simp only [Act.put, sA, sB, sC])
              refine no_implicit_lambda% (wpList_q (by rfl) (.int .i64 y.ds) ?he ?_)
              case he => exact exec_cell 3 _ _ HBn11204.out rfl rfl rfl Try.underlying3 rfl
              (try simp only [Act.put, sA, sB, sC])
              refine no_implicit_lambda% (wpList_q (by rfl) (.bool false) ?he ?_)
              case he => (have hq := HM3.out.2.1; go_simp; (try with_reducible rfl))
              (try simp only [Act.put, sA, sB, sC])
              refine no_implicit_lambda% (wpList_q (by rfl) (.bool false) ?he ?_)
              case he => (first | rfl | (go_simp; (try with_reducible rfl)))
              (try simp only [Act.put, sA, sB, sC])
              refine no_implicit_lambda% (wpList_q (by rfl) (.bool false) ?he ?_)
              case he => (first | rfl | (go_simp; (try with_reducible rfl)))
              (try simp only [Act.put, sA, sB, sC])
              refine no_implicit_lambda% (wpList_q (by rfl) (.pointer (some ⟨bn9, 8, none⟩)) ?he ?_)
              case he => (first | rfl | (go_simp; (try with_reducible rfl)))
              (try simp only [Act.put, sA, sB, sC])
              refine no_implicit_lambda% (wpList_q (by rfl) (.bool x2.br) ?he ?_)
              case he => exact exec_cell 4 _ _ HBn9204.out rfl rfl rfl Try.underlying4 rfl
              (try simp only [Act.put, sA, sB, sC])
              refine no_implicit_lambda% (wpList_q (by rfl) (.bool false) ?he ?_)
              case he => (have hq := HM3.out.2.2; go_simp; (try with_reducible rfl))
              (try simp only [Act.put, sA, sB, sC])
              refine no_implicit_lambda% (wpList_q (by rfl) (.bool false) ?he ?_)
              case he => (first | rfl | (go_simp; (try with_reducible rfl)))
              (try simp only [Act.put, sA, sB, sC])
              refine no_implicit_lambda% (wpList_nil ?_)
              go_upto_region 10 with fail
              refine no_implicit_lambda% (wp_region_lit ?_)
              refine no_implicit_lambda% (wpList_q (by rfl) (.agg (carA y)) ?he ?_)
              case he => exact exec_load_row 30 _ _ HBn11204.out rfl rfl Try.underlying30 rfl (by kernel_rfl)
              (try simp only [Act.put, sA, sB, sC])
              refine no_implicit_lambda% (wpList_wp (by rfl) (fun K hK => ?_))
              (try go_simp)
              refine (HSAFE.out _).mono ?_
              rintro e w205 ⟨rfl, hb⟩
              (try go_wp2_with fail)
              refine no_implicit_lambda% (hK.out _ _ ?_)
              clear hK K
              (try simp only [Act.put, sA, sB, sC])
              have HS205 := Lib.hid (Since.trans HS204.out hb)
              have HBC205 := Lib.hid (keep_blk hb HBC204.out)
              have HBn9205 := Lib.hid (keep_blk hb HBn9204.out)
              have HBn11205 := Lib.hid (keep_blk hb HBn11204.out)
              clear HS204 HBC204 HBn9204 HBn11204
              clear hb
              refine no_implicit_lambda% (wpList_q (by rfl) (.bool false) ?he ?_)
              case he => (go_simp; (try with_reducible rfl))
              (try simp only [Act.put, sA, sB, sC])
              refine no_implicit_lambda% (wpList_q (by rfl) (.bool false) ?he ?_)
              case he => (first | rfl | (go_simp; (try with_reducible rfl)))
              (try simp only [Act.put, sA, sB, sC])
              refine no_implicit_lambda% (wpList_q (by rfl) (.pointer (some ⟨bn11, 2, none⟩)) ?he ?_)
              case he => (first | rfl | (go_simp; (try with_reducible rfl)))
              (try simp only [Act.put, sA, sB, sC])
              refine no_implicit_lambda% (wpList_q (by rfl) (.int .i64 y.un) ?he ?_)
              case he => exact exec_cell 3 _ _ HBn11205.out rfl rfl rfl Try.underlying3 rfl
              (try simp only [Act.put, sA, sB, sC])
              refine no_implicit_lambda% (wpList_q (by rfl) (.pointer (some ⟨bn9, 2, none⟩)) ?he ?_)
              case he => (first | rfl | (go_simp; (try with_reducible rfl)))
              (try simp only [Act.put, sA, sB, sC])
              refine no_implicit_lambda% (wpList_q (by rfl) (.int .i64 x2.un) ?he ?_)
              case he => exact exec_cell 3 _ _ HBn9205.out rfl rfl rfl Try.underlying3 rfl
              (try simp only [Act.put, sA, sB, sC])
              refine no_implicit_lambda% (wpList_q (by rfl) (.int .i64 (y.un - x2.un)) ?he ?_)
              case he => (go_simp; (first | done | (refine wr64 _ ?_ ?_ <;> (have q0 := HBD.out; omega)) | (have q0 := HBD.out; omega) | (have q0 := HBD.out; split <;> omega) | (have q0 := HBD.out; intro hh; omega)))
              (try simp only [Act.put, sA, sB, sC])
              refine no_implicit_lambda% (wpList_q (by rfl) (.bool false) ?he ?_)
              case he => (have q := HSF.out; go_simp; (first | done | omega))
              (try simp only [Act.put, sA, sB, sC])
              refine no_implicit_lambda% (wpList_q (by rfl) (.bool false) ?he ?_)
              case he => (first | rfl | (go_simp; (try with_reducible rfl)))
              (try simp only [Act.put, sA, sB, sC])
              refine no_implicit_lambda% (wpList_q (by rfl) (.bool false) ?he ?_)
              case he => (first | rfl | (go_simp; (try with_reducible rfl)))
              (try simp only [Act.put, sA, sB, sC])
              refine no_implicit_lambda% (wpList_q (by rfl) (.pointer (some ⟨bn9, 2, none⟩)) ?he ?_)
              case he => (first | rfl | (go_simp; (try with_reducible rfl)))
              (try simp only [Act.put, sA, sB, sC])
              refine no_implicit_lambda% (wpList_q (by rfl) (.int .i64 x2.un) ?he ?_)
              case he => exact exec_cell 3 _ _ HBn9205.out rfl rfl rfl Try.underlying3 rfl
              (try simp only [Act.put, sA, sB, sC])
              refine no_implicit_lambda% (wpList_q (by rfl) (.pointer (some ⟨bn11, 2, none⟩)) ?he ?_)
              case he => (first | rfl | (go_simp; (try with_reducible rfl)))
              (try simp only [Act.put, sA, sB, sC])
              refine no_implicit_lambda% (wpList_q (by rfl) (.int .i64 y.un) ?he ?_)
              case he => exact exec_cell 3 _ _ HBn11205.out rfl rfl rfl Try.underlying3 rfl
              (try simp only [Act.put, sA, sB, sC])
              refine no_implicit_lambda% (wpList_q (by rfl) (.int .i64 (x2.un - y.un)) ?he ?_)
              case he => (go_simp; (first | done | (refine wr64 _ ?_ ?_ <;> (have q0 := HBD.out; omega)) | (have q0 := HBD.out; omega) | (have q0 := HBD.out; split <;> omega) | (have q0 := HBD.out; intro hh; omega)))
              (try simp only [Act.put, sA, sB, sC])
              refine no_implicit_lambda% (wpList_q (by rfl) (.bool false) ?he ?_)
              case he => (have q := HSF.out; go_simp; (first | done | omega))
              (try simp only [Act.put, sA, sB, sC])
              refine no_implicit_lambda% (wpList_q (by rfl) (.bool false) ?he ?_)
              case he => (first | rfl | (go_simp; (try with_reducible rfl)))
              (try simp only [Act.put, sA, sB, sC])
              refine no_implicit_lambda% (wpList_nil ?_)
              go_upto_region 12 with fail
              refine no_implicit_lambda% (wp_region_lit ?_)
              refine no_implicit_lambda% (wpList_q (by rfl) (.agg (carA y)) ?he ?_)
              case he => exact exec_load_row 30 _ _ HBn11205.out rfl rfl Try.underlying30 rfl (by kernel_rfl)
              (try simp only [Act.put, sA, sB, sC])
              refine no_implicit_lambda% (wpList_wp (by rfl) (fun K hK => ?_))
              refine no_implicit_lambda% (wp_st_row 30 _ _ rfl (carA y) rfl rfl (HasRow.of HBn9205.out rfl) rfl (by simp [cfgA, carA, Value.oneCell']) (by kernel_rfl) ?_)
              intro w206 hw
              refine no_implicit_lambda% (hK.out _ _ ?_)
              clear hK K
              (try simp only [Act.put, sA, sB, sC])
              have HS206 := Lib.hid (show Since w w206 by rw [hw]; exact Since.setRow HS205.out HGn9.out _)
              have HBC206 := Lib.hid (show Blk w206 w.heap.size 23 (cfgA c) by rw [hw]; exact Blk.row_far HBC205.out (Ne.symm HNn9C.out) _)
              have HBn9206 := Lib.hid (show Blk w206 bn9 30 (carA y) by rw [hw]; exact Blk.row HBn9205.out _)
              have HBn11206 := Lib.hid (show Blk w206 bn11 30 (carA y) by rw [hw]; exact Blk.row_far HBn11205.out HNn11n9.out _)
              clear hw HS205 HBC205 HBn9205 HBn11205
              refine no_implicit_lambda% (wpList_nil ?_)
              go_wp2_with fail
              go_roundw
              case rel => exact ⟨k + 1, y, by omega, by go_num, Lib.hid ⟨HGY.out, HS206.out, HBC206.out, HBn9206.out⟩⟩
              case measure => simp [intOf]; omega
    · have hend : decide ((k : Int) < (len : Int)) = false ∨ decide ((k : Int) < (len : Int)) = true ∧ ¬ ((k : Int) < 500) := by by_cases h : (k : Int) < (len : Int); (exact .inr ⟨decide_eq_true h, by omega⟩); exact .inl (decide_eq_false h)
      rcases hend with he | ⟨he, he2⟩
      · skip
        have hx1 : ¬ ((k : Int) < (len : Int)) := of_decide_eq_false he
        go_upto_region 13 with fail
        refine no_implicit_lambda% (wp_region_lit ?_)
        refine no_implicit_lambda% (wpList_wp (by rfl) (fun K hK => ?_))
        (try go_simp)
        refine (ans _).mono ?_
        rintro e w55 ⟨rfl, hb⟩
        (try go_wp2_with fail)
        refine no_implicit_lambda% (hK.out _ _ ?_)
        clear hK K
        (try simp only [Act.put, sA, sB, sC])
        have HS55 := Lib.hid (Since.trans HS54.out hb)
        have HBC55 := Lib.hid (keep_blk hb HBC54.out)
        have HBn955 := Lib.hid (keep_blk hb HBn954.out)
        clear HS54 HBC54 HBn954
        clear hb
        refine no_implicit_lambda% (wpList_q (by rfl) (.bool true) ?he ?_)
        case he => (first | rfl | (go_simp; (try with_reducible rfl)))
        (try simp only [Act.put, sA, sB, sC])
        refine no_implicit_lambda% (wpList_nil ?_)
        (try go_wp2_with fail)
        go_ret
        exact ⟨rfl, HS55.out⟩
      · skip
        have hx1 : (k : Int) < (len : Int) := of_decide_eq_true he
        go_upto_region 13 with fail
        refine no_implicit_lambda% (wp_region_lit ?_)
        refine no_implicit_lambda% (wpList_wp (by rfl) (fun K hK => ?_))
        (try go_simp)
        refine (ans _).mono ?_
        rintro e w55 ⟨rfl, hb⟩
        (try go_wp2_with fail)
        refine no_implicit_lambda% (hK.out _ _ ?_)
        clear hK K
        (try simp only [Act.put, sA, sB, sC])
        have HS55 := Lib.hid (Since.trans HS54.out hb)
        have HBC55 := Lib.hid (keep_blk hb HBC54.out)
        have HBn955 := Lib.hid (keep_blk hb HBn954.out)
        clear HS54 HBC54 HBn954
        clear hb
        refine no_implicit_lambda% (wpList_q (by rfl) (.bool true) ?he ?_)
        case he => (first | rfl | (go_simp; (try with_reducible rfl)))
        (try simp only [Act.put, sA, sB, sC])
        refine no_implicit_lambda% (wpList_nil ?_)
        (try go_wp2_with fail)
        go_ret
        exact ⟨rfl, HS55.out⟩
theorem lockedF {H : Type} {enc : TypeId × Value → H} {x0 x1 x2 : DataW H × List MemPlace} (cca cfl cft cse cdr cdw cho cre cyi cqu cqo clo csl crt ccp ctr cde cwi : Int) (a0 : Option Addr) (len0 cap0 : Nat) (a1 : Option Addr) (len1 cap1 : Nat) (a2 : Option Addr) (len2 cap2 : Nat) (w : World) (_ : (Lit.int .i64 cca).wf = true) (_ : (Lit.int .i64 cfl).wf = true) (_ : (Lit.int .i64 cft).wf = true) (_ : (Lit.int .i64 cse).wf = true) (_ : (Lit.int .i64 cdr).wf = true) (_ : (Lit.int .i64 cdw).wf = true) (_ : (Lit.int .i64 cho).wf = true) (_ : (Lit.int .i64 cre).wf = true) (_ : (Lit.int .i64 cyi).wf = true) (_ : (Lit.int .i64 cqu).wf = true) (_ : (Lit.int .i64 cqo).wf = true) (_ : (Lit.int .i64 clo).wf = true) (_ : (Lit.int .i64 csl).wf = true) (_ : (Lit.int .i64 crt).wf = true) (_ : (Lit.int .i64 ccp).wf = true) (_ : (Lit.int .i64 ctr).wf = true) (_ : (Lit.int .i64 cde).wf = true) (_ : (Lit.int .i64 cwi).wf = true)
    (h0 : ∃ m, DataW.trod enc Try.prog w 0 (fun _ => true) true m 38 (Value.cells (.slice a0 len0 cap0)).toList = some x0) (h1 : ∃ m, DataW.trod enc Try.prog w 0 (fun _ => true) true m 39 (Value.cells (.slice a1 len1 cap1)).toList = some x1) (h2 : ∃ m, DataW.trod enc Try.prog w 0 (fun _ => true) true m 39 (Value.cells (.slice a2 len2 cap2)).toList = some x2) :
    Calls Try.prog 4 #[.agg #[.int .i64 cca, .int .i64 cfl, .int .i64 cft, .int .i64 cse, .int .i64 cdr, .int .i64 cdw, .int .i64 cho, .int .i64 cre, .int .i64 cyi, .int .i64 cqu, .int .i64 cqo, .int .i64 clo, .int .i64 csl, .int .i64 crt, .int .i64 ccp, .int .i64 ctr, .int .i64 cde, .int .i64 cwi], .slice a0 len0 cap0, .slice a1 len1 cap1, .slice a2 len2 cap2] w fun e w' => e = .returned (.bool true) ∧ Since w w' := by
  obtain ⟨m0, h0⟩ := h0
  obtain ⟨m1, h1⟩ := h1
  obtain ⟨m2, h2⟩ := h2
  obtain ⟨ms, hM, hl⟩ := MV.open_ h0
  obtain ⟨bs1, hX1, hl1⟩ := BoV.open_ h1
  obtain ⟨bs2, hX2, hl2⟩ := BoV.open_ h2
  exact locked ⟨cca, cfl, cft, cse, cdr, cdw, cho, cre, cyi, cqu, cqo, clo, csl, crt, ccp, ctr, cde, cwi⟩ a0 len0 cap0 ms a1 len1 cap1 bs1 a2 len2 cap2 bs2 w hM hl hX1 hl1 hX2 hl2
end Go.Proofs.Ytfbnmoegdbdhjaa.Pl
