/-
  RidePhases, walked.
  No condition.
-/
import Derived.Test.YtggafipgfgbbiaaRidA
import Derived.Test.YtggafipgfgbbiaaMsgL
import Derived.Test.YtggafipgfgbbiaaExt
import Derived.Test.YtggafipgfgbbiaaCarL
import Derived.Test.YtggafipgfgbbiaaByt
namespace Go.Proofs.Ytggafipgfgbbiaa.Ri
set_option linter.unusedVariables false
set_option linter.unusedSimpArgs false
open Go.RowKit Go.Proofs.Ytggafipgfgbbiaa.Ba Go.Proofs.Ytggafipgfgbbiaa.Mo Go.Proofs.Ytggafipgfgbbiaa.Ty Go.Proofs.Ytggafipgfgbbiaa.Mem Go.Proofs.Ytggafipgfgbbiaa.Tm Go.Proofs.Ytggafipgfgbbiaa.Tw
open Go.Proofs.Ytggafipgfgbbiaa.Ce (ms ms_lo ms_hi massT nearT nr)
open Go.Proofs.Ytggafipgfgbbiaa.Fl (massR)
open Go.Proofs.Ytggafipgfgbbiaa.Gl (Msgs)
open Go.Proofs.Ytggafipgfgbbiaa.Cs (CV carC)
open Go.Proofs.Ytggafipgfgbbiaa.Byt (BV isB)
set_option maxRecDepth 100000
/-- A lease behind a step: it is the same one; its phase goes on by one at most; it was renewed no less often. -/
def Nx (l : LeaseV) (ph re : Int) : Prop := l.ph ≤ ph ∧ ph ≤ l.ph + 1 ∧ 1 ≤ ph ∧ ph ≤ 4 ∧ l.re ≤ re ∧ re ≤ 9223372036854775807
def Ok (l a : LeaseV) : Prop := ∃ ph un re : Int, a = ⟨l.se, l.fl, l.fm, l.to, l.ma, l.ca, ph, un, re, l.gr⟩ ∧ Nx l ph re
theorem ok_same (l : LeaseV) (h1 : 1 ≤ l.ph) (h4 : l.ph ≤ 4) (hr : l.re ≤ 9223372036854775807) : Ok l ⟨l.se, l.fl, l.fm, l.to, l.ma, l.ca, l.ph, l.un, l.re, l.gr⟩ := ⟨_, _, _, rfl, by omega, by omega, h1, h4, by omega, hr⟩
theorem tick_ok (c : CfgV) (l : LeaseV) (x : CarV) (now : Int) (h1 : 1 ≤ l.ph) (h4 : l.ph ≤ 4) (hr : l.re ≤ 9223372036854775807) : Ok l (tickV c l x now).1 := by
  unfold tickV
  split
  · exact ok_same l h1 h4 hr
  · split
    · rename_i h; exact ⟨_, _, _, rfl, by have := h.1; omega, by have := h.1; omega, by omega, by omega, by omega, hr⟩
    · split
      · rename_i h; exact ⟨_, _, _, rfl, by have := h.1; omega, by have := h.1; omega, by omega, by omega, by omega, hr⟩
      · exact ok_same l h1 h4 hr
theorem hear_ok (c : CfgV) (l : LeaseV) (x : CarV) (now : Int) (m : MsgV) (h1 : 1 ≤ l.ph) (h4 : l.ph ≤ 4) (hr0 : -9223372036854775808 ≤ l.re) (hr : l.re ≤ 9223372036854775807) : Ok l (hearV c l x now m).1 := by
  unfold hearV
  split
  · rename_i h
    split
    · exact ⟨_, _, _, rfl, by have := h.2; omega, by have := h.2; omega, by omega, by omega, by omega, hr⟩
    · exact ok_same l h1 h4 hr
  · split
    · exact ok_same l h1 h4 hr
    · split
      · rename_i h
        have hm : l.re < rn c.re := by
          have := h.2
          unfold mayRe at this
          simp at this
          exact this.2
        have := rn_hi c.re
        exact ⟨_, _, _, rfl, by omega, by omega, h1, h4, by rw [wr (l.re + 1) (by omega) (by omega)]; omega, by rw [wr (l.re + 1) (by omega) (by omega)]; omega⟩
      · exact ok_same l h1 h4 hr
def StepP (l : LeaseV) (W : World) (e : Ending) (w' : World) : Prop := ∃ (v : Value) (ph un re : Int) (ov : Bool), e = .returned (.tuple #[.agg (leaA ⟨l.se, l.fl, l.fm, l.to, l.ma, l.ca, ph, un, re, l.gr⟩), v, .bool ov]) ∧ Nx l ph re ∧ Since W w'
theorem said_p {l : LeaseV} {r : LeaseV × Option MsgV × Bool} {W : World} {e : Ending} {w' : World} (hok : Ok l r.1) (h : Said W r e w') : StepP l W e w' := by
  obtain ⟨a, o, ov⟩ := r
  obtain ⟨v, he, _, hb⟩ := h
  obtain ⟨ph, un, re, ha, hn⟩ := hok
  subst ha
  exact ⟨v, ph, un, re, ov, he, hn, hb⟩
theorem tickP (c : CfgV) (l : LeaseV) (x : CarV) (now : Int) (h1 : 1 ≤ l.ph) (h4 : l.ph ≤ 4) (hr : l.re ≤ 9223372036854775807) (W : World) : Calls Try.prog 50 #[.agg (cfgA c), .agg (leaA l), .agg (carA x), .int .i64 now] W (StepP l W) :=
  (tickT c l x now W).mono fun _ _ h => said_p (tick_ok c l x now h1 h4 hr) h
theorem hearP (c : CfgV) (l : LeaseV) (x : CarV) (now : Int) (m : MsgV) (h1 : 1 ≤ l.ph) (h4 : l.ph ≤ 4) (hr0 : -9223372036854775808 ≤ l.re) (hr : l.re ≤ 9223372036854775807) (W : World) : Calls Try.prog 57 #[.agg (cfgA c), .agg (leaA l), .agg (carA x), .int .i64 now, .agg (msgC m)] W (StepP l W) :=
  (hearT c l x now m W).mono fun _ _ h => said_p (hear_ok c l x now m h1 h4 hr0 hr) h
set_option maxHeartbeats 4000000 in
theorem phX0 (c : CfgV) (l : LeaseV) (a2 : Option Addr) (len2 cap2 : Nat) (cs : Nat → CarV) (a3 : Option Addr) (len3 cap3 : Nat) (gs : Nat → MsgV) (a4 : Option Addr) (len4 cap4 : Nat) (zs : List Int) (w : World) (hC : CV w a2 len2 cs) (hl2 : len2 ≤ 9223372036854775807) (hG : Msgs w a3 len3 gs) (hl3 : len3 ≤ 9223372036854775807) (hZ : BV w a4 len4 zs) (hr0 : -9223372036854775808 ≤ l.re) (hr1 : l.re ≤ 9223372036854775807) (h0 : l.ph < 1) : Calls Try.prog 13 #[.agg #[.int .i64 c.ca, .int .i64 c.fl, .int .i64 c.ft, .int .i64 c.se, .int .i64 c.dr, .int .i64 c.dw, .int .i64 c.ho, .int .i64 c.re, .int .i64 c.yi, .int .i64 c.qu, .int .i64 c.qo, .int .i64 c.lo, .int .i64 c.sl, .int .i64 c.rt, .int .i64 c.cp, .int .i64 c.tr, .int .i64 c.de, .int .i64 c.wi], .agg #[.int .i64 l.se, .int .i64 l.fl, .int .i64 l.fm, .int .i64 l.to, .int .i64 l.ma, .int .i64 l.ca, .int .i64 l.ph, .int .i64 l.un, .int .i64 l.re, .int .i64 l.gr], .slice a2 len2 cap2, .slice a3 len3 cap3, .slice a4 len4 cap4] w fun e w' => e = .returned (.bool true) ∧ Since w w' := by
  have hlI2 : (len2 : Int) ≤ 9223372036854775807 := by omega
  have hlI3 : (len3 : Int) ≤ 9223372036854775807 := by omega
  have hlI4 : (len4 : Int) ≤ 9223372036854775807 := by have := hZ.2.1; omega
  have HCV := Lib.hid hC; have HGV := Lib.hid hG; have HZV := Lib.hid hZ
  clear hC hG hZ
  have HRE := Lib.hid (And.intro hr0 hr1)
  clear hr0 hr1
  have H0 := Lib.hid h0
  clear h0
  go_enter Try.func13, Try.ntmps13
  go_upto_region 1 with fail
  obtain ⟨w1, hw1⟩ : ∃ w1, w1 = ((w.alloc (.cells #[.int .i64 c.ca, .int .i64 c.fl, .int .i64 c.ft, .int .i64 c.se, .int .i64 c.dr, .int .i64 c.dw, .int .i64 c.ho, .int .i64 c.re, .int .i64 c.yi, .int .i64 c.qu, .int .i64 c.qo, .int .i64 c.lo, .int .i64 c.sl, .int .i64 c.rt, .int .i64 c.cp, .int .i64 c.tr, .int .i64 c.de, .int .i64 c.wi] 23)).alloc (.cells #[.int .i64 l.se, .int .i64 l.fl, .int .i64 l.fm, .int .i64 l.to, .int .i64 l.ma, .int .i64 l.ca, .int .i64 l.ph, .int .i64 l.un, .int .i64 l.re, .int .i64 l.gr] 56)) := ⟨_, rfl⟩
  rw [← hw1]
  have HBC1 := Lib.hid (show Blk w1 (w.heap.size) 23 (cfgA c) by rw [hw1]; exact Blk.alloc (Blk.at_ (by (try simp only [size_alloc])) _ _) _)
  have HBL1 := Lib.hid (show Blk w1 (w.heap.size + 1) 56 (leaA l) by rw [hw1]; exact Blk.at_ (by (try simp only [size_alloc])) _ _)
  have HS1 := Lib.hid (show Since w w1 by rw [hw1]; exact Since.alloc (Since.alloc (Since.refl w) _) _)
  have hNE : w.heap.size ≤ w.heap.size ∧ w.heap.size < w.heap.size + 1 := by omega
  have HNE := Lib.hid hNE
  clear hNE hw1
  generalize w.heap.size + 1 = bL at *
  have HNE3 := Lib.hid (show w.heap.size ≤ w.heap.size ∧ w.heap.size < bL from HNE.out)
  clear HNE
  refine wp_region_lit ?_
  refine wpList_q (by rfl) (.pointer (some ⟨bL, 6, none⟩)) ?he ?_
  case he => (first | rfl | (go_simp; (try with_reducible rfl)))
  (try simp only [Act.put, sA, sB, sC])
  refine wpList_q (by rfl) (.int .i64 l.ph) ?he ?_
  case he => exact exec_cell 3 _ _ HBL1.out rfl rfl rfl Try.underlying3 rfl
  (try simp only [Act.put, sA, sB, sC])
  refine wpList_q (by rfl) (.bool true) ?he ?_
  case he => (have hq := H0.out; go_simp; (try with_reducible rfl))
  (try simp only [Act.put, sA, sB, sC])
  refine wpList_q (by rfl) (.bool true) ?he ?_
  case he => (first | rfl | (go_simp; (try with_reducible rfl)))
  (try simp only [Act.put, sA, sB, sC])
  refine wpList_no (by rfl) ?_
  (try simp only [Act.put, sA, sB, sC])
  refine wpList_no (by rfl) ?_
  (try simp only [Act.put, sA, sB, sC])
  refine wpList_no (by rfl) ?_
  (try simp only [Act.put, sA, sB, sC])
  refine wpList_q (by rfl) (.bool true) ?he ?_
  case he => (first | rfl | (go_simp; (try with_reducible rfl)))
  (try simp only [Act.put, sA, sB, sC])
  refine wpList_q (by rfl) (.bool true) ?he ?_
  case he => (first | rfl | (go_simp; (try with_reducible rfl)))
  (try simp only [Act.put, sA, sB, sC])
  refine wpList_no (by rfl) ?_
  (try simp only [Act.put, sA, sB, sC])
  refine wpList_no (by rfl) ?_
  (try simp only [Act.put, sA, sB, sC])
  refine wpList_no (by rfl) ?_
  (try simp only [Act.put, sA, sB, sC])
  refine wpList_q (by rfl) (.bool true) ?he ?_
  case he => (first | rfl | (go_simp; (try with_reducible rfl)))
  (try simp only [Act.put, sA, sB, sC])
  refine wpList_q (by rfl) (.bool true) ?he ?_
  case he => (first | rfl | (go_simp; (try with_reducible rfl)))
  (try simp only [Act.put, sA, sB, sC])
  refine wpList_no (by rfl) ?_
  (try simp only [Act.put, sA, sB, sC])
  refine wpList_no (by rfl) ?_
  (try simp only [Act.put, sA, sB, sC])
  refine wpList_no (by rfl) ?_
  (try simp only [Act.put, sA, sB, sC])
  refine wpList_q (by rfl) (.bool true) ?he ?_
  case he => (first | rfl | (go_simp; (try with_reducible rfl)))
  (try simp only [Act.put, sA, sB, sC])
  refine wpList_nil ?_
  go_upto_region 2 with fail
  refine wp_region_lit ?_
  refine wpList_wp (by rfl) (fun K hK => ?_)
  (try go_simp)
  refine (ans _).mono ?_
  rintro e w2 ⟨rfl, hb⟩
  (try go_wp2_with fail)
  refine hK.out _ _ ?_
  clear hK K
  (try simp only [Act.put, sA, sB, sC])
  have HS2 := Lib.hid (Since.trans HS1.out hb)
  have HBC2 := Lib.hid (keep_blk hb HBC1.out)
  have HBL2 := Lib.hid (keep_blk hb HBL1.out)
  clear HS1 HBC1 HBL1
  clear hb
  refine wpList_q (by rfl) (.bool true) ?he ?_
  case he => (first | rfl | (go_simp; (try with_reducible rfl)))
  (try simp only [Act.put, sA, sB, sC])
  refine wpList_nil ?_
  (try go_wp2_with fail)
  go_ret
  exact ⟨rfl, HS2.out⟩
set_option maxHeartbeats 4000000 in
theorem phX1 (c : CfgV) (l : LeaseV) (a2 : Option Addr) (len2 cap2 : Nat) (cs : Nat → CarV) (a3 : Option Addr) (len3 cap3 : Nat) (gs : Nat → MsgV) (a4 : Option Addr) (len4 cap4 : Nat) (zs : List Int) (w : World) (hC : CV w a2 len2 cs) (hl2 : len2 ≤ 9223372036854775807) (hG : Msgs w a3 len3 gs) (hl3 : len3 ≤ 9223372036854775807) (hZ : BV w a4 len4 zs) (hr0 : -9223372036854775808 ≤ l.re) (hr1 : l.re ≤ 9223372036854775807) (h0 : ¬ (l.ph < 1)) (h1 : 4 < l.ph) : Calls Try.prog 13 #[.agg #[.int .i64 c.ca, .int .i64 c.fl, .int .i64 c.ft, .int .i64 c.se, .int .i64 c.dr, .int .i64 c.dw, .int .i64 c.ho, .int .i64 c.re, .int .i64 c.yi, .int .i64 c.qu, .int .i64 c.qo, .int .i64 c.lo, .int .i64 c.sl, .int .i64 c.rt, .int .i64 c.cp, .int .i64 c.tr, .int .i64 c.de, .int .i64 c.wi], .agg #[.int .i64 l.se, .int .i64 l.fl, .int .i64 l.fm, .int .i64 l.to, .int .i64 l.ma, .int .i64 l.ca, .int .i64 l.ph, .int .i64 l.un, .int .i64 l.re, .int .i64 l.gr], .slice a2 len2 cap2, .slice a3 len3 cap3, .slice a4 len4 cap4] w fun e w' => e = .returned (.bool true) ∧ Since w w' := by
  have hlI2 : (len2 : Int) ≤ 9223372036854775807 := by omega
  have hlI3 : (len3 : Int) ≤ 9223372036854775807 := by omega
  have hlI4 : (len4 : Int) ≤ 9223372036854775807 := by have := hZ.2.1; omega
  have HCV := Lib.hid hC; have HGV := Lib.hid hG; have HZV := Lib.hid hZ
  clear hC hG hZ
  have HRE := Lib.hid (And.intro hr0 hr1)
  clear hr0 hr1
  have H0 := Lib.hid h0
  clear h0
  have H1 := Lib.hid h1
  clear h1
  go_enter Try.func13, Try.ntmps13
  go_upto_region 1 with fail
  obtain ⟨w1, hw1⟩ : ∃ w1, w1 = ((w.alloc (.cells #[.int .i64 c.ca, .int .i64 c.fl, .int .i64 c.ft, .int .i64 c.se, .int .i64 c.dr, .int .i64 c.dw, .int .i64 c.ho, .int .i64 c.re, .int .i64 c.yi, .int .i64 c.qu, .int .i64 c.qo, .int .i64 c.lo, .int .i64 c.sl, .int .i64 c.rt, .int .i64 c.cp, .int .i64 c.tr, .int .i64 c.de, .int .i64 c.wi] 23)).alloc (.cells #[.int .i64 l.se, .int .i64 l.fl, .int .i64 l.fm, .int .i64 l.to, .int .i64 l.ma, .int .i64 l.ca, .int .i64 l.ph, .int .i64 l.un, .int .i64 l.re, .int .i64 l.gr] 56)) := ⟨_, rfl⟩
  rw [← hw1]
  have HBC1 := Lib.hid (show Blk w1 (w.heap.size) 23 (cfgA c) by rw [hw1]; exact Blk.alloc (Blk.at_ (by (try simp only [size_alloc])) _ _) _)
  have HBL1 := Lib.hid (show Blk w1 (w.heap.size + 1) 56 (leaA l) by rw [hw1]; exact Blk.at_ (by (try simp only [size_alloc])) _ _)
  have HS1 := Lib.hid (show Since w w1 by rw [hw1]; exact Since.alloc (Since.alloc (Since.refl w) _) _)
  have hNE : w.heap.size ≤ w.heap.size ∧ w.heap.size < w.heap.size + 1 := by omega
  have HNE := Lib.hid hNE
  clear hNE hw1
  generalize w.heap.size + 1 = bL at *
  have HNE3 := Lib.hid (show w.heap.size ≤ w.heap.size ∧ w.heap.size < bL from HNE.out)
  clear HNE
  refine wp_region_lit ?_
  refine wpList_q (by rfl) (.pointer (some ⟨bL, 6, none⟩)) ?he ?_
  case he => (first | rfl | (go_simp; (try with_reducible rfl)))
  (try simp only [Act.put, sA, sB, sC])
  refine wpList_q (by rfl) (.int .i64 l.ph) ?he ?_
  case he => exact exec_cell 3 _ _ HBL1.out rfl rfl rfl Try.underlying3 rfl
  (try simp only [Act.put, sA, sB, sC])
  refine wpList_q (by rfl) (.bool false) ?he ?_
  case he => (have hq := H0.out; go_simp; (try with_reducible rfl))
  (try simp only [Act.put, sA, sB, sC])
  refine wpList_q (by rfl) (.bool false) ?he ?_
  case he => (first | rfl | (go_simp; (try with_reducible rfl)))
  (try simp only [Act.put, sA, sB, sC])
  refine wpList_q (by rfl) (.pointer (some ⟨bL, 6, none⟩)) ?he ?_
  case he => (first | rfl | (go_simp; (try with_reducible rfl)))
  (try simp only [Act.put, sA, sB, sC])
  refine wpList_q (by rfl) (.int .i64 l.ph) ?he ?_
  case he => exact exec_cell 3 _ _ HBL1.out rfl rfl rfl Try.underlying3 rfl
  (try simp only [Act.put, sA, sB, sC])
  refine wpList_q (by rfl) (.bool true) ?he ?_
  case he => (have hq := H1.out; go_simp; (try with_reducible rfl))
  (try simp only [Act.put, sA, sB, sC])
  refine wpList_q (by rfl) (.bool true) ?he ?_
  case he => (first | rfl | (go_simp; (try with_reducible rfl)))
  (try simp only [Act.put, sA, sB, sC])
  refine wpList_q (by rfl) (.bool true) ?he ?_
  case he => (first | rfl | (go_simp; (try with_reducible rfl)))
  (try simp only [Act.put, sA, sB, sC])
  refine wpList_no (by rfl) ?_
  (try simp only [Act.put, sA, sB, sC])
  refine wpList_no (by rfl) ?_
  (try simp only [Act.put, sA, sB, sC])
  refine wpList_no (by rfl) ?_
  (try simp only [Act.put, sA, sB, sC])
  refine wpList_q (by rfl) (.bool true) ?he ?_
  case he => (first | rfl | (go_simp; (try with_reducible rfl)))
  (try simp only [Act.put, sA, sB, sC])
  refine wpList_q (by rfl) (.bool true) ?he ?_
  case he => (first | rfl | (go_simp; (try with_reducible rfl)))
  (try simp only [Act.put, sA, sB, sC])
  refine wpList_no (by rfl) ?_
  (try simp only [Act.put, sA, sB, sC])
  refine wpList_no (by rfl) ?_
  (try simp only [Act.put, sA, sB, sC])
  refine wpList_no (by rfl) ?_
  (try simp only [Act.put, sA, sB, sC])
  refine wpList_q (by rfl) (.bool true) ?he ?_
  case he => (first | rfl | (go_simp; (try with_reducible rfl)))
  (try simp only [Act.put, sA, sB, sC])
  refine wpList_nil ?_
  go_upto_region 2 with fail
  refine wp_region_lit ?_
  refine wpList_wp (by rfl) (fun K hK => ?_)
  (try go_simp)
  refine (ans _).mono ?_
  rintro e w2 ⟨rfl, hb⟩
  (try go_wp2_with fail)
  refine hK.out _ _ ?_
  clear hK K
  (try simp only [Act.put, sA, sB, sC])
  have HS2 := Lib.hid (Since.trans HS1.out hb)
  have HBC2 := Lib.hid (keep_blk hb HBC1.out)
  have HBL2 := Lib.hid (keep_blk hb HBL1.out)
  clear HS1 HBC1 HBL1
  clear hb
  refine wpList_q (by rfl) (.bool true) ?he ?_
  case he => (first | rfl | (go_simp; (try with_reducible rfl)))
  (try simp only [Act.put, sA, sB, sC])
  refine wpList_nil ?_
  (try go_wp2_with fail)
  go_ret
  exact ⟨rfl, HS2.out⟩
set_option maxHeartbeats 4000000 in
theorem phX2 (c : CfgV) (l : LeaseV) (a2 : Option Addr) (len2 cap2 : Nat) (cs : Nat → CarV) (a3 : Option Addr) (len3 cap3 : Nat) (gs : Nat → MsgV) (a4 : Option Addr) (len4 cap4 : Nat) (zs : List Int) (w : World) (hC : CV w a2 len2 cs) (hl2 : len2 ≤ 9223372036854775807) (hG : Msgs w a3 len3 gs) (hl3 : len3 ≤ 9223372036854775807) (hZ : BV w a4 len4 zs) (hr0 : -9223372036854775808 ≤ l.re) (hr1 : l.re ≤ 9223372036854775807) (h0 : ¬ (l.ph < 1)) (h1 : ¬ (4 < l.ph)) (h2 : l.un < 0) : Calls Try.prog 13 #[.agg #[.int .i64 c.ca, .int .i64 c.fl, .int .i64 c.ft, .int .i64 c.se, .int .i64 c.dr, .int .i64 c.dw, .int .i64 c.ho, .int .i64 c.re, .int .i64 c.yi, .int .i64 c.qu, .int .i64 c.qo, .int .i64 c.lo, .int .i64 c.sl, .int .i64 c.rt, .int .i64 c.cp, .int .i64 c.tr, .int .i64 c.de, .int .i64 c.wi], .agg #[.int .i64 l.se, .int .i64 l.fl, .int .i64 l.fm, .int .i64 l.to, .int .i64 l.ma, .int .i64 l.ca, .int .i64 l.ph, .int .i64 l.un, .int .i64 l.re, .int .i64 l.gr], .slice a2 len2 cap2, .slice a3 len3 cap3, .slice a4 len4 cap4] w fun e w' => e = .returned (.bool true) ∧ Since w w' := by
  have hlI2 : (len2 : Int) ≤ 9223372036854775807 := by omega
  have hlI3 : (len3 : Int) ≤ 9223372036854775807 := by omega
  have hlI4 : (len4 : Int) ≤ 9223372036854775807 := by have := hZ.2.1; omega
  have HCV := Lib.hid hC; have HGV := Lib.hid hG; have HZV := Lib.hid hZ
  clear hC hG hZ
  have HRE := Lib.hid (And.intro hr0 hr1)
  clear hr0 hr1
  have H0 := Lib.hid h0
  clear h0
  have H1 := Lib.hid h1
  clear h1
  have H2 := Lib.hid h2
  clear h2
  go_enter Try.func13, Try.ntmps13
  go_upto_region 1 with fail
  obtain ⟨w1, hw1⟩ : ∃ w1, w1 = ((w.alloc (.cells #[.int .i64 c.ca, .int .i64 c.fl, .int .i64 c.ft, .int .i64 c.se, .int .i64 c.dr, .int .i64 c.dw, .int .i64 c.ho, .int .i64 c.re, .int .i64 c.yi, .int .i64 c.qu, .int .i64 c.qo, .int .i64 c.lo, .int .i64 c.sl, .int .i64 c.rt, .int .i64 c.cp, .int .i64 c.tr, .int .i64 c.de, .int .i64 c.wi] 23)).alloc (.cells #[.int .i64 l.se, .int .i64 l.fl, .int .i64 l.fm, .int .i64 l.to, .int .i64 l.ma, .int .i64 l.ca, .int .i64 l.ph, .int .i64 l.un, .int .i64 l.re, .int .i64 l.gr] 56)) := ⟨_, rfl⟩
  rw [← hw1]
  have HBC1 := Lib.hid (show Blk w1 (w.heap.size) 23 (cfgA c) by rw [hw1]; exact Blk.alloc (Blk.at_ (by (try simp only [size_alloc])) _ _) _)
  have HBL1 := Lib.hid (show Blk w1 (w.heap.size + 1) 56 (leaA l) by rw [hw1]; exact Blk.at_ (by (try simp only [size_alloc])) _ _)
  have HS1 := Lib.hid (show Since w w1 by rw [hw1]; exact Since.alloc (Since.alloc (Since.refl w) _) _)
  have hNE : w.heap.size ≤ w.heap.size ∧ w.heap.size < w.heap.size + 1 := by omega
  have HNE := Lib.hid hNE
  clear hNE hw1
  generalize w.heap.size + 1 = bL at *
  have HNE3 := Lib.hid (show w.heap.size ≤ w.heap.size ∧ w.heap.size < bL from HNE.out)
  clear HNE
  refine wp_region_lit ?_
  refine wpList_q (by rfl) (.pointer (some ⟨bL, 6, none⟩)) ?he ?_
  case he => (first | rfl | (go_simp; (try with_reducible rfl)))
  (try simp only [Act.put, sA, sB, sC])
  refine wpList_q (by rfl) (.int .i64 l.ph) ?he ?_
  case he => exact exec_cell 3 _ _ HBL1.out rfl rfl rfl Try.underlying3 rfl
  (try simp only [Act.put, sA, sB, sC])
  refine wpList_q (by rfl) (.bool false) ?he ?_
  case he => (have hq := H0.out; go_simp; (try with_reducible rfl))
  (try simp only [Act.put, sA, sB, sC])
  refine wpList_q (by rfl) (.bool false) ?he ?_
  case he => (first | rfl | (go_simp; (try with_reducible rfl)))
  (try simp only [Act.put, sA, sB, sC])
  refine wpList_q (by rfl) (.pointer (some ⟨bL, 6, none⟩)) ?he ?_
  case he => (first | rfl | (go_simp; (try with_reducible rfl)))
  (try simp only [Act.put, sA, sB, sC])
  refine wpList_q (by rfl) (.int .i64 l.ph) ?he ?_
  case he => exact exec_cell 3 _ _ HBL1.out rfl rfl rfl Try.underlying3 rfl
  (try simp only [Act.put, sA, sB, sC])
  refine wpList_q (by rfl) (.bool false) ?he ?_
  case he => (have hq := H1.out; go_simp; (try with_reducible rfl))
  (try simp only [Act.put, sA, sB, sC])
  refine wpList_q (by rfl) (.bool false) ?he ?_
  case he => (first | rfl | (go_simp; (try with_reducible rfl)))
  (try simp only [Act.put, sA, sB, sC])
  refine wpList_q (by rfl) (.bool false) ?he ?_
  case he => (first | rfl | (go_simp; (try with_reducible rfl)))
  (try simp only [Act.put, sA, sB, sC])
  refine wpList_q (by rfl) (.pointer (some ⟨bL, 7, none⟩)) ?he ?_
  case he => (first | rfl | (go_simp; (try with_reducible rfl)))
  (try simp only [Act.put, sA, sB, sC])
  refine wpList_q (by rfl) (.int .i64 l.un) ?he ?_
  case he => exact exec_cell 3 _ _ HBL1.out rfl rfl rfl Try.underlying3 rfl
  (try simp only [Act.put, sA, sB, sC])
  refine wpList_q (by rfl) (.bool true) ?he ?_
  case he => (have hq := H2.out; go_simp; (try with_reducible rfl))
  (try simp only [Act.put, sA, sB, sC])
  refine wpList_q (by rfl) (.bool true) ?he ?_
  case he => (first | rfl | (go_simp; (try with_reducible rfl)))
  (try simp only [Act.put, sA, sB, sC])
  refine wpList_q (by rfl) (.bool true) ?he ?_
  case he => (first | rfl | (go_simp; (try with_reducible rfl)))
  (try simp only [Act.put, sA, sB, sC])
  refine wpList_no (by rfl) ?_
  (try simp only [Act.put, sA, sB, sC])
  refine wpList_no (by rfl) ?_
  (try simp only [Act.put, sA, sB, sC])
  refine wpList_no (by rfl) ?_
  (try simp only [Act.put, sA, sB, sC])
  refine wpList_q (by rfl) (.bool true) ?he ?_
  case he => (first | rfl | (go_simp; (try with_reducible rfl)))
  (try simp only [Act.put, sA, sB, sC])
  refine wpList_nil ?_
  go_upto_region 2 with fail
  refine wp_region_lit ?_
  refine wpList_wp (by rfl) (fun K hK => ?_)
  (try go_simp)
  refine (ans _).mono ?_
  rintro e w2 ⟨rfl, hb⟩
  (try go_wp2_with fail)
  refine hK.out _ _ ?_
  clear hK K
  (try simp only [Act.put, sA, sB, sC])
  have HS2 := Lib.hid (Since.trans HS1.out hb)
  have HBC2 := Lib.hid (keep_blk hb HBC1.out)
  have HBL2 := Lib.hid (keep_blk hb HBL1.out)
  clear HS1 HBC1 HBL1
  clear hb
  refine wpList_q (by rfl) (.bool true) ?he ?_
  case he => (first | rfl | (go_simp; (try with_reducible rfl)))
  (try simp only [Act.put, sA, sB, sC])
  refine wpList_nil ?_
  (try go_wp2_with fail)
  go_ret
  exact ⟨rfl, HS2.out⟩
set_option maxHeartbeats 4000000 in
theorem phX3 (c : CfgV) (l : LeaseV) (a2 : Option Addr) (len2 cap2 : Nat) (cs : Nat → CarV) (a3 : Option Addr) (len3 cap3 : Nat) (gs : Nat → MsgV) (a4 : Option Addr) (len4 cap4 : Nat) (zs : List Int) (w : World) (hC : CV w a2 len2 cs) (hl2 : len2 ≤ 9223372036854775807) (hG : Msgs w a3 len3 gs) (hl3 : len3 ≤ 9223372036854775807) (hZ : BV w a4 len4 zs) (hr0 : -9223372036854775808 ≤ l.re) (hr1 : l.re ≤ 9223372036854775807) (h0 : ¬ (l.ph < 1)) (h1 : ¬ (4 < l.ph)) (h2 : ¬ (l.un < 0)) (h3 : 1073741824 < l.un) : Calls Try.prog 13 #[.agg #[.int .i64 c.ca, .int .i64 c.fl, .int .i64 c.ft, .int .i64 c.se, .int .i64 c.dr, .int .i64 c.dw, .int .i64 c.ho, .int .i64 c.re, .int .i64 c.yi, .int .i64 c.qu, .int .i64 c.qo, .int .i64 c.lo, .int .i64 c.sl, .int .i64 c.rt, .int .i64 c.cp, .int .i64 c.tr, .int .i64 c.de, .int .i64 c.wi], .agg #[.int .i64 l.se, .int .i64 l.fl, .int .i64 l.fm, .int .i64 l.to, .int .i64 l.ma, .int .i64 l.ca, .int .i64 l.ph, .int .i64 l.un, .int .i64 l.re, .int .i64 l.gr], .slice a2 len2 cap2, .slice a3 len3 cap3, .slice a4 len4 cap4] w fun e w' => e = .returned (.bool true) ∧ Since w w' := by
  have hlI2 : (len2 : Int) ≤ 9223372036854775807 := by omega
  have hlI3 : (len3 : Int) ≤ 9223372036854775807 := by omega
  have hlI4 : (len4 : Int) ≤ 9223372036854775807 := by have := hZ.2.1; omega
  have HCV := Lib.hid hC; have HGV := Lib.hid hG; have HZV := Lib.hid hZ
  clear hC hG hZ
  have HRE := Lib.hid (And.intro hr0 hr1)
  clear hr0 hr1
  have H0 := Lib.hid h0
  clear h0
  have H1 := Lib.hid h1
  clear h1
  have H2 := Lib.hid h2
  clear h2
  have H3 := Lib.hid h3
  clear h3
  go_enter Try.func13, Try.ntmps13
  go_upto_region 1 with fail
  obtain ⟨w1, hw1⟩ : ∃ w1, w1 = ((w.alloc (.cells #[.int .i64 c.ca, .int .i64 c.fl, .int .i64 c.ft, .int .i64 c.se, .int .i64 c.dr, .int .i64 c.dw, .int .i64 c.ho, .int .i64 c.re, .int .i64 c.yi, .int .i64 c.qu, .int .i64 c.qo, .int .i64 c.lo, .int .i64 c.sl, .int .i64 c.rt, .int .i64 c.cp, .int .i64 c.tr, .int .i64 c.de, .int .i64 c.wi] 23)).alloc (.cells #[.int .i64 l.se, .int .i64 l.fl, .int .i64 l.fm, .int .i64 l.to, .int .i64 l.ma, .int .i64 l.ca, .int .i64 l.ph, .int .i64 l.un, .int .i64 l.re, .int .i64 l.gr] 56)) := ⟨_, rfl⟩
  rw [← hw1]
  have HBC1 := Lib.hid (show Blk w1 (w.heap.size) 23 (cfgA c) by rw [hw1]; exact Blk.alloc (Blk.at_ (by (try simp only [size_alloc])) _ _) _)
  have HBL1 := Lib.hid (show Blk w1 (w.heap.size + 1) 56 (leaA l) by rw [hw1]; exact Blk.at_ (by (try simp only [size_alloc])) _ _)
  have HS1 := Lib.hid (show Since w w1 by rw [hw1]; exact Since.alloc (Since.alloc (Since.refl w) _) _)
  have hNE : w.heap.size ≤ w.heap.size ∧ w.heap.size < w.heap.size + 1 := by omega
  have HNE := Lib.hid hNE
  clear hNE hw1
  generalize w.heap.size + 1 = bL at *
  have HNE3 := Lib.hid (show w.heap.size ≤ w.heap.size ∧ w.heap.size < bL from HNE.out)
  clear HNE
  refine wp_region_lit ?_
  refine wpList_q (by rfl) (.pointer (some ⟨bL, 6, none⟩)) ?he ?_
  case he => (first | rfl | (go_simp; (try with_reducible rfl)))
  (try simp only [Act.put, sA, sB, sC])
  refine wpList_q (by rfl) (.int .i64 l.ph) ?he ?_
  case he => exact exec_cell 3 _ _ HBL1.out rfl rfl rfl Try.underlying3 rfl
  (try simp only [Act.put, sA, sB, sC])
  refine wpList_q (by rfl) (.bool false) ?he ?_
  case he => (have hq := H0.out; go_simp; (try with_reducible rfl))
  (try simp only [Act.put, sA, sB, sC])
  refine wpList_q (by rfl) (.bool false) ?he ?_
  case he => (first | rfl | (go_simp; (try with_reducible rfl)))
  (try simp only [Act.put, sA, sB, sC])
  refine wpList_q (by rfl) (.pointer (some ⟨bL, 6, none⟩)) ?he ?_
  case he => (first | rfl | (go_simp; (try with_reducible rfl)))
  (try simp only [Act.put, sA, sB, sC])
  refine wpList_q (by rfl) (.int .i64 l.ph) ?he ?_
  case he => exact exec_cell 3 _ _ HBL1.out rfl rfl rfl Try.underlying3 rfl
  (try simp only [Act.put, sA, sB, sC])
  refine wpList_q (by rfl) (.bool false) ?he ?_
  case he => (have hq := H1.out; go_simp; (try with_reducible rfl))
  (try simp only [Act.put, sA, sB, sC])
  refine wpList_q (by rfl) (.bool false) ?he ?_
  case he => (first | rfl | (go_simp; (try with_reducible rfl)))
  (try simp only [Act.put, sA, sB, sC])
  refine wpList_q (by rfl) (.bool false) ?he ?_
  case he => (first | rfl | (go_simp; (try with_reducible rfl)))
  (try simp only [Act.put, sA, sB, sC])
  refine wpList_q (by rfl) (.pointer (some ⟨bL, 7, none⟩)) ?he ?_
  case he => (first | rfl | (go_simp; (try with_reducible rfl)))
  (try simp only [Act.put, sA, sB, sC])
  refine wpList_q (by rfl) (.int .i64 l.un) ?he ?_
  case he => exact exec_cell 3 _ _ HBL1.out rfl rfl rfl Try.underlying3 rfl
  (try simp only [Act.put, sA, sB, sC])
  refine wpList_q (by rfl) (.bool false) ?he ?_
  case he => (have hq := H2.out; go_simp; (try with_reducible rfl))
  (try simp only [Act.put, sA, sB, sC])
  refine wpList_q (by rfl) (.bool false) ?he ?_
  case he => (first | rfl | (go_simp; (try with_reducible rfl)))
  (try simp only [Act.put, sA, sB, sC])
  refine wpList_q (by rfl) (.bool false) ?he ?_
  case he => (first | rfl | (go_simp; (try with_reducible rfl)))
  (try simp only [Act.put, sA, sB, sC])
  refine wpList_q (by rfl) (.pointer (some ⟨bL, 7, none⟩)) ?he ?_
  case he => (first | rfl | (go_simp; (try with_reducible rfl)))
  (try simp only [Act.put, sA, sB, sC])
  refine wpList_q (by rfl) (.int .i64 l.un) ?he ?_
  case he => exact exec_cell 3 _ _ HBL1.out rfl rfl rfl Try.underlying3 rfl
  (try simp only [Act.put, sA, sB, sC])
  refine wpList_q (by rfl) (.bool true) ?he ?_
  case he => (have hq := H3.out; go_simp; (try with_reducible rfl))
  (try simp only [Act.put, sA, sB, sC])
  refine wpList_q (by rfl) (.bool true) ?he ?_
  case he => (first | rfl | (go_simp; (try with_reducible rfl)))
  (try simp only [Act.put, sA, sB, sC])
  refine wpList_nil ?_
  go_upto_region 2 with fail
  refine wp_region_lit ?_
  refine wpList_wp (by rfl) (fun K hK => ?_)
  (try go_simp)
  refine (ans _).mono ?_
  rintro e w2 ⟨rfl, hb⟩
  (try go_wp2_with fail)
  refine hK.out _ _ ?_
  clear hK K
  (try simp only [Act.put, sA, sB, sC])
  have HS2 := Lib.hid (Since.trans HS1.out hb)
  have HBC2 := Lib.hid (keep_blk hb HBC1.out)
  have HBL2 := Lib.hid (keep_blk hb HBL1.out)
  clear HS1 HBC1 HBL1
  clear hb
  refine wpList_q (by rfl) (.bool true) ?he ?_
  case he => (first | rfl | (go_simp; (try with_reducible rfl)))
  (try simp only [Act.put, sA, sB, sC])
  refine wpList_nil ?_
  (try go_wp2_with fail)
  go_ret
  exact ⟨rfl, HS2.out⟩
set_option maxHeartbeats 16000000 in
theorem phases (c : CfgV) (l : LeaseV) (a2 : Option Addr) (len2 cap2 : Nat) (cs : Nat → CarV) (a3 : Option Addr) (len3 cap3 : Nat) (gs : Nat → MsgV) (a4 : Option Addr) (len4 cap4 : Nat) (zs : List Int) (w : World) (hC : CV w a2 len2 cs) (hl2 : len2 ≤ 9223372036854775807) (hG : Msgs w a3 len3 gs) (hl3 : len3 ≤ 9223372036854775807) (hZ : BV w a4 len4 zs) (hr0 : -9223372036854775808 ≤ l.re) (hr1 : l.re ≤ 9223372036854775807) (h0 : ¬ (l.ph < 1)) (h1 : ¬ (4 < l.ph)) (h2 : ¬ (l.un < 0)) (h3 : ¬ (1073741824 < l.un)) : Calls Try.prog 13 #[.agg #[.int .i64 c.ca, .int .i64 c.fl, .int .i64 c.ft, .int .i64 c.se, .int .i64 c.dr, .int .i64 c.dw, .int .i64 c.ho, .int .i64 c.re, .int .i64 c.yi, .int .i64 c.qu, .int .i64 c.qo, .int .i64 c.lo, .int .i64 c.sl, .int .i64 c.rt, .int .i64 c.cp, .int .i64 c.tr, .int .i64 c.de, .int .i64 c.wi], .agg #[.int .i64 l.se, .int .i64 l.fl, .int .i64 l.fm, .int .i64 l.to, .int .i64 l.ma, .int .i64 l.ca, .int .i64 l.ph, .int .i64 l.un, .int .i64 l.re, .int .i64 l.gr], .slice a2 len2 cap2, .slice a3 len3 cap3, .slice a4 len4 cap4] w fun e w' => e = .returned (.bool true) ∧ Since w w' := by
  have hlI2 : (len2 : Int) ≤ 9223372036854775807 := by omega
  have hlI3 : (len3 : Int) ≤ 9223372036854775807 := by omega
  have hlI4 : (len4 : Int) ≤ 9223372036854775807 := by have := hZ.2.1; omega
  have HCV := Lib.hid hC; have HGV := Lib.hid hG; have HZV := Lib.hid hZ
  clear hC hG hZ
  have HRE := Lib.hid (And.intro hr0 hr1)
  clear hr0 hr1
  have H0 := Lib.hid h0
  clear h0
  have H1 := Lib.hid h1
  clear h1
  have H2 := Lib.hid h2
  clear h2
  have H3 := Lib.hid h3
  clear h3
  go_enter Try.func13, Try.ntmps13
  go_upto_region 1 with fail
  obtain ⟨w1, hw1⟩ : ∃ w1, w1 = ((w.alloc (.cells #[.int .i64 c.ca, .int .i64 c.fl, .int .i64 c.ft, .int .i64 c.se, .int .i64 c.dr, .int .i64 c.dw, .int .i64 c.ho, .int .i64 c.re, .int .i64 c.yi, .int .i64 c.qu, .int .i64 c.qo, .int .i64 c.lo, .int .i64 c.sl, .int .i64 c.rt, .int .i64 c.cp, .int .i64 c.tr, .int .i64 c.de, .int .i64 c.wi] 23)).alloc (.cells #[.int .i64 l.se, .int .i64 l.fl, .int .i64 l.fm, .int .i64 l.to, .int .i64 l.ma, .int .i64 l.ca, .int .i64 l.ph, .int .i64 l.un, .int .i64 l.re, .int .i64 l.gr] 56)) := ⟨_, rfl⟩
  rw [← hw1]
  have HBC1 := Lib.hid (show Blk w1 (w.heap.size) 23 (cfgA c) by rw [hw1]; exact Blk.alloc (Blk.at_ (by (try simp only [size_alloc])) _ _) _)
  have HBL1 := Lib.hid (show Blk w1 (w.heap.size + 1) 56 (leaA l) by rw [hw1]; exact Blk.at_ (by (try simp only [size_alloc])) _ _)
  have HS1 := Lib.hid (show Since w w1 by rw [hw1]; exact Since.alloc (Since.alloc (Since.refl w) _) _)
  have hNE : w.heap.size ≤ w.heap.size ∧ w.heap.size < w.heap.size + 1 := by omega
  have HNE := Lib.hid hNE
  clear hNE hw1
  generalize w.heap.size + 1 = bL at *
  have HNE3 := Lib.hid (show w.heap.size ≤ w.heap.size ∧ w.heap.size < bL from HNE.out)
  clear HNE
  refine wp_region_lit ?_
  refine wpList_q (by rfl) (.pointer (some ⟨bL, 6, none⟩)) ?he ?_
  case he => (first | rfl | (go_simp; (try with_reducible rfl)))
  (try simp only [Act.put, sA, sB, sC])
  refine wpList_q (by rfl) (.int .i64 l.ph) ?he ?_
  case he => exact exec_cell 3 _ _ HBL1.out rfl rfl rfl Try.underlying3 rfl
  (try simp only [Act.put, sA, sB, sC])
  refine wpList_q (by rfl) (.bool false) ?he ?_
  case he => (have hq := H0.out; go_simp; (try with_reducible rfl))
  (try simp only [Act.put, sA, sB, sC])
  refine wpList_q (by rfl) (.bool false) ?he ?_
  case he => (first | rfl | (go_simp; (try with_reducible rfl)))
  (try simp only [Act.put, sA, sB, sC])
  refine wpList_q (by rfl) (.pointer (some ⟨bL, 6, none⟩)) ?he ?_
  case he => (first | rfl | (go_simp; (try with_reducible rfl)))
  (try simp only [Act.put, sA, sB, sC])
  refine wpList_q (by rfl) (.int .i64 l.ph) ?he ?_
  case he => exact exec_cell 3 _ _ HBL1.out rfl rfl rfl Try.underlying3 rfl
  (try simp only [Act.put, sA, sB, sC])
  refine wpList_q (by rfl) (.bool false) ?he ?_
  case he => (have hq := H1.out; go_simp; (try with_reducible rfl))
  (try simp only [Act.put, sA, sB, sC])
  refine wpList_q (by rfl) (.bool false) ?he ?_
  case he => (first | rfl | (go_simp; (try with_reducible rfl)))
  (try simp only [Act.put, sA, sB, sC])
  refine wpList_q (by rfl) (.bool false) ?he ?_
  case he => (first | rfl | (go_simp; (try with_reducible rfl)))
  (try simp only [Act.put, sA, sB, sC])
  refine wpList_q (by rfl) (.pointer (some ⟨bL, 7, none⟩)) ?he ?_
  case he => (first | rfl | (go_simp; (try with_reducible rfl)))
  (try simp only [Act.put, sA, sB, sC])
  refine wpList_q (by rfl) (.int .i64 l.un) ?he ?_
  case he => exact exec_cell 3 _ _ HBL1.out rfl rfl rfl Try.underlying3 rfl
  (try simp only [Act.put, sA, sB, sC])
  refine wpList_q (by rfl) (.bool false) ?he ?_
  case he => (have hq := H2.out; go_simp; (try with_reducible rfl))
  (try simp only [Act.put, sA, sB, sC])
  refine wpList_q (by rfl) (.bool false) ?he ?_
  case he => (first | rfl | (go_simp; (try with_reducible rfl)))
  (try simp only [Act.put, sA, sB, sC])
  refine wpList_q (by rfl) (.bool false) ?he ?_
  case he => (first | rfl | (go_simp; (try with_reducible rfl)))
  (try simp only [Act.put, sA, sB, sC])
  refine wpList_q (by rfl) (.pointer (some ⟨bL, 7, none⟩)) ?he ?_
  case he => (first | rfl | (go_simp; (try with_reducible rfl)))
  (try simp only [Act.put, sA, sB, sC])
  refine wpList_q (by rfl) (.int .i64 l.un) ?he ?_
  case he => exact exec_cell 3 _ _ HBL1.out rfl rfl rfl Try.underlying3 rfl
  (try simp only [Act.put, sA, sB, sC])
  refine wpList_q (by rfl) (.bool false) ?he ?_
  case he => (have hq := H3.out; go_simp; (try with_reducible rfl))
  (try simp only [Act.put, sA, sB, sC])
  refine wpList_q (by rfl) (.bool false) ?he ?_
  case he => (first | rfl | (go_simp; (try with_reducible rfl)))
  (try simp only [Act.put, sA, sB, sC])
  refine wpList_nil ?_
  go_wp2_with fail
  go_loopw [11, 12] (fun s11 s12 wr => ∃ (k : Nat) (t : Int) (l2 : LeaseV), k ≤ len2 ∧ k ≤ 200 ∧ 0 ≤ t ∧ t ≤ 3 * (k : Int) ∧ s11 = .int .i64 t ∧ s12 = .int .i64 k ∧ Hid ((1 ≤ l2.ph ∧ l2.ph ≤ 4 ∧ -9223372036854775808 ≤ l2.re ∧ l2.re ≤ 9223372036854775807) ∧ Since w wr ∧ Blk wr w.heap.size 23 (cfgA c) ∧ Blk wr bL 56 (leaA l2))) (fun s11 s12 _ => ((len2 : Int) - intOf s12).toNat)
  case atStart => exact ⟨0, 0, l, by omega, by omega, by omega, by omega, rfl, rfl, Lib.hid ⟨⟨by have := H0.out; omega, by have := H1.out; omega, HRE.out.1, HRE.out.2⟩, HS1.out, HBC1.out, HBL1.out⟩⟩
  case round =>
    obtain ⟨k, t, l2, hk, hk9, ht0, ht1, rfl, rfl, HO⟩ := hrel
    obtain ⟨e0, g0, g1, g2⟩ := HO.out
    clear HO HS1 HBC1 HBL1
    have HP := Lib.hid e0
    have HS51 := Lib.hid g0
    have HBC51 := Lib.hid g1
    have HBL51 := Lib.hid g2
    clear e0 g0 g1 g2
    have hk0 : (0 : Int) ≤ (k : Int) := by omega
    by_cases hlt : k < len2 ∧ k < 200
    · obtain ⟨hlt, h200⟩ := hlt
      have hk1 : (k : Int) < (len2 : Int) := by omega
      have hk5 : (k : Int) < 200 := by omega
      obtain ⟨bC2, oC, rfl, hbC, hcC⟩ : ∃ b o, a2 = some ⟨b, o, none⟩ ∧ b < w.heap.size ∧ ∀ j v, (carC (cs k))[j]? = some v → w.cell? ⟨b, o + k * 15 + j, none⟩ = some v := by obtain ⟨b, o, e, h1, h2⟩ := CV.at_ HCV.out hlt; exact ⟨b, o, e, h1, fun j v hj => h2 k hlt j v hj⟩
      have HCC := Lib.hid hcC; clear hcC hbC
      go_upto_if 47 with fail
      go_cut [11] (fun s11 wx => Hid (∃ t2 : Int, s11 = .int .i64 t2 ∧ (0 ≤ t2 ∧ t2 ≤ 3 * (k : Int) + 3) ∧ Since w wx ∧ Blk wx w.heap.size 23 (cfgA c) ∧ Blk wx bL 56 (leaA l2)))
      case first =>
        by_cases ht : k < len4
        · rcases HZV.out.2.2.2 with h0 | ⟨bZ, oZ, rfl, hbZ, hcZ⟩
          · omega
          · have hz : isB (zs.getD k 0) := by
              have hk' : k < zs.length := by have := HZV.out.1; omega
              have hg : zs.getD k 0 = zs[k] := by simp [List.getD, hk']
              rw [hg]; exact HZV.out.2.2.1 _ (List.getElem_mem _)
            have hcz : wr.cell? ⟨bZ, oZ + k, none⟩ = some (.int .u8 (zs.getD k 0)) := keep_cell HS51.out (hcZ k ht)
            clear hcZ hbZ
            generalize zs.getD k 0 = zz at hz hcz
            obtain ⟨hz0, hz1⟩ := hz
            have hkt : (k : Int) < (len4 : Int) := by omega
            go_wp2_with fail
            go_meet
            case rel => exact Lib.hid ⟨_, rfl, ⟨by omega, by omega⟩, HS51.out, HBC51.out, HBL51.out⟩
        · have hkt : ¬ ((k : Int) < (len4 : Int)) := by omega
          go_wp2_with fail
          go_meet
          case rel => exact Lib.hid ⟨t, rfl, ⟨by omega, by omega⟩, HS51.out, HBC51.out, HBL51.out⟩
      case rest =>
        clear HS51 HBC51 HBL51 ht0 ht1
        obtain ⟨t2, rfl, ht2, g0, g1, g2⟩ := hcut.out
        clear hcut
        have HS101 := Lib.hid g0; have HBC101 := Lib.hid g1; have HBL101 := Lib.hid g2; have HTT := Lib.hid ht2
        clear g0 g1 g2 ht2
        go_upto_region 9 with fail
        refine wp_region_lit ?_
        refine wpList_wp (by rfl) (fun K hK => ?_)
        refine wp_new (fun b => .pointer (some ⟨b, 0, none⟩)) 56 #[.int .i64 0, .int .i64 0, .int .i64 0, .int .i64 0, .int .i64 0, .int .i64 0, .int .i64 0, .int .i64 0, .int .i64 0, .int .i64 0] (by rintro b rfl; first | rfl | kernel_rfl) ?_
        intro bn13 w102 hge hB hb
        refine hK.out _ _ ?_
        clear hK K
        (try simp only [Act.put, sA, sB, sC])
        have HNn13C := Lib.hid (show bn13 ≠ w.heap.size by have := Blk.lt HBC101.out; omega)
        have HNn13L := Lib.hid (show bn13 ≠ bL by have := Blk.lt HBL101.out; omega)
        have HGn13 := Lib.hid (show w.heap.size ≤ bn13 by have := Since.size HS101.out; omega)
        have HS102 := Lib.hid (Since.trans HS101.out hb)
        have HBC102 := Lib.hid (keep_blk hb HBC101.out)
        have HBL102 := Lib.hid (keep_blk hb HBL101.out)
        clear HS101 HBC101 HBL101
        clear hb hge
        have HBn13102 := Lib.hid hB
        clear hB
        refine wpList_nil ?_
        go_upto_region 10 with fail
        refine wp_region_lit ?_
        refine wpList_q (by rfl) (.bool false) ?he ?_
        case he => (first | rfl | (go_simp; (try with_reducible rfl)))
        (try simp only [Act.put, sA, sB, sC])
        refine wpList_nil ?_
        by_cases hg : k < len3
        · have hgi : (k : Int) < (len3 : Int) := by omega
          obtain ⟨bG, oG, rfl, hbG, hcG⟩ : ∃ b o, a3 = some ⟨b, o, none⟩ ∧ b < w.heap.size ∧ ∀ j v, (Gl.msgC (gs k))[j]? = some v → w.cell? ⟨b, o + k * 4 + j, none⟩ = some v := by obtain ⟨b, o, e, h1, h2⟩ := Msgs.at_ HGV.out hg; exact ⟨b, o, e, h1, fun j v hj => h2 k hg j v hj⟩
          have HCG := Lib.hid hcG; clear hcG hbG
          by_cases hm : 0 < (gs k).ki
          · have HM9 := Lib.hid hm; clear hm
            go_upto_region 11 with fail
            refine wp_region_lit ?_
            refine wpList_q (by rfl) (.int .i64 k) ?he ?_
            case he => (first | rfl | (go_simp; (try with_reducible rfl)))
            (try simp only [Act.put, sA, sB, sC])
            refine wpList_q (by rfl) (.slice (some ⟨bG, oG, none⟩) len3 cap3) ?he ?_
            case he => (first | rfl | (go_simp; (try with_reducible rfl)))
            (try simp only [Act.put, sA, sB, sC])
            refine wpList_q (by rfl) (.int .i64 len3) ?he ?_
            case he => (go_simp; (try with_reducible rfl))
            (try simp only [Act.put, sA, sB, sC])
            refine wpList_q (by rfl) (.bool true) ?he ?_
            case he => (go_simp; (first | done | omega))
            (try simp only [Act.put, sA, sB, sC])
            refine wpList_q (by rfl) (.bool true) ?he ?_
            case he => (first | rfl | (go_simp; (try with_reducible rfl)))
            (try simp only [Act.put, sA, sB, sC])
            refine wpList_q (by rfl) (.slice (some ⟨bG, oG, none⟩) len3 cap3) ?he ?_
            case he => (first | rfl | (go_simp; (try with_reducible rfl)))
            (try simp only [Act.put, sA, sB, sC])
            refine wpList_q (by rfl) (.int .i64 k) ?he ?_
            case he => (first | rfl | (go_simp; (try with_reducible rfl)))
            (try simp only [Act.put, sA, sB, sC])
            refine wpList_q (by rfl) (.pointer (some ⟨bG, (oG + k * 4), none⟩)) ?he ?_
            case he => (first | rfl | (go_simp; (try with_reducible rfl)))
            (try simp only [Act.put, sA, sB, sC])
            refine wpList_q (by rfl) (.pointer (some ⟨bG, (oG + k * 4), none⟩)) ?he ?_
            case he => (first | rfl | (go_simp; (try with_reducible rfl)))
            (try simp only [Act.put, sA, sB, sC])
            refine wpList_q (by rfl) (.int .i64 ((gs k).ki)) ?he ?_
            case he => exact exec_at 3 _ _ (keep_cell HS102.out (HCG.out 0 _ rfl)) rfl rfl Try.underlying3 rfl
            (try simp only [Act.put, sA, sB, sC])
            refine wpList_q (by rfl) (.bool true) ?he ?_
            case he => (have hq := HM9.out; go_simp; (first | done | omega))
            (try simp only [Act.put, sA, sB, sC])
            refine wpList_q (by rfl) (.bool true) ?he ?_
            case he => (first | rfl | (go_simp; (try with_reducible rfl)))
            (try simp only [Act.put, sA, sB, sC])
            refine wpList_nil ?_
            go_upto_region 12 with fail
            have hrK : ∀ W W' : World, Since W W' → (Since w W ∧ Blk W w.heap.size 23 (cfgA c) ∧ Blk W bL 56 (leaA l2) ∧ HasRow W bn13 56 10) → (Since w W' ∧ Blk W' w.heap.size 23 (cfgA c) ∧ Blk W' bL 56 (leaA l2) ∧ HasRow W' bn13 56 10) := fun W W' k ⟨h, h0, h1, h2⟩ => ⟨h.trans k, keep_blk k h0, keep_blk k h1, HasRow.keep k h2⟩
            have hrS : (fun W : World => Since w W ∧ Blk W w.heap.size 23 (cfgA c) ∧ Blk W bL 56 (leaA l2) ∧ HasRow W bn13 56 10) w102 := ⟨HS102.out, HBC102.out, HBL102.out, HasRow.of HBn13102.out rfl⟩
            have HRK := Lib.hid hrK
            have HRD := Lib.hid (show (fun W : World => Since w W ∧ Blk W w.heap.size 23 (cfgA c) ∧ Blk W bL 56 (leaA l2) ∧ HasRow W bn13 56 10) (World.drew w102) from ⟨Since.drew hrS.1, hrS.2⟩)
            clear hrK hrS
            refine wp_region_held_drew (S := fun W : World => Since w W ∧ Blk W w.heap.size 23 (cfgA c) ∧ Blk W bL 56 (leaA l2) ∧ HasRow W bn13 56 10) (by kernel_rfl) HRD.out (fun hHeld => ?_)
            refine wpAnyH_take (i := 0) (oi := ?o12__0) (v := .agg (cfgA c)) ?h12__0 (by kernel_rfl) (by kernel_rfl) (by kernel_rfl) ?q12__0 ?y12__0 (by assumption) ?_
            case h12__0 => (first | (simp only [gA, gB, gC]; done) | (simp only [gA, gB, gC]; exact rfl))
            case q12__0 => exact fun _ _ _ h => h
            case y12__0 => (refine Or.inl ⟨rfl, ?_⟩; intro w hSw; exact exec_load_row 23 _ _ hSw.2.1 rfl rfl Try.underlying23 rfl (by kernel_rfl))
            (try simp only [Act.put, sA, sB, sC])
            refine wpAnyH_take (i := 1) (oi := ?o12__1) (v := .agg (leaA l2)) ?h12__1 (by kernel_rfl) (by kernel_rfl) (by kernel_rfl) ?q12__1 ?y12__1 (by assumption) ?_
            case h12__1 => (first | (simp only [gA, gB, gC]; done) | (simp only [gA, gB, gC]; exact rfl))
            case q12__1 => exact fun _ _ _ h => h
            case y12__1 => (refine Or.inl ⟨rfl, ?_⟩; intro w hSw; exact exec_load_row 56 _ _ hSw.2.2.1 rfl rfl Try.underlying56 rfl (by kernel_rfl))
            (try simp only [Act.put, sA, sB, sC])
            refine wpAnyH_take (i := 2) (oi := ?o12__2) (v := .slice (some ⟨bC2, oC, none⟩) len2 cap2) ?h12__2 (by kernel_rfl) (by kernel_rfl) (by kernel_rfl) ?q12__2 ?y12__2 (by assumption) ?_
            case h12__2 => (first | (simp only [gA, gB, gC]; done) | (simp only [gA, gB, gC]; exact rfl))
            case q12__2 => exact fun _ _ _ h => h
            case y12__2 => (refine Or.inl ⟨rfl, ?_⟩; intro w hSw; (first | rfl | (go_simp; (try with_reducible rfl))))
            (try simp only [Act.put, sA, sB, sC])
            refine wpAnyH_take (i := 3) (oi := ?o12__3) (v := .int .i64 k) ?h12__3 (by kernel_rfl) (by kernel_rfl) (by kernel_rfl) ?q12__3 ?y12__3 (by assumption) ?_
            case h12__3 => (first | (simp only [gA, gB, gC]; done) | (simp only [gA, gB, gC]; exact rfl))
            case q12__3 => exact fun _ _ _ h => h
            case y12__3 => (refine Or.inl ⟨rfl, ?_⟩; intro w hSw; (first | rfl | (go_simp; (try with_reducible rfl))))
            (try simp only [Act.put, sA, sB, sC])
            refine wpAnyH_take (i := 4) (oi := ?o12__4) (v := .pointer (some ⟨bC2, (oC + k * 15), none⟩)) ?h12__4 (by kernel_rfl) (by kernel_rfl) (by kernel_rfl) ?q12__4 ?y12__4 (by assumption) ?_
            case h12__4 => (first | (simp only [gA, gB, gC]; done) | (simp only [gA, gB, gC]; exact rfl))
            case q12__4 => exact fun _ _ _ h => h
            case y12__4 => (refine Or.inl ⟨rfl, ?_⟩; intro w hSw; (first | rfl | (go_simp; (try with_reducible rfl))))
            (try simp only [Act.put, sA, sB, sC])
            refine wpAnyH_take (i := 5) (oi := ?o12__5) (v := .agg #[.int .i64 ((cs k).ds), .int .i64 ((cs k).da), .int .i64 ((cs k).un), .int .i64 ((cs k).wy), .int .i64 ((cs k).ti), .int .i64 ((cs k).ju), .int .i64 ((cs k).lo), .bool ((cs k).bl), .bool ((cs k).br), .int .i64 ((cs k).mo), .int .i64 ((cs k).ta), .bool ((cs k).ho), .int .u64 ((cs k).sp), .int .u64 ((cs k).su), .int .u64 ((cs k).sd)]) ?h12__5 (by kernel_rfl) (by kernel_rfl) (by kernel_rfl) ?q12__5 ?y12__5 (by assumption) ?_
            case h12__5 => (first | (simp only [gA, gB, gC]; done) | (simp only [gA, gB, gC]; exact rfl))
            case q12__5 => exact fun _ _ _ h => h
            case y12__5 => (refine Or.inl ⟨rfl, ?_⟩; intro w hSw; exact exec_rng (l := carC (cs k)) 76 _ _ (fun j v hv => keep_cell hSw.1 (HCC.out j v hv)) rfl rfl Try.underlying76 rfl (by kernel_rfl))
            (try simp only [Act.put, sA, sB, sC])
            refine wpAnyH_take (i := 6) (oi := ?o12__6) (v := .int .i64 t2) ?h12__6 (by kernel_rfl) (by kernel_rfl) (by kernel_rfl) ?q12__6 ?y12__6 (by assumption) ?_
            case h12__6 => (first | (simp only [gA, gB, gC]; done) | (simp only [gA, gB, gC]; exact rfl))
            case q12__6 => exact fun _ _ _ h => h
            case y12__6 => (refine Or.inl ⟨rfl, ?_⟩; intro w hSw; (first | rfl | (go_simp; (try with_reducible rfl))))
            (try simp only [Act.put, sA, sB, sC])
            refine wpAnyH_take (i := 7) (oi := ?o12__7) (v := .slice (some ⟨bG, oG, none⟩) len3 cap3) ?h12__7 (by kernel_rfl) (by kernel_rfl) (by kernel_rfl) ?q12__7 ?y12__7 (by assumption) ?_
            case h12__7 => (first | (simp only [gA, gB, gC]; done) | (simp only [gA, gB, gC]; exact rfl))
            case q12__7 => exact fun _ _ _ h => h
            case y12__7 => (refine Or.inl ⟨rfl, ?_⟩; intro w hSw; (first | rfl | (go_simp; (try with_reducible rfl))))
            (try simp only [Act.put, sA, sB, sC])
            refine wpAnyH_take (i := 8) (oi := ?o12__8) (v := .int .i64 k) ?h12__8 (by kernel_rfl) (by kernel_rfl) (by kernel_rfl) ?q12__8 ?y12__8 (by assumption) ?_
            case h12__8 => (first | (simp only [gA, gB, gC]; done) | (simp only [gA, gB, gC]; exact rfl))
            case q12__8 => exact fun _ _ _ h => h
            case y12__8 => (refine Or.inl ⟨rfl, ?_⟩; intro w hSw; (first | rfl | (go_simp; (try with_reducible rfl))))
            (try simp only [Act.put, sA, sB, sC])
            refine wpAnyH_take (i := 9) (oi := ?o12__9) (v := .pointer (some ⟨bG, (oG + k * 4), none⟩)) ?h12__9 (by kernel_rfl) (by kernel_rfl) (by kernel_rfl) ?q12__9 ?y12__9 (by assumption) ?_
            case h12__9 => (first | (simp only [gA, gB, gC]; done) | (simp only [gA, gB, gC]; exact rfl))
            case q12__9 => exact fun _ _ _ h => h
            case y12__9 => (refine Or.inl ⟨rfl, ?_⟩; intro w hSw; (first | rfl | (go_simp; (try with_reducible rfl))))
            (try simp only [Act.put, sA, sB, sC])
            refine wpAnyH_take (i := 10) (oi := ?o12__10) (v := .agg #[.int .i64 ((gs k).ki), .int .i64 ((gs k).a), .int .i64 ((gs k).b), .int .i64 ((gs k).c)]) ?h12__10 (by kernel_rfl) (by kernel_rfl) (by kernel_rfl) ?q12__10 ?y12__10 (by assumption) ?_
            case h12__10 => (first | (simp only [gA, gB, gC]; done) | (simp only [gA, gB, gC]; exact rfl))
            case q12__10 => exact fun _ _ _ h => h
            case y12__10 => (refine Or.inl ⟨rfl, ?_⟩; intro w hSw; exact exec_rng (l := Gl.msgC (gs k)) 85 _ _ (fun j v hv => keep_cell hSw.1 (HCG.out j v hv)) rfl rfl Try.underlying85 rfl (by kernel_rfl))
            (try simp only [Act.put, sA, sB, sC])
            refine wpAnyH_ready (rs := [11]) (by kernel_rfl) (by simp) ?_
            refine AllReadyH.cons (o := ?o12__11) ?h12__11 (fun K hK => ?_) AllReadyH.nil
            case h12__11 => (first | (simp only [gA, gB, gC]; done) | (simp only [gA, gB, gC]; exact rfl))
            (try go_simp)
            refine (hearP c l2 (cs k) t2 (gs k) HP.out.1 HP.out.2.1 HP.out.2.2.1 HP.out.2.2.2 _).mono ?_
            rintro e w103 ⟨v9, ph, un, re, ov, rfl, hfa, hb⟩
            (try go_wp2_with fail)
            refine hK.out _ _ (by (apply HRK.out; exact hb; exact hHeld)) (fun hHeld2 => ?_)
            have HFA := Lib.hid hfa
            clear hfa
            clear hK K hHeld hb
            have hHeld := hHeld2
            clear hHeld2
            (try simp only [Act.put, sA, sB, sC])
            refine wpAnyH_take (i := 12) (oi := ?o12__12) (v := .tuple #[.agg (leaA ⟨l2.se, l2.fl, l2.fm, l2.to, l2.ma, l2.ca, ph, un, re, l2.gr⟩), v9, .bool ov]) ?h12__12 (by kernel_rfl) (by kernel_rfl) (by kernel_rfl) ?q12__12 ?y12__12 (by assumption) ?_
            case h12__12 => (first | (simp only [gA, gB, gC]; done) | (simp only [gA, gB, gC]; exact rfl))
            case q12__12 => exact fun _ _ _ h => h
            case y12__12 => (refine Or.inl ⟨rfl, ?_⟩; intro w hSw; (first | rfl | (go_simp; (try with_reducible rfl))))
            (try simp only [Act.put, sA, sB, sC])
            refine wpAnyH_take (i := 13) (oi := ?o12__13) (v := .agg (leaA ⟨l2.se, l2.fl, l2.fm, l2.to, l2.ma, l2.ca, ph, un, re, l2.gr⟩)) ?h12__13 (by kernel_rfl) (by kernel_rfl) (by kernel_rfl) ?q12__13 ?y12__13 (by assumption) ?_
            case h12__13 => (first | (simp only [gA, gB, gC]; done) | (simp only [gA, gB, gC]; exact rfl))
            case q12__13 => exact fun _ _ _ h => h
            case y12__13 => (refine Or.inl ⟨rfl, ?_⟩; intro w hSw; (first | rfl | (go_simp; (try with_reducible rfl))))
            (try simp only [Act.put, sA, sB, sC])
            refine wpAnyH_take (i := 14) (oi := ?o12__14) (v := v9) ?h12__14 (by kernel_rfl) (by kernel_rfl) (by kernel_rfl) ?q12__14 ?y12__14 (by assumption) ?_
            case h12__14 => (first | (simp only [gA, gB, gC]; done) | (simp only [gA, gB, gC]; exact rfl))
            case q12__14 => exact fun _ _ _ h => h
            case y12__14 => (refine Or.inl ⟨rfl, ?_⟩; intro w hSw; (first | rfl | (go_simp; (try with_reducible rfl))))
            (try simp only [Act.put, sA, sB, sC])
            refine wpAnyH_take (i := 15) (oi := ?o12__15) (v := .bool ov) ?h12__15 (by kernel_rfl) (by kernel_rfl) (by kernel_rfl) ?q12__15 ?y12__15 (by assumption) ?_
            case h12__15 => (first | (simp only [gA, gB, gC]; done) | (simp only [gA, gB, gC]; exact rfl))
            case q12__15 => exact fun _ _ _ h => h
            case y12__15 => (refine Or.inl ⟨rfl, ?_⟩; intro w hSw; (first | rfl | (go_simp; (try with_reducible rfl))))
            (try simp only [Act.put, sA, sB, sC])
            refine wpAnyH_ready (rs := [16]) (by kernel_rfl) (by simp) ?_
            refine AllReadyH.cons (o := ?o12__16) ?h12__16 (fun K hK => ?_) AllReadyH.nil
            case h12__16 => (first | (simp only [gA, gB, gC]; done) | (simp only [gA, gB, gC]; exact rfl))
            rw [if_pos (by rfl)]
            refine wp_st_row 56 _ _ rfl #[.int .i64 l2.se, .int .i64 l2.fl, .int .i64 l2.fm, .int .i64 l2.to, .int .i64 l2.ma, .int .i64 l2.ca, .int .i64 ph, .int .i64 un, .int .i64 re, .int .i64 l2.gr] rfl rfl (hHeld.2.2.2) rfl (by simp [cfgA, leaA, carA, msgC, Value.oneCell']) (by kernel_rfl) ?_
            intro w104 hw
            have HRn13 := Lib.hid (show Blk w104 bn13 56 (leaA ⟨l2.se, l2.fl, l2.fm, l2.to, l2.ma, l2.ca, ph, un, re, l2.gr⟩) by obtain ⟨old, Bo, _⟩ := hHeld.2.2.2; rw [hw]; exact Blk.row Bo _)
            have hHeld3 : (fun W : World => Since w W ∧ Blk W w.heap.size 23 (cfgA c) ∧ Blk W bL 56 (leaA l2) ∧ HasRow W bn13 56 10) w104 := ⟨by rw [hw]; exact Since.setRow hHeld.1 HGn13.out _, by rw [hw]; exact Blk.row_far (hHeld.2.1) (Ne.symm HNn13C.out) _, by rw [hw]; exact Blk.row_far (hHeld.2.2.1) (Ne.symm HNn13L.out) _, HasRow.of HRn13.out rfl⟩
            refine hK.out _ _ hHeld3 (fun hHeld2 => ?_)
            clear hK K hHeld hHeld3 hw
            have hHeld := hHeld2
            clear hHeld2
            (try simp only [Act.put, sA, sB, sC])
            refine wpAnyH_take (i := 17) (oi := ?o12__17) (v := .bool ov) ?h12__17 (by kernel_rfl) (by kernel_rfl) (by kernel_rfl) ?q12__17 ?y12__17 (by assumption) ?_
            case h12__17 => (first | (simp only [gA, gB, gC]; done) | (simp only [gA, gB, gC]; exact rfl))
            case q12__17 => exact fun _ _ _ h => h
            case y12__17 => (refine Or.inl ⟨rfl, ?_⟩; intro w hSw; (first | rfl | (go_simp; (try with_reducible rfl))))
            (try simp only [Act.put, sA, sB, sC])
            refine wpAnyH_done (by kernel_rfl) ?_ _
            have HSd12 := Lib.hid hHeld.1
            have HBCd12 := Lib.hid (hHeld.2.1)
            have HBLd12 := Lib.hid (hHeld.2.2.1)
            have HBn13d12 := Lib.hid HRn13.out
            clear HRn13
            clear hHeld HRK HRD HS102 HBC102 HBL102 HBn13102
            go_upto_region 14 with fail
            refine wp_region_lit ?_
            refine wpList_q (by rfl) (.pointer (some ⟨bn13, 0, none⟩)) ?he ?_
            case he => (first | rfl | (go_simp; (try with_reducible rfl)))
            (try simp only [Act.put, sA, sB, sC])
            refine wpList_q (by rfl) (.agg #[.int .i64 l2.se, .int .i64 l2.fl, .int .i64 l2.fm, .int .i64 l2.to, .int .i64 l2.ma]) ?he ?_
            case he => exact exec_part (n := 5) 30 _ _ HBn13d12.out rfl rfl rfl rfl Try.underlying30 rfl (by kernel_rfl)
            (try simp only [Act.put, sA, sB, sC])
            refine wpList_q (by rfl) (.pointer (some ⟨bL, 0, none⟩)) ?he ?_
            case he => (first | rfl | (go_simp; (try with_reducible rfl)))
            (try simp only [Act.put, sA, sB, sC])
            refine wpList_q (by rfl) (.agg #[.int .i64 l2.se, .int .i64 l2.fl, .int .i64 l2.fm, .int .i64 l2.to, .int .i64 l2.ma]) ?he ?_
            case he => exact exec_part (n := 5) 30 _ _ HBLd12.out rfl rfl rfl rfl Try.underlying30 rfl (by kernel_rfl)
            (try simp only [Act.put, sA, sB, sC])
            refine wpList_q (by rfl) (.bool false) ?he ?_
            case he => (go_simp; (try with_reducible rfl))
            (try simp only [Act.put, sA, sB, sC])
            refine wpList_q (by rfl) (.bool false) ?he ?_
            case he => (first | rfl | (go_simp; (try with_reducible rfl)))
            (try simp only [Act.put, sA, sB, sC])
            refine wpList_q (by rfl) (.pointer (some ⟨bn13, 5, none⟩)) ?he ?_
            case he => (first | rfl | (go_simp; (try with_reducible rfl)))
            (try simp only [Act.put, sA, sB, sC])
            refine wpList_q (by rfl) (.int .i64 l2.ca) ?he ?_
            case he => exact exec_cell 3 _ _ HBn13d12.out rfl rfl rfl Try.underlying3 rfl
            (try simp only [Act.put, sA, sB, sC])
            refine wpList_q (by rfl) (.pointer (some ⟨bL, 5, none⟩)) ?he ?_
            case he => (first | rfl | (go_simp; (try with_reducible rfl)))
            (try simp only [Act.put, sA, sB, sC])
            refine wpList_q (by rfl) (.int .i64 l2.ca) ?he ?_
            case he => exact exec_cell 3 _ _ HBLd12.out rfl rfl rfl Try.underlying3 rfl
            (try simp only [Act.put, sA, sB, sC])
            refine wpList_q (by rfl) (.bool false) ?he ?_
            case he => (go_simp; (try with_reducible rfl))
            (try simp only [Act.put, sA, sB, sC])
            refine wpList_q (by rfl) (.bool false) ?he ?_
            case he => (first | rfl | (go_simp; (try with_reducible rfl)))
            (try simp only [Act.put, sA, sB, sC])
            refine wpList_q (by rfl) (.bool false) ?he ?_
            case he => (first | rfl | (go_simp; (try with_reducible rfl)))
            (try simp only [Act.put, sA, sB, sC])
            refine wpList_q (by rfl) (.pointer (some ⟨bn13, 9, none⟩)) ?he ?_
            case he => (first | rfl | (go_simp; (try with_reducible rfl)))
            (try simp only [Act.put, sA, sB, sC])
            refine wpList_q (by rfl) (.int .i64 l2.gr) ?he ?_
            case he => exact exec_cell 3 _ _ HBn13d12.out rfl rfl rfl Try.underlying3 rfl
            (try simp only [Act.put, sA, sB, sC])
            refine wpList_q (by rfl) (.pointer (some ⟨bL, 9, none⟩)) ?he ?_
            case he => (first | rfl | (go_simp; (try with_reducible rfl)))
            (try simp only [Act.put, sA, sB, sC])
            refine wpList_q (by rfl) (.int .i64 l2.gr) ?he ?_
            case he => exact exec_cell 3 _ _ HBLd12.out rfl rfl rfl Try.underlying3 rfl
            (try simp only [Act.put, sA, sB, sC])
            refine wpList_q (by rfl) (.bool false) ?he ?_
            case he => (go_simp; (try with_reducible rfl))
            (try simp only [Act.put, sA, sB, sC])
            refine wpList_q (by rfl) (.bool false) ?he ?_
            case he => (first | rfl | (go_simp; (try with_reducible rfl)))
            (try simp only [Act.put, sA, sB, sC])
            refine wpList_q (by rfl) (.bool false) ?he ?_
            case he => (first | rfl | (go_simp; (try with_reducible rfl)))
            (try simp only [Act.put, sA, sB, sC])
            refine wpList_q (by rfl) (.pointer (some ⟨bn13, 6, none⟩)) ?he ?_
            case he => (first | rfl | (go_simp; (try with_reducible rfl)))
            (try simp only [Act.put, sA, sB, sC])
            refine wpList_q (by rfl) (.int .i64 ph) ?he ?_
            case he => exact exec_cell 3 _ _ HBn13d12.out rfl rfl rfl Try.underlying3 rfl
            (try simp only [Act.put, sA, sB, sC])
            refine wpList_q (by rfl) (.pointer (some ⟨bL, 6, none⟩)) ?he ?_
            case he => (first | rfl | (go_simp; (try with_reducible rfl)))
            (try simp only [Act.put, sA, sB, sC])
            refine wpList_q (by rfl) (.int .i64 l2.ph) ?he ?_
            case he => exact exec_cell 3 _ _ HBLd12.out rfl rfl rfl Try.underlying3 rfl
            (try simp only [Act.put, sA, sB, sC])
            refine wpList_q (by rfl) (.bool false) ?he ?_
            case he => (have hq := HFA.out; unfold Nx at hq; go_simp; (first | done | omega))
            (try simp only [Act.put, sA, sB, sC])
            refine wpList_q (by rfl) (.bool false) ?he ?_
            case he => (first | rfl | (go_simp; (try with_reducible rfl)))
            (try simp only [Act.put, sA, sB, sC])
            refine wpList_q (by rfl) (.bool false) ?he ?_
            case he => (first | rfl | (go_simp; (try with_reducible rfl)))
            (try simp only [Act.put, sA, sB, sC])
            refine wpList_q (by rfl) (.pointer (some ⟨bn13, 6, none⟩)) ?he ?_
            case he => (first | rfl | (go_simp; (try with_reducible rfl)))
            (try simp only [Act.put, sA, sB, sC])
            refine wpList_q (by rfl) (.int .i64 ph) ?he ?_
            case he => exact exec_cell 3 _ _ HBn13d12.out rfl rfl rfl Try.underlying3 rfl
            (try simp only [Act.put, sA, sB, sC])
            refine wpList_q (by rfl) (.pointer (some ⟨bL, 6, none⟩)) ?he ?_
            case he => (first | rfl | (go_simp; (try with_reducible rfl)))
            (try simp only [Act.put, sA, sB, sC])
            refine wpList_q (by rfl) (.int .i64 l2.ph) ?he ?_
            case he => exact exec_cell 3 _ _ HBLd12.out rfl rfl rfl Try.underlying3 rfl
            (try simp only [Act.put, sA, sB, sC])
            refine wpList_q (by rfl) (.int .i64 (l2.ph + 1)) ?he ?_
            case he => (go_simp; (first | done | (refine Ri.wr _ ?_ ?_ <;> (have q0 := HP.out; omega)) | (have q0 := HP.out; omega) | (have q0 := HP.out; split <;> omega) | (have q0 := HP.out; intro hh; omega)))
            (try simp only [Act.put, sA, sB, sC])
            refine wpList_q (by rfl) (.bool false) ?he ?_
            case he => (have hq := HFA.out; unfold Nx at hq; go_simp; (first | done | omega))
            (try simp only [Act.put, sA, sB, sC])
            refine wpList_q (by rfl) (.bool false) ?he ?_
            case he => (first | rfl | (go_simp; (try with_reducible rfl)))
            (try simp only [Act.put, sA, sB, sC])
            refine wpList_q (by rfl) (.bool false) ?he ?_
            case he => (first | rfl | (go_simp; (try with_reducible rfl)))
            (try simp only [Act.put, sA, sB, sC])
            refine wpList_q (by rfl) (.pointer (some ⟨bn13, 8, none⟩)) ?he ?_
            case he => (first | rfl | (go_simp; (try with_reducible rfl)))
            (try simp only [Act.put, sA, sB, sC])
            refine wpList_q (by rfl) (.int .i64 re) ?he ?_
            case he => exact exec_cell 3 _ _ HBn13d12.out rfl rfl rfl Try.underlying3 rfl
            (try simp only [Act.put, sA, sB, sC])
            refine wpList_q (by rfl) (.pointer (some ⟨bL, 8, none⟩)) ?he ?_
            case he => (first | rfl | (go_simp; (try with_reducible rfl)))
            (try simp only [Act.put, sA, sB, sC])
            refine wpList_q (by rfl) (.int .i64 l2.re) ?he ?_
            case he => exact exec_cell 3 _ _ HBLd12.out rfl rfl rfl Try.underlying3 rfl
            (try simp only [Act.put, sA, sB, sC])
            refine wpList_q (by rfl) (.bool false) ?he ?_
            case he => (have hq := HFA.out; unfold Nx at hq; go_simp; (first | done | omega))
            (try simp only [Act.put, sA, sB, sC])
            refine wpList_q (by rfl) (.bool false) ?he ?_
            case he => (first | rfl | (go_simp; (try with_reducible rfl)))
            (try simp only [Act.put, sA, sB, sC])
            refine wpList_nil ?_
            cases hov : ov
            · skip
              clear hov
              go_upto_region 16 with fail
              refine wp_region_lit ?_
              refine wpList_q (by rfl) (.bool false) ?he ?_
              case he => (first | rfl | (go_simp; (try with_reducible rfl)))
              (try simp only [Act.put, sA, sB, sC])
              refine wpList_nil ?_
              go_upto_region 18 with fail
              refine wp_region_lit ?_
              refine wpList_q (by rfl) (.agg (leaA ⟨l2.se, l2.fl, l2.fm, l2.to, l2.ma, l2.ca, ph, un, re, l2.gr⟩)) ?he ?_
              case he => exact exec_load_row 56 _ _ HBn13d12.out rfl rfl Try.underlying56 rfl (by kernel_rfl)
              (try simp only [Act.put, sA, sB, sC])
              refine wpList_wp (by rfl) (fun K hK => ?_)
              refine wp_st_row 56 _ _ rfl (leaA ⟨l2.se, l2.fl, l2.fm, l2.to, l2.ma, l2.ca, ph, un, re, l2.gr⟩) rfl rfl (HasRow.of HBLd12.out rfl) rfl (by simp [cfgA, leaA, carA, msgC, Value.oneCell']) (by kernel_rfl) ?_
              intro w105 hw
              refine hK.out _ _ ?_
              clear hK K
              (try simp only [Act.put, sA, sB, sC])
              have HS105 := Lib.hid (show Since w w105 by rw [hw]; exact Since.setRow HSd12.out (by have := HNE3.out; omega) _)
              have HBC105 := Lib.hid (show Blk w105 w.heap.size 23 (cfgA c) by rw [hw]; exact Blk.row_far HBCd12.out (by have := HNE3.out; omega) _)
              have HBL105 := Lib.hid (show Blk w105 bL 56 (leaA ⟨l2.se, l2.fl, l2.fm, l2.to, l2.ma, l2.ca, ph, un, re, l2.gr⟩) by rw [hw]; exact Blk.row HBLd12.out _)
              have HBn13105 := Lib.hid (show Blk w105 bn13 56 (leaA ⟨l2.se, l2.fl, l2.fm, l2.to, l2.ma, l2.ca, ph, un, re, l2.gr⟩) by rw [hw]; exact Blk.row_far HBn13d12.out HNn13L.out _)
              clear hw HSd12 HBCd12 HBLd12 HBn13d12
              refine wpList_nil ?_
              go_wp2_with fail
              go_roundw
              case rel => exact ⟨k + 1, t2, ⟨l2.se, l2.fl, l2.fm, l2.to, l2.ma, l2.ca, ph, un, re, l2.gr⟩, by omega, by omega, HTT.out.1, by have := HTT.out; omega, rfl, by go_num, Lib.hid ⟨⟨HFA.out.2.2.1, HFA.out.2.2.2.1, by have := HP.out; have := HFA.out.2.2.2.2.1; show _ ≤ re; omega, HFA.out.2.2.2.2.2⟩, HS105.out, HBC105.out, HBL105.out⟩⟩
              case measure => simp [intOf]; omega
            · skip
              clear hov
              go_upto_region 16 with fail
              refine wp_region_lit ?_
              refine wpList_q (by rfl) (.bool true) ?he ?_
              case he => (first | rfl | (go_simp; (try with_reducible rfl)))
              (try simp only [Act.put, sA, sB, sC])
              refine wpList_nil ?_
              go_upto_region 17 with fail
              refine wp_region_lit ?_
              refine wpList_wp (by rfl) (fun K hK => ?_)
              (try go_simp)
              refine (ans _).mono ?_
              rintro e w105 ⟨rfl, hb⟩
              (try go_wp2_with fail)
              refine hK.out _ _ ?_
              clear hK K
              (try simp only [Act.put, sA, sB, sC])
              have HS105 := Lib.hid (Since.trans HSd12.out hb)
              have HBC105 := Lib.hid (keep_blk hb HBCd12.out)
              have HBL105 := Lib.hid (keep_blk hb HBLd12.out)
              have HBn13105 := Lib.hid (keep_blk hb HBn13d12.out)
              clear HSd12 HBCd12 HBLd12 HBn13d12
              clear hb
              refine wpList_q (by rfl) (.bool true) ?he ?_
              case he => (first | rfl | (go_simp; (try with_reducible rfl)))
              (try simp only [Act.put, sA, sB, sC])
              refine wpList_nil ?_
              (try go_wp2_with fail)
              go_ret
              exact ⟨rfl, HS105.out⟩
          · have HM9 := Lib.hid hm; clear hm
            go_upto_region 11 with fail
            refine wp_region_lit ?_
            refine wpList_q (by rfl) (.int .i64 k) ?he ?_
            case he => (first | rfl | (go_simp; (try with_reducible rfl)))
            (try simp only [Act.put, sA, sB, sC])
            refine wpList_q (by rfl) (.slice (some ⟨bG, oG, none⟩) len3 cap3) ?he ?_
            case he => (first | rfl | (go_simp; (try with_reducible rfl)))
            (try simp only [Act.put, sA, sB, sC])
            refine wpList_q (by rfl) (.int .i64 len3) ?he ?_
            case he => (go_simp; (try with_reducible rfl))
            (try simp only [Act.put, sA, sB, sC])
            refine wpList_q (by rfl) (.bool true) ?he ?_
            case he => (go_simp; (first | done | omega))
            (try simp only [Act.put, sA, sB, sC])
            refine wpList_q (by rfl) (.bool true) ?he ?_
            case he => (first | rfl | (go_simp; (try with_reducible rfl)))
            (try simp only [Act.put, sA, sB, sC])
            refine wpList_q (by rfl) (.slice (some ⟨bG, oG, none⟩) len3 cap3) ?he ?_
            case he => (first | rfl | (go_simp; (try with_reducible rfl)))
            (try simp only [Act.put, sA, sB, sC])
            refine wpList_q (by rfl) (.int .i64 k) ?he ?_
            case he => (first | rfl | (go_simp; (try with_reducible rfl)))
            (try simp only [Act.put, sA, sB, sC])
            refine wpList_q (by rfl) (.pointer (some ⟨bG, (oG + k * 4), none⟩)) ?he ?_
            case he => (first | rfl | (go_simp; (try with_reducible rfl)))
            (try simp only [Act.put, sA, sB, sC])
            refine wpList_q (by rfl) (.pointer (some ⟨bG, (oG + k * 4), none⟩)) ?he ?_
            case he => (first | rfl | (go_simp; (try with_reducible rfl)))
            (try simp only [Act.put, sA, sB, sC])
            refine wpList_q (by rfl) (.int .i64 ((gs k).ki)) ?he ?_
            case he => exact exec_at 3 _ _ (keep_cell HS102.out (HCG.out 0 _ rfl)) rfl rfl Try.underlying3 rfl
            (try simp only [Act.put, sA, sB, sC])
            refine wpList_q (by rfl) (.bool false) ?he ?_
            case he => (have hq := HM9.out; go_simp; (first | done | omega))
            (try simp only [Act.put, sA, sB, sC])
            refine wpList_q (by rfl) (.bool false) ?he ?_
            case he => (first | rfl | (go_simp; (try with_reducible rfl)))
            (try simp only [Act.put, sA, sB, sC])
            refine wpList_nil ?_
            go_upto_region 13 with fail
            have hrK : ∀ W W' : World, Since W W' → (Since w W ∧ Blk W w.heap.size 23 (cfgA c) ∧ Blk W bL 56 (leaA l2) ∧ HasRow W bn13 56 10) → (Since w W' ∧ Blk W' w.heap.size 23 (cfgA c) ∧ Blk W' bL 56 (leaA l2) ∧ HasRow W' bn13 56 10) := fun W W' k ⟨h, h0, h1, h2⟩ => ⟨h.trans k, keep_blk k h0, keep_blk k h1, HasRow.keep k h2⟩
            have hrS : (fun W : World => Since w W ∧ Blk W w.heap.size 23 (cfgA c) ∧ Blk W bL 56 (leaA l2) ∧ HasRow W bn13 56 10) w102 := ⟨HS102.out, HBC102.out, HBL102.out, HasRow.of HBn13102.out rfl⟩
            have HRK := Lib.hid hrK
            have HRD := Lib.hid (show (fun W : World => Since w W ∧ Blk W w.heap.size 23 (cfgA c) ∧ Blk W bL 56 (leaA l2) ∧ HasRow W bn13 56 10) (World.drew w102) from ⟨Since.drew hrS.1, hrS.2⟩)
            clear hrK hrS
            refine wp_region_held_drew (S := fun W : World => Since w W ∧ Blk W w.heap.size 23 (cfgA c) ∧ Blk W bL 56 (leaA l2) ∧ HasRow W bn13 56 10) (by kernel_rfl) HRD.out (fun hHeld => ?_)
            refine wpAnyH_take (i := 0) (oi := ?o13__0) (v := .agg (cfgA c)) ?h13__0 (by kernel_rfl) (by kernel_rfl) (by kernel_rfl) ?q13__0 ?y13__0 (by assumption) ?_
            case h13__0 => (first | (simp only [gA, gB, gC]; done) | (simp only [gA, gB, gC]; exact rfl))
            case q13__0 => exact fun _ _ _ h => h
            case y13__0 => (refine Or.inl ⟨rfl, ?_⟩; intro w hSw; exact exec_load_row 23 _ _ hSw.2.1 rfl rfl Try.underlying23 rfl (by kernel_rfl))
            (try simp only [Act.put, sA, sB, sC])
            refine wpAnyH_take (i := 1) (oi := ?o13__1) (v := .agg (leaA l2)) ?h13__1 (by kernel_rfl) (by kernel_rfl) (by kernel_rfl) ?q13__1 ?y13__1 (by assumption) ?_
            case h13__1 => (first | (simp only [gA, gB, gC]; done) | (simp only [gA, gB, gC]; exact rfl))
            case q13__1 => exact fun _ _ _ h => h
            case y13__1 => (refine Or.inl ⟨rfl, ?_⟩; intro w hSw; exact exec_load_row 56 _ _ hSw.2.2.1 rfl rfl Try.underlying56 rfl (by kernel_rfl))
            (try simp only [Act.put, sA, sB, sC])
            refine wpAnyH_take (i := 2) (oi := ?o13__2) (v := .slice (some ⟨bC2, oC, none⟩) len2 cap2) ?h13__2 (by kernel_rfl) (by kernel_rfl) (by kernel_rfl) ?q13__2 ?y13__2 (by assumption) ?_
            case h13__2 => (first | (simp only [gA, gB, gC]; done) | (simp only [gA, gB, gC]; exact rfl))
            case q13__2 => exact fun _ _ _ h => h
            case y13__2 => (refine Or.inl ⟨rfl, ?_⟩; intro w hSw; (first | rfl | (go_simp; (try with_reducible rfl))))
            (try simp only [Act.put, sA, sB, sC])
            refine wpAnyH_take (i := 3) (oi := ?o13__3) (v := .int .i64 k) ?h13__3 (by kernel_rfl) (by kernel_rfl) (by kernel_rfl) ?q13__3 ?y13__3 (by assumption) ?_
            case h13__3 => (first | (simp only [gA, gB, gC]; done) | (simp only [gA, gB, gC]; exact rfl))
            case q13__3 => exact fun _ _ _ h => h
            case y13__3 => (refine Or.inl ⟨rfl, ?_⟩; intro w hSw; (first | rfl | (go_simp; (try with_reducible rfl))))
            (try simp only [Act.put, sA, sB, sC])
            refine wpAnyH_take (i := 4) (oi := ?o13__4) (v := .pointer (some ⟨bC2, (oC + k * 15), none⟩)) ?h13__4 (by kernel_rfl) (by kernel_rfl) (by kernel_rfl) ?q13__4 ?y13__4 (by assumption) ?_
            case h13__4 => (first | (simp only [gA, gB, gC]; done) | (simp only [gA, gB, gC]; exact rfl))
            case q13__4 => exact fun _ _ _ h => h
            case y13__4 => (refine Or.inl ⟨rfl, ?_⟩; intro w hSw; (first | rfl | (go_simp; (try with_reducible rfl))))
            (try simp only [Act.put, sA, sB, sC])
            refine wpAnyH_take (i := 5) (oi := ?o13__5) (v := .agg #[.int .i64 ((cs k).ds), .int .i64 ((cs k).da), .int .i64 ((cs k).un), .int .i64 ((cs k).wy), .int .i64 ((cs k).ti), .int .i64 ((cs k).ju), .int .i64 ((cs k).lo), .bool ((cs k).bl), .bool ((cs k).br), .int .i64 ((cs k).mo), .int .i64 ((cs k).ta), .bool ((cs k).ho), .int .u64 ((cs k).sp), .int .u64 ((cs k).su), .int .u64 ((cs k).sd)]) ?h13__5 (by kernel_rfl) (by kernel_rfl) (by kernel_rfl) ?q13__5 ?y13__5 (by assumption) ?_
            case h13__5 => (first | (simp only [gA, gB, gC]; done) | (simp only [gA, gB, gC]; exact rfl))
            case q13__5 => exact fun _ _ _ h => h
            case y13__5 => (refine Or.inl ⟨rfl, ?_⟩; intro w hSw; exact exec_rng (l := carC (cs k)) 76 _ _ (fun j v hv => keep_cell hSw.1 (HCC.out j v hv)) rfl rfl Try.underlying76 rfl (by kernel_rfl))
            (try simp only [Act.put, sA, sB, sC])
            refine wpAnyH_take (i := 6) (oi := ?o13__6) (v := .int .i64 t2) ?h13__6 (by kernel_rfl) (by kernel_rfl) (by kernel_rfl) ?q13__6 ?y13__6 (by assumption) ?_
            case h13__6 => (first | (simp only [gA, gB, gC]; done) | (simp only [gA, gB, gC]; exact rfl))
            case q13__6 => exact fun _ _ _ h => h
            case y13__6 => (refine Or.inl ⟨rfl, ?_⟩; intro w hSw; (first | rfl | (go_simp; (try with_reducible rfl))))
            (try simp only [Act.put, sA, sB, sC])
            refine wpAnyH_ready (rs := [7]) (by kernel_rfl) (by simp) ?_
            refine AllReadyH.cons (o := ?o13__7) ?h13__7 (fun K hK => ?_) AllReadyH.nil
            case h13__7 => (first | (simp only [gA, gB, gC]; done) | (simp only [gA, gB, gC]; exact rfl))
            (try go_simp)
            refine (tickP c l2 (cs k) t2 HP.out.1 HP.out.2.1 HP.out.2.2.2 _).mono ?_
            rintro e w103 ⟨v9, ph, un, re, ov, rfl, hfa, hb⟩
            (try go_wp2_with fail)
            refine hK.out _ _ (by (apply HRK.out; exact hb; exact hHeld)) (fun hHeld2 => ?_)
            have HFA := Lib.hid hfa
            clear hfa
            clear hK K hHeld hb
            have hHeld := hHeld2
            clear hHeld2
            (try simp only [Act.put, sA, sB, sC])
            refine wpAnyH_take (i := 8) (oi := ?o13__8) (v := .tuple #[.agg (leaA ⟨l2.se, l2.fl, l2.fm, l2.to, l2.ma, l2.ca, ph, un, re, l2.gr⟩), v9, .bool ov]) ?h13__8 (by kernel_rfl) (by kernel_rfl) (by kernel_rfl) ?q13__8 ?y13__8 (by assumption) ?_
            case h13__8 => (first | (simp only [gA, gB, gC]; done) | (simp only [gA, gB, gC]; exact rfl))
            case q13__8 => exact fun _ _ _ h => h
            case y13__8 => (refine Or.inl ⟨rfl, ?_⟩; intro w hSw; (first | rfl | (go_simp; (try with_reducible rfl))))
            (try simp only [Act.put, sA, sB, sC])
            refine wpAnyH_take (i := 9) (oi := ?o13__9) (v := .agg (leaA ⟨l2.se, l2.fl, l2.fm, l2.to, l2.ma, l2.ca, ph, un, re, l2.gr⟩)) ?h13__9 (by kernel_rfl) (by kernel_rfl) (by kernel_rfl) ?q13__9 ?y13__9 (by assumption) ?_
            case h13__9 => (first | (simp only [gA, gB, gC]; done) | (simp only [gA, gB, gC]; exact rfl))
            case q13__9 => exact fun _ _ _ h => h
            case y13__9 => (refine Or.inl ⟨rfl, ?_⟩; intro w hSw; (first | rfl | (go_simp; (try with_reducible rfl))))
            (try simp only [Act.put, sA, sB, sC])
            refine wpAnyH_take (i := 10) (oi := ?o13__10) (v := v9) ?h13__10 (by kernel_rfl) (by kernel_rfl) (by kernel_rfl) ?q13__10 ?y13__10 (by assumption) ?_
            case h13__10 => (first | (simp only [gA, gB, gC]; done) | (simp only [gA, gB, gC]; exact rfl))
            case q13__10 => exact fun _ _ _ h => h
            case y13__10 => (refine Or.inl ⟨rfl, ?_⟩; intro w hSw; (first | rfl | (go_simp; (try with_reducible rfl))))
            (try simp only [Act.put, sA, sB, sC])
            refine wpAnyH_take (i := 11) (oi := ?o13__11) (v := .bool ov) ?h13__11 (by kernel_rfl) (by kernel_rfl) (by kernel_rfl) ?q13__11 ?y13__11 (by assumption) ?_
            case h13__11 => (first | (simp only [gA, gB, gC]; done) | (simp only [gA, gB, gC]; exact rfl))
            case q13__11 => exact fun _ _ _ h => h
            case y13__11 => (refine Or.inl ⟨rfl, ?_⟩; intro w hSw; (first | rfl | (go_simp; (try with_reducible rfl))))
            (try simp only [Act.put, sA, sB, sC])
            refine wpAnyH_ready (rs := [12]) (by kernel_rfl) (by simp) ?_
            refine AllReadyH.cons (o := ?o13__12) ?h13__12 (fun K hK => ?_) AllReadyH.nil
            case h13__12 => (first | (simp only [gA, gB, gC]; done) | (simp only [gA, gB, gC]; exact rfl))
            rw [if_pos (by rfl)]
            refine wp_st_row 56 _ _ rfl #[.int .i64 l2.se, .int .i64 l2.fl, .int .i64 l2.fm, .int .i64 l2.to, .int .i64 l2.ma, .int .i64 l2.ca, .int .i64 ph, .int .i64 un, .int .i64 re, .int .i64 l2.gr] rfl rfl (hHeld.2.2.2) rfl (by simp [cfgA, leaA, carA, msgC, Value.oneCell']) (by kernel_rfl) ?_
            intro w104 hw
            have HRn13 := Lib.hid (show Blk w104 bn13 56 (leaA ⟨l2.se, l2.fl, l2.fm, l2.to, l2.ma, l2.ca, ph, un, re, l2.gr⟩) by obtain ⟨old, Bo, _⟩ := hHeld.2.2.2; rw [hw]; exact Blk.row Bo _)
            have hHeld3 : (fun W : World => Since w W ∧ Blk W w.heap.size 23 (cfgA c) ∧ Blk W bL 56 (leaA l2) ∧ HasRow W bn13 56 10) w104 := ⟨by rw [hw]; exact Since.setRow hHeld.1 HGn13.out _, by rw [hw]; exact Blk.row_far (hHeld.2.1) (Ne.symm HNn13C.out) _, by rw [hw]; exact Blk.row_far (hHeld.2.2.1) (Ne.symm HNn13L.out) _, HasRow.of HRn13.out rfl⟩
            refine hK.out _ _ hHeld3 (fun hHeld2 => ?_)
            clear hK K hHeld hHeld3 hw
            have hHeld := hHeld2
            clear hHeld2
            (try simp only [Act.put, sA, sB, sC])
            refine wpAnyH_take (i := 13) (oi := ?o13__13) (v := .bool ov) ?h13__13 (by kernel_rfl) (by kernel_rfl) (by kernel_rfl) ?q13__13 ?y13__13 (by assumption) ?_
            case h13__13 => (first | (simp only [gA, gB, gC]; done) | (simp only [gA, gB, gC]; exact rfl))
            case q13__13 => exact fun _ _ _ h => h
            case y13__13 => (refine Or.inl ⟨rfl, ?_⟩; intro w hSw; (first | rfl | (go_simp; (try with_reducible rfl))))
            (try simp only [Act.put, sA, sB, sC])
            refine wpAnyH_done (by kernel_rfl) ?_ _
            have HSd13 := Lib.hid hHeld.1
            have HBCd13 := Lib.hid (hHeld.2.1)
            have HBLd13 := Lib.hid (hHeld.2.2.1)
            have HBn13d13 := Lib.hid HRn13.out
            clear HRn13
            clear hHeld HRK HRD HS102 HBC102 HBL102 HBn13102
            go_upto_region 14 with fail
            refine wp_region_lit ?_
            refine wpList_q (by rfl) (.pointer (some ⟨bn13, 0, none⟩)) ?he ?_
            case he => (first | rfl | (go_simp; (try with_reducible rfl)))
            (try simp only [Act.put, sA, sB, sC])
            refine wpList_q (by rfl) (.agg #[.int .i64 l2.se, .int .i64 l2.fl, .int .i64 l2.fm, .int .i64 l2.to, .int .i64 l2.ma]) ?he ?_
            case he => exact exec_part (n := 5) 30 _ _ HBn13d13.out rfl rfl rfl rfl Try.underlying30 rfl (by kernel_rfl)
            (try simp only [Act.put, sA, sB, sC])
            refine wpList_q (by rfl) (.pointer (some ⟨bL, 0, none⟩)) ?he ?_
            case he => (first | rfl | (go_simp; (try with_reducible rfl)))
            (try simp only [Act.put, sA, sB, sC])
            refine wpList_q (by rfl) (.agg #[.int .i64 l2.se, .int .i64 l2.fl, .int .i64 l2.fm, .int .i64 l2.to, .int .i64 l2.ma]) ?he ?_
            case he => exact exec_part (n := 5) 30 _ _ HBLd13.out rfl rfl rfl rfl Try.underlying30 rfl (by kernel_rfl)
            (try simp only [Act.put, sA, sB, sC])
            refine wpList_q (by rfl) (.bool false) ?he ?_
            case he => (go_simp; (try with_reducible rfl))
            (try simp only [Act.put, sA, sB, sC])
            refine wpList_q (by rfl) (.bool false) ?he ?_
            case he => (first | rfl | (go_simp; (try with_reducible rfl)))
            (try simp only [Act.put, sA, sB, sC])
            refine wpList_q (by rfl) (.pointer (some ⟨bn13, 5, none⟩)) ?he ?_
            case he => (first | rfl | (go_simp; (try with_reducible rfl)))
            (try simp only [Act.put, sA, sB, sC])
            refine wpList_q (by rfl) (.int .i64 l2.ca) ?he ?_
            case he => exact exec_cell 3 _ _ HBn13d13.out rfl rfl rfl Try.underlying3 rfl
            (try simp only [Act.put, sA, sB, sC])
            refine wpList_q (by rfl) (.pointer (some ⟨bL, 5, none⟩)) ?he ?_
            case he => (first | rfl | (go_simp; (try with_reducible rfl)))
            (try simp only [Act.put, sA, sB, sC])
            refine wpList_q (by rfl) (.int .i64 l2.ca) ?he ?_
            case he => exact exec_cell 3 _ _ HBLd13.out rfl rfl rfl Try.underlying3 rfl
            (try simp only [Act.put, sA, sB, sC])
            refine wpList_q (by rfl) (.bool false) ?he ?_
            case he => (go_simp; (try with_reducible rfl))
            (try simp only [Act.put, sA, sB, sC])
            refine wpList_q (by rfl) (.bool false) ?he ?_
            case he => (first | rfl | (go_simp; (try with_reducible rfl)))
            (try simp only [Act.put, sA, sB, sC])
            refine wpList_q (by rfl) (.bool false) ?he ?_
            case he => (first | rfl | (go_simp; (try with_reducible rfl)))
            (try simp only [Act.put, sA, sB, sC])
            refine wpList_q (by rfl) (.pointer (some ⟨bn13, 9, none⟩)) ?he ?_
            case he => (first | rfl | (go_simp; (try with_reducible rfl)))
            (try simp only [Act.put, sA, sB, sC])
            refine wpList_q (by rfl) (.int .i64 l2.gr) ?he ?_
            case he => exact exec_cell 3 _ _ HBn13d13.out rfl rfl rfl Try.underlying3 rfl
            (try simp only [Act.put, sA, sB, sC])
            refine wpList_q (by rfl) (.pointer (some ⟨bL, 9, none⟩)) ?he ?_
            case he => (first | rfl | (go_simp; (try with_reducible rfl)))
            (try simp only [Act.put, sA, sB, sC])
            refine wpList_q (by rfl) (.int .i64 l2.gr) ?he ?_
            case he => exact exec_cell 3 _ _ HBLd13.out rfl rfl rfl Try.underlying3 rfl
            (try simp only [Act.put, sA, sB, sC])
            refine wpList_q (by rfl) (.bool false) ?he ?_
            case he => (go_simp; (try with_reducible rfl))
            (try simp only [Act.put, sA, sB, sC])
            refine wpList_q (by rfl) (.bool false) ?he ?_
            case he => (first | rfl | (go_simp; (try with_reducible rfl)))
            (try simp only [Act.put, sA, sB, sC])
            refine wpList_q (by rfl) (.bool false) ?he ?_
            case he => (first | rfl | (go_simp; (try with_reducible rfl)))
            (try simp only [Act.put, sA, sB, sC])
            refine wpList_q (by rfl) (.pointer (some ⟨bn13, 6, none⟩)) ?he ?_
            case he => (first | rfl | (go_simp; (try with_reducible rfl)))
            (try simp only [Act.put, sA, sB, sC])
            refine wpList_q (by rfl) (.int .i64 ph) ?he ?_
            case he => exact exec_cell 3 _ _ HBn13d13.out rfl rfl rfl Try.underlying3 rfl
            (try simp only [Act.put, sA, sB, sC])
            refine wpList_q (by rfl) (.pointer (some ⟨bL, 6, none⟩)) ?he ?_
            case he => (first | rfl | (go_simp; (try with_reducible rfl)))
            (try simp only [Act.put, sA, sB, sC])
            refine wpList_q (by rfl) (.int .i64 l2.ph) ?he ?_
            case he => exact exec_cell 3 _ _ HBLd13.out rfl rfl rfl Try.underlying3 rfl
            (try simp only [Act.put, sA, sB, sC])
            refine wpList_q (by rfl) (.bool false) ?he ?_
            case he => (have hq := HFA.out; unfold Nx at hq; go_simp; (first | done | omega))
            (try simp only [Act.put, sA, sB, sC])
            refine wpList_q (by rfl) (.bool false) ?he ?_
            case he => (first | rfl | (go_simp; (try with_reducible rfl)))
            (try simp only [Act.put, sA, sB, sC])
            refine wpList_q (by rfl) (.bool false) ?he ?_
            case he => (first | rfl | (go_simp; (try with_reducible rfl)))
            (try simp only [Act.put, sA, sB, sC])
            refine wpList_q (by rfl) (.pointer (some ⟨bn13, 6, none⟩)) ?he ?_
            case he => (first | rfl | (go_simp; (try with_reducible rfl)))
            (try simp only [Act.put, sA, sB, sC])
            refine wpList_q (by rfl) (.int .i64 ph) ?he ?_
            case he => exact exec_cell 3 _ _ HBn13d13.out rfl rfl rfl Try.underlying3 rfl
            (try simp only [Act.put, sA, sB, sC])
            refine wpList_q (by rfl) (.pointer (some ⟨bL, 6, none⟩)) ?he ?_
            case he => (first | rfl | (go_simp; (try with_reducible rfl)))
            (try simp only [Act.put, sA, sB, sC])
            refine wpList_q (by rfl) (.int .i64 l2.ph) ?he ?_
            case he => exact exec_cell 3 _ _ HBLd13.out rfl rfl rfl Try.underlying3 rfl
            (try simp only [Act.put, sA, sB, sC])
            refine wpList_q (by rfl) (.int .i64 (l2.ph + 1)) ?he ?_
            case he => (go_simp; (first | done | (refine Ri.wr _ ?_ ?_ <;> (have q0 := HP.out; omega)) | (have q0 := HP.out; omega) | (have q0 := HP.out; split <;> omega) | (have q0 := HP.out; intro hh; omega)))
            (try simp only [Act.put, sA, sB, sC])
            refine wpList_q (by rfl) (.bool false) ?he ?_
            case he => (have hq := HFA.out; unfold Nx at hq; go_simp; (first | done | omega))
            (try simp only [Act.put, sA, sB, sC])
            refine wpList_q (by rfl) (.bool false) ?he ?_
            case he => (first | rfl | (go_simp; (try with_reducible rfl)))
            (try simp only [Act.put, sA, sB, sC])
            refine wpList_q (by rfl) (.bool false) ?he ?_
            case he => (first | rfl | (go_simp; (try with_reducible rfl)))
            (try simp only [Act.put, sA, sB, sC])
            refine wpList_q (by rfl) (.pointer (some ⟨bn13, 8, none⟩)) ?he ?_
            case he => (first | rfl | (go_simp; (try with_reducible rfl)))
            (try simp only [Act.put, sA, sB, sC])
            refine wpList_q (by rfl) (.int .i64 re) ?he ?_
            case he => exact exec_cell 3 _ _ HBn13d13.out rfl rfl rfl Try.underlying3 rfl
            (try simp only [Act.put, sA, sB, sC])
            refine wpList_q (by rfl) (.pointer (some ⟨bL, 8, none⟩)) ?he ?_
            case he => (first | rfl | (go_simp; (try with_reducible rfl)))
            (try simp only [Act.put, sA, sB, sC])
            refine wpList_q (by rfl) (.int .i64 l2.re) ?he ?_
            case he => exact exec_cell 3 _ _ HBLd13.out rfl rfl rfl Try.underlying3 rfl
            (try simp only [Act.put, sA, sB, sC])
            refine wpList_q (by rfl) (.bool false) ?he ?_
            case he => (have hq := HFA.out; unfold Nx at hq; go_simp; (first | done | omega))
            (try simp only [Act.put, sA, sB, sC])
            refine wpList_q (by rfl) (.bool false) ?he ?_
            case he => (first | rfl | (go_simp; (try with_reducible rfl)))
            (try simp only [Act.put, sA, sB, sC])
            refine wpList_nil ?_
            cases hov : ov
            · skip
              clear hov
              go_upto_region 16 with fail
              refine wp_region_lit ?_
              refine wpList_q (by rfl) (.bool false) ?he ?_
              case he => (first | rfl | (go_simp; (try with_reducible rfl)))
              (try simp only [Act.put, sA, sB, sC])
              refine wpList_nil ?_
              go_upto_region 18 with fail
              refine wp_region_lit ?_
              refine wpList_q (by rfl) (.agg (leaA ⟨l2.se, l2.fl, l2.fm, l2.to, l2.ma, l2.ca, ph, un, re, l2.gr⟩)) ?he ?_
              case he => exact exec_load_row 56 _ _ HBn13d13.out rfl rfl Try.underlying56 rfl (by kernel_rfl)
              (try simp only [Act.put, sA, sB, sC])
              refine wpList_wp (by rfl) (fun K hK => ?_)
              refine wp_st_row 56 _ _ rfl (leaA ⟨l2.se, l2.fl, l2.fm, l2.to, l2.ma, l2.ca, ph, un, re, l2.gr⟩) rfl rfl (HasRow.of HBLd13.out rfl) rfl (by simp [cfgA, leaA, carA, msgC, Value.oneCell']) (by kernel_rfl) ?_
              intro w105 hw
              refine hK.out _ _ ?_
              clear hK K
              (try simp only [Act.put, sA, sB, sC])
              have HS105 := Lib.hid (show Since w w105 by rw [hw]; exact Since.setRow HSd13.out (by have := HNE3.out; omega) _)
              have HBC105 := Lib.hid (show Blk w105 w.heap.size 23 (cfgA c) by rw [hw]; exact Blk.row_far HBCd13.out (by have := HNE3.out; omega) _)
              have HBL105 := Lib.hid (show Blk w105 bL 56 (leaA ⟨l2.se, l2.fl, l2.fm, l2.to, l2.ma, l2.ca, ph, un, re, l2.gr⟩) by rw [hw]; exact Blk.row HBLd13.out _)
              have HBn13105 := Lib.hid (show Blk w105 bn13 56 (leaA ⟨l2.se, l2.fl, l2.fm, l2.to, l2.ma, l2.ca, ph, un, re, l2.gr⟩) by rw [hw]; exact Blk.row_far HBn13d13.out HNn13L.out _)
              clear hw HSd13 HBCd13 HBLd13 HBn13d13
              refine wpList_nil ?_
              go_wp2_with fail
              go_roundw
              case rel => exact ⟨k + 1, t2, ⟨l2.se, l2.fl, l2.fm, l2.to, l2.ma, l2.ca, ph, un, re, l2.gr⟩, by omega, by omega, HTT.out.1, by have := HTT.out; omega, rfl, by go_num, Lib.hid ⟨⟨HFA.out.2.2.1, HFA.out.2.2.2.1, by have := HP.out; have := HFA.out.2.2.2.2.1; show _ ≤ re; omega, HFA.out.2.2.2.2.2⟩, HS105.out, HBC105.out, HBL105.out⟩⟩
              case measure => simp [intOf]; omega
            · skip
              clear hov
              go_upto_region 16 with fail
              refine wp_region_lit ?_
              refine wpList_q (by rfl) (.bool true) ?he ?_
              case he => (first | rfl | (go_simp; (try with_reducible rfl)))
              (try simp only [Act.put, sA, sB, sC])
              refine wpList_nil ?_
              go_upto_region 17 with fail
              refine wp_region_lit ?_
              refine wpList_wp (by rfl) (fun K hK => ?_)
              (try go_simp)
              refine (ans _).mono ?_
              rintro e w105 ⟨rfl, hb⟩
              (try go_wp2_with fail)
              refine hK.out _ _ ?_
              clear hK K
              (try simp only [Act.put, sA, sB, sC])
              have HS105 := Lib.hid (Since.trans HSd13.out hb)
              have HBC105 := Lib.hid (keep_blk hb HBCd13.out)
              have HBL105 := Lib.hid (keep_blk hb HBLd13.out)
              have HBn13105 := Lib.hid (keep_blk hb HBn13d13.out)
              clear HSd13 HBCd13 HBLd13 HBn13d13
              clear hb
              refine wpList_q (by rfl) (.bool true) ?he ?_
              case he => (first | rfl | (go_simp; (try with_reducible rfl)))
              (try simp only [Act.put, sA, sB, sC])
              refine wpList_nil ?_
              (try go_wp2_with fail)
              go_ret
              exact ⟨rfl, HS105.out⟩
        · skip
          have hgi : ¬ ((k : Int) < (len3 : Int)) := by omega
          go_upto_region 11 with fail
          refine wp_region_lit ?_
          refine wpList_q (by rfl) (.int .i64 k) ?he ?_
          case he => (first | rfl | (go_simp; (try with_reducible rfl)))
          (try simp only [Act.put, sA, sB, sC])
          refine wpList_q (by rfl) (.slice a3 len3 cap3) ?he ?_
          case he => (first | rfl | (go_simp; (try with_reducible rfl)))
          (try simp only [Act.put, sA, sB, sC])
          refine wpList_q (by rfl) (.int .i64 len3) ?he ?_
          case he => (go_simp; (try with_reducible rfl))
          (try simp only [Act.put, sA, sB, sC])
          refine wpList_q (by rfl) (.bool false) ?he ?_
          case he => (go_simp; (first | done | omega))
          (try simp only [Act.put, sA, sB, sC])
          refine wpList_q (by rfl) (.bool false) ?he ?_
          case he => (first | rfl | (go_simp; (try with_reducible rfl)))
          (try simp only [Act.put, sA, sB, sC])
          refine wpList_no (by rfl) ?_
          (try simp only [Act.put, sA, sB, sC])
          refine wpList_no (by rfl) ?_
          (try simp only [Act.put, sA, sB, sC])
          refine wpList_no (by rfl) ?_
          (try simp only [Act.put, sA, sB, sC])
          refine wpList_no (by rfl) ?_
          (try simp only [Act.put, sA, sB, sC])
          refine wpList_no (by rfl) ?_
          (try simp only [Act.put, sA, sB, sC])
          refine wpList_no (by rfl) ?_
          (try simp only [Act.put, sA, sB, sC])
          refine wpList_q (by rfl) (.bool false) ?he ?_
          case he => (first | rfl | (go_simp; (try with_reducible rfl)))
          (try simp only [Act.put, sA, sB, sC])
          refine wpList_nil ?_
          go_upto_region 13 with fail
          have hrK : ∀ W W' : World, Since W W' → (Since w W ∧ Blk W w.heap.size 23 (cfgA c) ∧ Blk W bL 56 (leaA l2) ∧ HasRow W bn13 56 10) → (Since w W' ∧ Blk W' w.heap.size 23 (cfgA c) ∧ Blk W' bL 56 (leaA l2) ∧ HasRow W' bn13 56 10) := fun W W' k ⟨h, h0, h1, h2⟩ => ⟨h.trans k, keep_blk k h0, keep_blk k h1, HasRow.keep k h2⟩
          have hrS : (fun W : World => Since w W ∧ Blk W w.heap.size 23 (cfgA c) ∧ Blk W bL 56 (leaA l2) ∧ HasRow W bn13 56 10) w102 := ⟨HS102.out, HBC102.out, HBL102.out, HasRow.of HBn13102.out rfl⟩
          have HRK := Lib.hid hrK
          have HRD := Lib.hid (show (fun W : World => Since w W ∧ Blk W w.heap.size 23 (cfgA c) ∧ Blk W bL 56 (leaA l2) ∧ HasRow W bn13 56 10) (World.drew w102) from ⟨Since.drew hrS.1, hrS.2⟩)
          clear hrK hrS
          refine wp_region_held_drew (S := fun W : World => Since w W ∧ Blk W w.heap.size 23 (cfgA c) ∧ Blk W bL 56 (leaA l2) ∧ HasRow W bn13 56 10) (by kernel_rfl) HRD.out (fun hHeld => ?_)
          refine wpAnyH_take (i := 0) (oi := ?o13__0) (v := .agg (cfgA c)) ?h13__0 (by kernel_rfl) (by kernel_rfl) (by kernel_rfl) ?q13__0 ?y13__0 (by assumption) ?_
          case h13__0 => (first | (simp only [gA, gB, gC]; done) | (simp only [gA, gB, gC]; exact rfl))
          case q13__0 => exact fun _ _ _ h => h
          case y13__0 => (refine Or.inl ⟨rfl, ?_⟩; intro w hSw; exact exec_load_row 23 _ _ hSw.2.1 rfl rfl Try.underlying23 rfl (by kernel_rfl))
          (try simp only [Act.put, sA, sB, sC])
          refine wpAnyH_take (i := 1) (oi := ?o13__1) (v := .agg (leaA l2)) ?h13__1 (by kernel_rfl) (by kernel_rfl) (by kernel_rfl) ?q13__1 ?y13__1 (by assumption) ?_
          case h13__1 => (first | (simp only [gA, gB, gC]; done) | (simp only [gA, gB, gC]; exact rfl))
          case q13__1 => exact fun _ _ _ h => h
          case y13__1 => (refine Or.inl ⟨rfl, ?_⟩; intro w hSw; exact exec_load_row 56 _ _ hSw.2.2.1 rfl rfl Try.underlying56 rfl (by kernel_rfl))
          (try simp only [Act.put, sA, sB, sC])
          refine wpAnyH_take (i := 2) (oi := ?o13__2) (v := .slice (some ⟨bC2, oC, none⟩) len2 cap2) ?h13__2 (by kernel_rfl) (by kernel_rfl) (by kernel_rfl) ?q13__2 ?y13__2 (by assumption) ?_
          case h13__2 => (first | (simp only [gA, gB, gC]; done) | (simp only [gA, gB, gC]; exact rfl))
          case q13__2 => exact fun _ _ _ h => h
          case y13__2 => (refine Or.inl ⟨rfl, ?_⟩; intro w hSw; (first | rfl | (go_simp; (try with_reducible rfl))))
          (try simp only [Act.put, sA, sB, sC])
          refine wpAnyH_take (i := 3) (oi := ?o13__3) (v := .int .i64 k) ?h13__3 (by kernel_rfl) (by kernel_rfl) (by kernel_rfl) ?q13__3 ?y13__3 (by assumption) ?_
          case h13__3 => (first | (simp only [gA, gB, gC]; done) | (simp only [gA, gB, gC]; exact rfl))
          case q13__3 => exact fun _ _ _ h => h
          case y13__3 => (refine Or.inl ⟨rfl, ?_⟩; intro w hSw; (first | rfl | (go_simp; (try with_reducible rfl))))
          (try simp only [Act.put, sA, sB, sC])
          refine wpAnyH_take (i := 4) (oi := ?o13__4) (v := .pointer (some ⟨bC2, (oC + k * 15), none⟩)) ?h13__4 (by kernel_rfl) (by kernel_rfl) (by kernel_rfl) ?q13__4 ?y13__4 (by assumption) ?_
          case h13__4 => (first | (simp only [gA, gB, gC]; done) | (simp only [gA, gB, gC]; exact rfl))
          case q13__4 => exact fun _ _ _ h => h
          case y13__4 => (refine Or.inl ⟨rfl, ?_⟩; intro w hSw; (first | rfl | (go_simp; (try with_reducible rfl))))
          (try simp only [Act.put, sA, sB, sC])
          refine wpAnyH_take (i := 5) (oi := ?o13__5) (v := .agg #[.int .i64 ((cs k).ds), .int .i64 ((cs k).da), .int .i64 ((cs k).un), .int .i64 ((cs k).wy), .int .i64 ((cs k).ti), .int .i64 ((cs k).ju), .int .i64 ((cs k).lo), .bool ((cs k).bl), .bool ((cs k).br), .int .i64 ((cs k).mo), .int .i64 ((cs k).ta), .bool ((cs k).ho), .int .u64 ((cs k).sp), .int .u64 ((cs k).su), .int .u64 ((cs k).sd)]) ?h13__5 (by kernel_rfl) (by kernel_rfl) (by kernel_rfl) ?q13__5 ?y13__5 (by assumption) ?_
          case h13__5 => (first | (simp only [gA, gB, gC]; done) | (simp only [gA, gB, gC]; exact rfl))
          case q13__5 => exact fun _ _ _ h => h
          case y13__5 => (refine Or.inl ⟨rfl, ?_⟩; intro w hSw; exact exec_rng (l := carC (cs k)) 76 _ _ (fun j v hv => keep_cell hSw.1 (HCC.out j v hv)) rfl rfl Try.underlying76 rfl (by kernel_rfl))
          (try simp only [Act.put, sA, sB, sC])
          refine wpAnyH_take (i := 6) (oi := ?o13__6) (v := .int .i64 t2) ?h13__6 (by kernel_rfl) (by kernel_rfl) (by kernel_rfl) ?q13__6 ?y13__6 (by assumption) ?_
          case h13__6 => (first | (simp only [gA, gB, gC]; done) | (simp only [gA, gB, gC]; exact rfl))
          case q13__6 => exact fun _ _ _ h => h
          case y13__6 => (refine Or.inl ⟨rfl, ?_⟩; intro w hSw; (first | rfl | (go_simp; (try with_reducible rfl))))
          (try simp only [Act.put, sA, sB, sC])
          refine wpAnyH_ready (rs := [7]) (by kernel_rfl) (by simp) ?_
          refine AllReadyH.cons (o := ?o13__7) ?h13__7 (fun K hK => ?_) AllReadyH.nil
          case h13__7 => (first | (simp only [gA, gB, gC]; done) | (simp only [gA, gB, gC]; exact rfl))
          (try go_simp)
          refine (tickP c l2 (cs k) t2 HP.out.1 HP.out.2.1 HP.out.2.2.2 _).mono ?_
          rintro e w103 ⟨v9, ph, un, re, ov, rfl, hfa, hb⟩
          (try go_wp2_with fail)
          refine hK.out _ _ (by (apply HRK.out; exact hb; exact hHeld)) (fun hHeld2 => ?_)
          have HFA := Lib.hid hfa
          clear hfa
          clear hK K hHeld hb
          have hHeld := hHeld2
          clear hHeld2
          (try simp only [Act.put, sA, sB, sC])
          refine wpAnyH_take (i := 8) (oi := ?o13__8) (v := .tuple #[.agg (leaA ⟨l2.se, l2.fl, l2.fm, l2.to, l2.ma, l2.ca, ph, un, re, l2.gr⟩), v9, .bool ov]) ?h13__8 (by kernel_rfl) (by kernel_rfl) (by kernel_rfl) ?q13__8 ?y13__8 (by assumption) ?_
          case h13__8 => (first | (simp only [gA, gB, gC]; done) | (simp only [gA, gB, gC]; exact rfl))
          case q13__8 => exact fun _ _ _ h => h
          case y13__8 => (refine Or.inl ⟨rfl, ?_⟩; intro w hSw; (first | rfl | (go_simp; (try with_reducible rfl))))
          (try simp only [Act.put, sA, sB, sC])
          refine wpAnyH_take (i := 9) (oi := ?o13__9) (v := .agg (leaA ⟨l2.se, l2.fl, l2.fm, l2.to, l2.ma, l2.ca, ph, un, re, l2.gr⟩)) ?h13__9 (by kernel_rfl) (by kernel_rfl) (by kernel_rfl) ?q13__9 ?y13__9 (by assumption) ?_
          case h13__9 => (first | (simp only [gA, gB, gC]; done) | (simp only [gA, gB, gC]; exact rfl))
          case q13__9 => exact fun _ _ _ h => h
          case y13__9 => (refine Or.inl ⟨rfl, ?_⟩; intro w hSw; (first | rfl | (go_simp; (try with_reducible rfl))))
          (try simp only [Act.put, sA, sB, sC])
          refine wpAnyH_take (i := 10) (oi := ?o13__10) (v := v9) ?h13__10 (by kernel_rfl) (by kernel_rfl) (by kernel_rfl) ?q13__10 ?y13__10 (by assumption) ?_
          case h13__10 => (first | (simp only [gA, gB, gC]; done) | (simp only [gA, gB, gC]; exact rfl))
          case q13__10 => exact fun _ _ _ h => h
          case y13__10 => (refine Or.inl ⟨rfl, ?_⟩; intro w hSw; (first | rfl | (go_simp; (try with_reducible rfl))))
          (try simp only [Act.put, sA, sB, sC])
          refine wpAnyH_take (i := 11) (oi := ?o13__11) (v := .bool ov) ?h13__11 (by kernel_rfl) (by kernel_rfl) (by kernel_rfl) ?q13__11 ?y13__11 (by assumption) ?_
          case h13__11 => (first | (simp only [gA, gB, gC]; done) | (simp only [gA, gB, gC]; exact rfl))
          case q13__11 => exact fun _ _ _ h => h
          case y13__11 => (refine Or.inl ⟨rfl, ?_⟩; intro w hSw; (first | rfl | (go_simp; (try with_reducible rfl))))
          (try simp only [Act.put, sA, sB, sC])
          refine wpAnyH_ready (rs := [12]) (by kernel_rfl) (by simp) ?_
          refine AllReadyH.cons (o := ?o13__12) ?h13__12 (fun K hK => ?_) AllReadyH.nil
          case h13__12 => (first | (simp only [gA, gB, gC]; done) | (simp only [gA, gB, gC]; exact rfl))
          rw [if_pos (by rfl)]
          refine wp_st_row 56 _ _ rfl #[.int .i64 l2.se, .int .i64 l2.fl, .int .i64 l2.fm, .int .i64 l2.to, .int .i64 l2.ma, .int .i64 l2.ca, .int .i64 ph, .int .i64 un, .int .i64 re, .int .i64 l2.gr] rfl rfl (hHeld.2.2.2) rfl (by simp [cfgA, leaA, carA, msgC, Value.oneCell']) (by kernel_rfl) ?_
          intro w104 hw
          have HRn13 := Lib.hid (show Blk w104 bn13 56 (leaA ⟨l2.se, l2.fl, l2.fm, l2.to, l2.ma, l2.ca, ph, un, re, l2.gr⟩) by obtain ⟨old, Bo, _⟩ := hHeld.2.2.2; rw [hw]; exact Blk.row Bo _)
          have hHeld3 : (fun W : World => Since w W ∧ Blk W w.heap.size 23 (cfgA c) ∧ Blk W bL 56 (leaA l2) ∧ HasRow W bn13 56 10) w104 := ⟨by rw [hw]; exact Since.setRow hHeld.1 HGn13.out _, by rw [hw]; exact Blk.row_far (hHeld.2.1) (Ne.symm HNn13C.out) _, by rw [hw]; exact Blk.row_far (hHeld.2.2.1) (Ne.symm HNn13L.out) _, HasRow.of HRn13.out rfl⟩
          refine hK.out _ _ hHeld3 (fun hHeld2 => ?_)
          clear hK K hHeld hHeld3 hw
          have hHeld := hHeld2
          clear hHeld2
          (try simp only [Act.put, sA, sB, sC])
          refine wpAnyH_take (i := 13) (oi := ?o13__13) (v := .bool ov) ?h13__13 (by kernel_rfl) (by kernel_rfl) (by kernel_rfl) ?q13__13 ?y13__13 (by assumption) ?_
          case h13__13 => (first | (simp only [gA, gB, gC]; done) | (simp only [gA, gB, gC]; exact rfl))
          case q13__13 => exact fun _ _ _ h => h
          case y13__13 => (refine Or.inl ⟨rfl, ?_⟩; intro w hSw; (first | rfl | (go_simp; (try with_reducible rfl))))
          (try simp only [Act.put, sA, sB, sC])
          refine wpAnyH_done (by kernel_rfl) ?_ _
          have HSd13 := Lib.hid hHeld.1
          have HBCd13 := Lib.hid (hHeld.2.1)
          have HBLd13 := Lib.hid (hHeld.2.2.1)
          have HBn13d13 := Lib.hid HRn13.out
          clear HRn13
          clear hHeld HRK HRD HS102 HBC102 HBL102 HBn13102
          go_upto_region 14 with fail
          refine wp_region_lit ?_
          refine wpList_q (by rfl) (.pointer (some ⟨bn13, 0, none⟩)) ?he ?_
          case he => (first | rfl | (go_simp; (try with_reducible rfl)))
          (try simp only [Act.put, sA, sB, sC])
          refine wpList_q (by rfl) (.agg #[.int .i64 l2.se, .int .i64 l2.fl, .int .i64 l2.fm, .int .i64 l2.to, .int .i64 l2.ma]) ?he ?_
          case he => exact exec_part (n := 5) 30 _ _ HBn13d13.out rfl rfl rfl rfl Try.underlying30 rfl (by kernel_rfl)
          (try simp only [Act.put, sA, sB, sC])
          refine wpList_q (by rfl) (.pointer (some ⟨bL, 0, none⟩)) ?he ?_
          case he => (first | rfl | (go_simp; (try with_reducible rfl)))
          (try simp only [Act.put, sA, sB, sC])
          refine wpList_q (by rfl) (.agg #[.int .i64 l2.se, .int .i64 l2.fl, .int .i64 l2.fm, .int .i64 l2.to, .int .i64 l2.ma]) ?he ?_
          case he => exact exec_part (n := 5) 30 _ _ HBLd13.out rfl rfl rfl rfl Try.underlying30 rfl (by kernel_rfl)
          (try simp only [Act.put, sA, sB, sC])
          refine wpList_q (by rfl) (.bool false) ?he ?_
          case he => (go_simp; (try with_reducible rfl))
          (try simp only [Act.put, sA, sB, sC])
          refine wpList_q (by rfl) (.bool false) ?he ?_
          case he => (first | rfl | (go_simp; (try with_reducible rfl)))
          (try simp only [Act.put, sA, sB, sC])
          refine wpList_q (by rfl) (.pointer (some ⟨bn13, 5, none⟩)) ?he ?_
          case he => (first | rfl | (go_simp; (try with_reducible rfl)))
          (try simp only [Act.put, sA, sB, sC])
          refine wpList_q (by rfl) (.int .i64 l2.ca) ?he ?_
          case he => exact exec_cell 3 _ _ HBn13d13.out rfl rfl rfl Try.underlying3 rfl
          (try simp only [Act.put, sA, sB, sC])
          refine wpList_q (by rfl) (.pointer (some ⟨bL, 5, none⟩)) ?he ?_
          case he => (first | rfl | (go_simp; (try with_reducible rfl)))
          (try simp only [Act.put, sA, sB, sC])
          refine wpList_q (by rfl) (.int .i64 l2.ca) ?he ?_
          case he => exact exec_cell 3 _ _ HBLd13.out rfl rfl rfl Try.underlying3 rfl
          (try simp only [Act.put, sA, sB, sC])
          refine wpList_q (by rfl) (.bool false) ?he ?_
          case he => (go_simp; (try with_reducible rfl))
          (try simp only [Act.put, sA, sB, sC])
          refine wpList_q (by rfl) (.bool false) ?he ?_
          case he => (first | rfl | (go_simp; (try with_reducible rfl)))
          (try simp only [Act.put, sA, sB, sC])
          refine wpList_q (by rfl) (.bool false) ?he ?_
          case he => (first | rfl | (go_simp; (try with_reducible rfl)))
          (try simp only [Act.put, sA, sB, sC])
          refine wpList_q (by rfl) (.pointer (some ⟨bn13, 9, none⟩)) ?he ?_
          case he => (first | rfl | (go_simp; (try with_reducible rfl)))
          (try simp only [Act.put, sA, sB, sC])
          refine wpList_q (by rfl) (.int .i64 l2.gr) ?he ?_
          case he => exact exec_cell 3 _ _ HBn13d13.out rfl rfl rfl Try.underlying3 rfl
          (try simp only [Act.put, sA, sB, sC])
          refine wpList_q (by rfl) (.pointer (some ⟨bL, 9, none⟩)) ?he ?_
          case he => (first | rfl | (go_simp; (try with_reducible rfl)))
          (try simp only [Act.put, sA, sB, sC])
          refine wpList_q (by rfl) (.int .i64 l2.gr) ?he ?_
          case he => exact exec_cell 3 _ _ HBLd13.out rfl rfl rfl Try.underlying3 rfl
          (try simp only [Act.put, sA, sB, sC])
          refine wpList_q (by rfl) (.bool false) ?he ?_
          case he => (go_simp; (try with_reducible rfl))
          (try simp only [Act.put, sA, sB, sC])
          refine wpList_q (by rfl) (.bool false) ?he ?_
          case he => (first | rfl | (go_simp; (try with_reducible rfl)))
          (try simp only [Act.put, sA, sB, sC])
          refine wpList_q (by rfl) (.bool false) ?he ?_
          case he => (first | rfl | (go_simp; (try with_reducible rfl)))
          (try simp only [Act.put, sA, sB, sC])
          refine wpList_q (by rfl) (.pointer (some ⟨bn13, 6, none⟩)) ?he ?_
          case he => (first | rfl | (go_simp; (try with_reducible rfl)))
          (try simp only [Act.put, sA, sB, sC])
          refine wpList_q (by rfl) (.int .i64 ph) ?he ?_
          case he => exact exec_cell 3 _ _ HBn13d13.out rfl rfl rfl Try.underlying3 rfl
          (try simp only [Act.put, sA, sB, sC])
          refine wpList_q (by rfl) (.pointer (some ⟨bL, 6, none⟩)) ?he ?_
          case he => (first | rfl | (go_simp; (try with_reducible rfl)))
          (try simp only [Act.put, sA, sB, sC])
          refine wpList_q (by rfl) (.int .i64 l2.ph) ?he ?_
          case he => exact exec_cell 3 _ _ HBLd13.out rfl rfl rfl Try.underlying3 rfl
          (try simp only [Act.put, sA, sB, sC])
          refine wpList_q (by rfl) (.bool false) ?he ?_
          case he => (have hq := HFA.out; unfold Nx at hq; go_simp; (first | done | omega))
          (try simp only [Act.put, sA, sB, sC])
          refine wpList_q (by rfl) (.bool false) ?he ?_
          case he => (first | rfl | (go_simp; (try with_reducible rfl)))
          (try simp only [Act.put, sA, sB, sC])
          refine wpList_q (by rfl) (.bool false) ?he ?_
          case he => (first | rfl | (go_simp; (try with_reducible rfl)))
          (try simp only [Act.put, sA, sB, sC])
          refine wpList_q (by rfl) (.pointer (some ⟨bn13, 6, none⟩)) ?he ?_
          case he => (first | rfl | (go_simp; (try with_reducible rfl)))
          (try simp only [Act.put, sA, sB, sC])
          refine wpList_q (by rfl) (.int .i64 ph) ?he ?_
          case he => exact exec_cell 3 _ _ HBn13d13.out rfl rfl rfl Try.underlying3 rfl
          (try simp only [Act.put, sA, sB, sC])
          refine wpList_q (by rfl) (.pointer (some ⟨bL, 6, none⟩)) ?he ?_
          case he => (first | rfl | (go_simp; (try with_reducible rfl)))
          (try simp only [Act.put, sA, sB, sC])
          refine wpList_q (by rfl) (.int .i64 l2.ph) ?he ?_
          case he => exact exec_cell 3 _ _ HBLd13.out rfl rfl rfl Try.underlying3 rfl
          (try simp only [Act.put, sA, sB, sC])
          refine wpList_q (by rfl) (.int .i64 (l2.ph + 1)) ?he ?_
          case he => (go_simp; (first | done | (refine Ri.wr _ ?_ ?_ <;> (have q0 := HP.out; omega)) | (have q0 := HP.out; omega) | (have q0 := HP.out; split <;> omega) | (have q0 := HP.out; intro hh; omega)))
          (try simp only [Act.put, sA, sB, sC])
          refine wpList_q (by rfl) (.bool false) ?he ?_
          case he => (have hq := HFA.out; unfold Nx at hq; go_simp; (first | done | omega))
          (try simp only [Act.put, sA, sB, sC])
          refine wpList_q (by rfl) (.bool false) ?he ?_
          case he => (first | rfl | (go_simp; (try with_reducible rfl)))
          (try simp only [Act.put, sA, sB, sC])
          refine wpList_q (by rfl) (.bool false) ?he ?_
          case he => (first | rfl | (go_simp; (try with_reducible rfl)))
          (try simp only [Act.put, sA, sB, sC])
          refine wpList_q (by rfl) (.pointer (some ⟨bn13, 8, none⟩)) ?he ?_
          case he => (first | rfl | (go_simp; (try with_reducible rfl)))
          (try simp only [Act.put, sA, sB, sC])
          refine wpList_q (by rfl) (.int .i64 re) ?he ?_
          case he => exact exec_cell 3 _ _ HBn13d13.out rfl rfl rfl Try.underlying3 rfl
          (try simp only [Act.put, sA, sB, sC])
          refine wpList_q (by rfl) (.pointer (some ⟨bL, 8, none⟩)) ?he ?_
          case he => (first | rfl | (go_simp; (try with_reducible rfl)))
          (try simp only [Act.put, sA, sB, sC])
          refine wpList_q (by rfl) (.int .i64 l2.re) ?he ?_
          case he => exact exec_cell 3 _ _ HBLd13.out rfl rfl rfl Try.underlying3 rfl
          (try simp only [Act.put, sA, sB, sC])
          refine wpList_q (by rfl) (.bool false) ?he ?_
          case he => (have hq := HFA.out; unfold Nx at hq; go_simp; (first | done | omega))
          (try simp only [Act.put, sA, sB, sC])
          refine wpList_q (by rfl) (.bool false) ?he ?_
          case he => (first | rfl | (go_simp; (try with_reducible rfl)))
          (try simp only [Act.put, sA, sB, sC])
          refine wpList_nil ?_
          cases hov : ov
          · skip
            clear hov
            go_upto_region 16 with fail
            refine wp_region_lit ?_
            refine wpList_q (by rfl) (.bool false) ?he ?_
            case he => (first | rfl | (go_simp; (try with_reducible rfl)))
            (try simp only [Act.put, sA, sB, sC])
            refine wpList_nil ?_
            go_upto_region 18 with fail
            refine wp_region_lit ?_
            refine wpList_q (by rfl) (.agg (leaA ⟨l2.se, l2.fl, l2.fm, l2.to, l2.ma, l2.ca, ph, un, re, l2.gr⟩)) ?he ?_
            case he => exact exec_load_row 56 _ _ HBn13d13.out rfl rfl Try.underlying56 rfl (by kernel_rfl)
            (try simp only [Act.put, sA, sB, sC])
            refine wpList_wp (by rfl) (fun K hK => ?_)
            refine wp_st_row 56 _ _ rfl (leaA ⟨l2.se, l2.fl, l2.fm, l2.to, l2.ma, l2.ca, ph, un, re, l2.gr⟩) rfl rfl (HasRow.of HBLd13.out rfl) rfl (by simp [cfgA, leaA, carA, msgC, Value.oneCell']) (by kernel_rfl) ?_
            intro w105 hw
            refine hK.out _ _ ?_
            clear hK K
            (try simp only [Act.put, sA, sB, sC])
            have HS105 := Lib.hid (show Since w w105 by rw [hw]; exact Since.setRow HSd13.out (by have := HNE3.out; omega) _)
            have HBC105 := Lib.hid (show Blk w105 w.heap.size 23 (cfgA c) by rw [hw]; exact Blk.row_far HBCd13.out (by have := HNE3.out; omega) _)
            have HBL105 := Lib.hid (show Blk w105 bL 56 (leaA ⟨l2.se, l2.fl, l2.fm, l2.to, l2.ma, l2.ca, ph, un, re, l2.gr⟩) by rw [hw]; exact Blk.row HBLd13.out _)
            have HBn13105 := Lib.hid (show Blk w105 bn13 56 (leaA ⟨l2.se, l2.fl, l2.fm, l2.to, l2.ma, l2.ca, ph, un, re, l2.gr⟩) by rw [hw]; exact Blk.row_far HBn13d13.out HNn13L.out _)
            clear hw HSd13 HBCd13 HBLd13 HBn13d13
            refine wpList_nil ?_
            go_wp2_with fail
            go_roundw
            case rel => exact ⟨k + 1, t2, ⟨l2.se, l2.fl, l2.fm, l2.to, l2.ma, l2.ca, ph, un, re, l2.gr⟩, by omega, by omega, HTT.out.1, by have := HTT.out; omega, rfl, by go_num, Lib.hid ⟨⟨HFA.out.2.2.1, HFA.out.2.2.2.1, by have := HP.out; have := HFA.out.2.2.2.2.1; show _ ≤ re; omega, HFA.out.2.2.2.2.2⟩, HS105.out, HBC105.out, HBL105.out⟩⟩
            case measure => simp [intOf]; omega
          · skip
            clear hov
            go_upto_region 16 with fail
            refine wp_region_lit ?_
            refine wpList_q (by rfl) (.bool true) ?he ?_
            case he => (first | rfl | (go_simp; (try with_reducible rfl)))
            (try simp only [Act.put, sA, sB, sC])
            refine wpList_nil ?_
            go_upto_region 17 with fail
            refine wp_region_lit ?_
            refine wpList_wp (by rfl) (fun K hK => ?_)
            (try go_simp)
            refine (ans _).mono ?_
            rintro e w105 ⟨rfl, hb⟩
            (try go_wp2_with fail)
            refine hK.out _ _ ?_
            clear hK K
            (try simp only [Act.put, sA, sB, sC])
            have HS105 := Lib.hid (Since.trans HSd13.out hb)
            have HBC105 := Lib.hid (keep_blk hb HBCd13.out)
            have HBL105 := Lib.hid (keep_blk hb HBLd13.out)
            have HBn13105 := Lib.hid (keep_blk hb HBn13d13.out)
            clear HSd13 HBCd13 HBLd13 HBn13d13
            clear hb
            refine wpList_q (by rfl) (.bool true) ?he ?_
            case he => (first | rfl | (go_simp; (try with_reducible rfl)))
            (try simp only [Act.put, sA, sB, sC])
            refine wpList_nil ?_
            (try go_wp2_with fail)
            go_ret
            exact ⟨rfl, HS105.out⟩
    · have hend : decide ((k : Int) < (len2 : Int)) = false ∨ decide ((k : Int) < (len2 : Int)) = true ∧ ¬ ((k : Int) < 200) := by by_cases h : (k : Int) < (len2 : Int); (exact .inr ⟨decide_eq_true h, by omega⟩); exact .inl (decide_eq_false h)
      rcases hend with he | ⟨he, he2⟩
      · skip
        have hx1 : ¬ ((k : Int) < (len2 : Int)) := of_decide_eq_false he
        go_upto_region 19 with fail
        refine wp_region_lit ?_
        refine wpList_wp (by rfl) (fun K hK => ?_)
        (try go_simp)
        refine (ans _).mono ?_
        rintro e w52 ⟨rfl, hb⟩
        (try go_wp2_with fail)
        refine hK.out _ _ ?_
        clear hK K
        (try simp only [Act.put, sA, sB, sC])
        have HS52 := Lib.hid (Since.trans HS51.out hb)
        have HBC52 := Lib.hid (keep_blk hb HBC51.out)
        have HBL52 := Lib.hid (keep_blk hb HBL51.out)
        clear HS51 HBC51 HBL51
        clear hb
        refine wpList_q (by rfl) (.bool true) ?he ?_
        case he => (first | rfl | (go_simp; (try with_reducible rfl)))
        (try simp only [Act.put, sA, sB, sC])
        refine wpList_nil ?_
        (try go_wp2_with fail)
        go_ret
        exact ⟨rfl, HS52.out⟩
      · skip
        have hx1 : (k : Int) < (len2 : Int) := of_decide_eq_true he
        go_upto_region 19 with fail
        refine wp_region_lit ?_
        refine wpList_wp (by rfl) (fun K hK => ?_)
        (try go_simp)
        refine (ans _).mono ?_
        rintro e w52 ⟨rfl, hb⟩
        (try go_wp2_with fail)
        refine hK.out _ _ ?_
        clear hK K
        (try simp only [Act.put, sA, sB, sC])
        have HS52 := Lib.hid (Since.trans HS51.out hb)
        have HBC52 := Lib.hid (keep_blk hb HBC51.out)
        have HBL52 := Lib.hid (keep_blk hb HBL51.out)
        clear HS51 HBC51 HBL51
        clear hb
        refine wpList_q (by rfl) (.bool true) ?he ?_
        case he => (first | rfl | (go_simp; (try with_reducible rfl)))
        (try simp only [Act.put, sA, sB, sC])
        refine wpList_nil ?_
        (try go_wp2_with fail)
        go_ret
        exact ⟨rfl, HS52.out⟩
theorem phasesA (c : CfgV) (l : LeaseV) (a2 : Option Addr) (len2 cap2 : Nat) (cs : Nat → CarV) (a3 : Option Addr) (len3 cap3 : Nat) (gs : Nat → MsgV) (a4 : Option Addr) (len4 cap4 : Nat) (zs : List Int) (w : World) (hC : CV w a2 len2 cs) (hl2 : len2 ≤ 9223372036854775807) (hG : Msgs w a3 len3 gs) (hl3 : len3 ≤ 9223372036854775807) (hZ : BV w a4 len4 zs) (hr0 : -9223372036854775808 ≤ l.re) (hr1 : l.re ≤ 9223372036854775807) : Calls Try.prog 13 #[.agg #[.int .i64 c.ca, .int .i64 c.fl, .int .i64 c.ft, .int .i64 c.se, .int .i64 c.dr, .int .i64 c.dw, .int .i64 c.ho, .int .i64 c.re, .int .i64 c.yi, .int .i64 c.qu, .int .i64 c.qo, .int .i64 c.lo, .int .i64 c.sl, .int .i64 c.rt, .int .i64 c.cp, .int .i64 c.tr, .int .i64 c.de, .int .i64 c.wi], .agg #[.int .i64 l.se, .int .i64 l.fl, .int .i64 l.fm, .int .i64 l.to, .int .i64 l.ma, .int .i64 l.ca, .int .i64 l.ph, .int .i64 l.un, .int .i64 l.re, .int .i64 l.gr], .slice a2 len2 cap2, .slice a3 len3 cap3, .slice a4 len4 cap4] w fun e w' => e = .returned (.bool true) ∧ Since w w' := by
  by_cases h0 : l.ph < 1
  · exact phX0 c l a2 len2 cap2 cs a3 len3 cap3 gs a4 len4 cap4 zs w hC hl2 hG hl3 hZ hr0 hr1 h0
  · by_cases h1 : 4 < l.ph
    · exact phX1 c l a2 len2 cap2 cs a3 len3 cap3 gs a4 len4 cap4 zs w hC hl2 hG hl3 hZ hr0 hr1 h0 h1
    · by_cases h2 : l.un < 0
      · exact phX2 c l a2 len2 cap2 cs a3 len3 cap3 gs a4 len4 cap4 zs w hC hl2 hG hl3 hZ hr0 hr1 h0 h1 h2
      · by_cases h3 : 1073741824 < l.un
        · exact phX3 c l a2 len2 cap2 cs a3 len3 cap3 gs a4 len4 cap4 zs w hC hl2 hG hl3 hZ hr0 hr1 h0 h1 h2 h3
        · exact phases c l a2 len2 cap2 cs a3 len3 cap3 gs a4 len4 cap4 zs w hC hl2 hG hl3 hZ hr0 hr1 h0 h1 h2 h3
theorem phF {H : Type} {enc : TypeId × Value → H} {y0 y1 : DataW H × List MemPlace} (cca : Int) (cfl : Int) (cft : Int) (cse : Int) (cdr : Int) (cdw : Int) (cho : Int) (cre : Int) (cyi : Int) (cqu : Int) (cqo : Int) (clo : Int) (csl : Int) (crt : Int) (ccp : Int) (ctr : Int) (cde : Int) (cwi : Int) (lse : Int) (lfl : Int) (lfm : Int) (lto : Int) (lma : Int) (lca : Int) (lph : Int) (lun : Int) (lre : Int) (lgr : Int) (a2 : Option Addr) (len2 cap2 : Nat) (a3 : Option Addr) (len3 cap3 : Nat) (a4 : Option Addr) (len4 cap4 : Nat) (zs : List Int) (w : World) (_ : (Lit.int .i64 cca).wf = true) (_ : (Lit.int .i64 cfl).wf = true) (_ : (Lit.int .i64 cft).wf = true) (_ : (Lit.int .i64 cse).wf = true) (_ : (Lit.int .i64 cdr).wf = true) (_ : (Lit.int .i64 cdw).wf = true) (_ : (Lit.int .i64 cho).wf = true) (_ : (Lit.int .i64 cre).wf = true) (_ : (Lit.int .i64 cyi).wf = true) (_ : (Lit.int .i64 cqu).wf = true) (_ : (Lit.int .i64 cqo).wf = true) (_ : (Lit.int .i64 clo).wf = true) (_ : (Lit.int .i64 csl).wf = true) (_ : (Lit.int .i64 crt).wf = true) (_ : (Lit.int .i64 ccp).wf = true) (_ : (Lit.int .i64 ctr).wf = true) (_ : (Lit.int .i64 cde).wf = true) (_ : (Lit.int .i64 cwi).wf = true) (_ : (Lit.int .i64 lse).wf = true) (_ : (Lit.int .i64 lfl).wf = true) (_ : (Lit.int .i64 lfm).wf = true) (_ : (Lit.int .i64 lto).wf = true) (_ : (Lit.int .i64 lma).wf = true) (_ : (Lit.int .i64 lca).wf = true) (_ : (Lit.int .i64 lph).wf = true) (_ : (Lit.int .i64 lun).wf = true) (hre : (Lit.int .i64 lre).wf = true) (_ : (Lit.int .i64 lgr).wf = true)
    (h2 : ∃ m, DataW.trod enc Try.prog w 0 (fun _ => true) true m 88 (Value.cells (.slice a2 len2 cap2)).toList = some y0) (h3 : ∃ m, DataW.trod enc Try.prog w 0 (fun _ => true) true m 77 (Value.cells (.slice a3 len3 cap3)).toList = some y1)
    (h4 : (a4 = none ∧ len4 = 0 ∧ cap4 = 0 ∧ zs = []) ∨ ∃ x, a4 = some x ∧ len4 ≤ cap4 ∧ cap4 ≤ maxLen ∧ zs.length = cap4 ∧ (∀ i, i < zs.length → w.cell? (x.add i) = some (.int .u8 (zs.getD i 0))) ∧ ∀ n ∈ zs, (Lit.int .u8 n).wf = true) (_ : len4 ≤ 140737488351232) :
    Calls Try.prog 13 #[.agg #[.int .i64 cca, .int .i64 cfl, .int .i64 cft, .int .i64 cse, .int .i64 cdr, .int .i64 cdw, .int .i64 cho, .int .i64 cre, .int .i64 cyi, .int .i64 cqu, .int .i64 cqo, .int .i64 clo, .int .i64 csl, .int .i64 crt, .int .i64 ccp, .int .i64 ctr, .int .i64 cde, .int .i64 cwi], .agg #[.int .i64 lse, .int .i64 lfl, .int .i64 lfm, .int .i64 lto, .int .i64 lma, .int .i64 lca, .int .i64 lph, .int .i64 lun, .int .i64 lre, .int .i64 lgr], .slice a2 len2 cap2, .slice a3 len3 cap3, .slice a4 len4 cap4] w fun e w' => e = .returned (.bool true) ∧ Since w w' := by
  obtain ⟨m2, h2⟩ := h2
  obtain ⟨m3, h3⟩ := h3
  obtain ⟨cs, hC, hl2, _⟩ := CV.open_ h2
  obtain ⟨gs, hG, hl3⟩ := Msgs.open_ h3
  have hw := bounds_i64 hre
  exact phasesA ⟨cca, cfl, cft, cse, cdr, cdw, cho, cre, cyi, cqu, cqo, clo, csl, crt, ccp, ctr, cde, cwi⟩ ⟨lse, lfl, lfm, lto, lma, lca, lph, lun, lre, lgr⟩ a2 len2 cap2 cs a3 len3 cap3 gs a4 len4 cap4 (zs.take len4) w hC hl2 hG hl3 (BV.of_row h4) (by show _ ≤ lre; omega) (by show lre ≤ _; omega)
end Go.Proofs.Ytggafipgfgbbiaa.Ri
