/-
  What is wanted by the last of these texts, part 10.
  No condition.
-/
import Derived.Test.YtpacieocmogjeaaProg
import Derived.Test.YtpacieocmogjeaaKGv0
import Derived.Test.YtpacieocmogjeaaKGv9
import Derived.Test.YtpacieocmogjeaaKGv5
namespace Go.Proofs.Ytpacieocmogjeaa.Ct
set_option linter.unusedVariables false
set_option linter.unusedSimpArgs false
open Go.RowKit Go.Proofs.Ytpacieocmogjeaa.Ba Go.Proofs.Ytpacieocmogjeaa.Mem Go.Proofs.Ytpacieocmogjeaa.Ty Go.Proofs.Ytpacieocmogjeaa.Mo Go.Proofs.Ytpacieocmogjeaa.St Go.Proofs.Ytpacieocmogjeaa.Sc Go.Proofs.Ytpacieocmogjeaa.Pl
set_option maxRecDepth 100000
attribute [local irreducible] Go.wpList
theorem results_row3 {P : Program} {fn : Func} {p q s : Tmp} {ty tz : TypeId} (h : fn.results = #[.cell p ty, .cell q tz, .tmp s]) (tmps : Array Value) (w : World) (g g2 : Nat) (t t2 : TypeId) (cs cs2 : Array Value) (d d2 : TypeDesc) (u : Value)
    (hp : tmps.getD p undef = .pointer (some ⟨g, 0, none⟩)) (hq : tmps.getD q undef = .pointer (some ⟨g2, 0, none⟩)) (hs : tmps.getD s undef = u) (hg : Blk w g t cs) (hg2 : Blk w g2 t2 cs2)
    (hu : P.underlying ty = some d) (hd : (match d with | .struct _ | .array _ _ => true | _ => false) = true) (hi : (P.info? ty).map (·.size) = some cs.size)
    (hu2 : P.underlying tz = some d2) (hd2 : (match d2 with | .struct _ | .array _ _ => true | _ => false) = true) (hi2 : (P.info? tz).map (·.size) = some cs2.size) :
    (results fn tmps).run P w = .ok (.tuple #[.agg cs, .agg cs2, u]) w := by
  have hp' : tmps[p]?.getD undef = .pointer (some ⟨g, 0, none⟩) := by simpa using hp
  have hq' : tmps[q]?.getD undef = .pointer (some ⟨g2, 0, none⟩) := by simpa using hq
  have hs' : tmps[s]?.getD undef = u := by simpa using hs
  simp [results, h, hp', hq', hs', asAddr, run_loadVar_row w g t ty cs (0, 0) d hg hu hd hi, run_loadVar_row w g2 t2 tz cs2 (0, 0) d2 hg2 hu2 hd2 hi2]
theorem stepC (c : CfgV) (x : CarV) (r : Int) (o k : Bool) (w : World) (h : (0 ≤ x.da ∧ x.da ≤ 1000) ∧ -9223372036854775808 ≤ x.un ∧ x.un ≤ 9223372036854775807) : Calls Try.prog 75 #[.agg (cfgA c), .agg (carA x), .agg #[.int .i64 r, .bool o, .bool k]] w fun e w' => e = .returned (.agg (carA (stepV c x r o k))) ∧ Since w w' := Go.Proofs.Ytpacieocmogjeaa.Pl.stepT c x r o k h.1.1 h.1.2 h.2.1 h.2.2 w
def bdX (x : CarV) : Prop := (0 ≤ x.da ∧ x.da ≤ 1000) ∧ -9223372036854775808 ≤ x.un ∧ x.un ≤ 9223372036854775807
theorem ld_bd {x : CarV} (h : bdX x) : bdX (ldX x) := by unfold ldX; split <;> exact h
theorem go_bd {c : CfgV} {x : CarV} (h : bdX x) : bdX (goX c x) := by unfold goX; repeat' split <;> first | exact h | skip
theorem st_bd {c : CfgV} {x : CarV} (h : bdX x) : bdX (stX c x) := by unfold stX; split <;> exact h
set_option maxHeartbeats 4000000 in
theorem tick_br (c : CfgV) (x : CarV) (w : World) (hbr : x.br = true) (hbd : bdX x) : Calls Try.prog 46 #[.agg (cfgA c), .agg (carA x)] w fun e w' => e = .returned (.tuple #[.agg (carA (stepV c x 0 false false)), .agg #[.int .i64 0, .int .i64 0], .bool false]) ∧ Since w w' := by
  have HBR := Lib.hid hbr
  clear hbr
  have HBD := Lib.hid hbd
  clear hbd
  go_enter Try.func46, Try.ntmps46
  go_upto_region 1 with fail
  obtain ⟨w1, hw1⟩ : ∃ w1, w1 = ((((w.alloc (.cells (cfgA c) 23)).alloc (.cells (carA x) 30)).alloc (.cells #[.int .i64 0, .int .i64 0, .int .i64 0, .int .i64 0, .int .i64 0, .int .i64 0, .int .i64 0, .bool false, .bool false, .int .i64 0, .int .i64 0, .bool false, .int .u64 0, .int .u64 0, .int .u64 0] 30)).alloc (.cells #[.int .i64 0, .int .i64 0] 32)) := ⟨_, rfl⟩
  rw [← hw1]
  have HBC1 := Lib.hid (show Blk w1 (w.heap.size) 23 (cfgA c) by rw [hw1]; exact Blk.alloc (Blk.alloc (Blk.alloc (Blk.at_ (by (try simp only [size_alloc])) _ _) _) _) _)
  have HBX1 := Lib.hid (show Blk w1 (w.heap.size + 1) 30 (carA x) by rw [hw1]; exact Blk.alloc (Blk.alloc (Blk.at_ (by (try simp only [size_alloc])) _ _) _) _)
  have HBQ1 := Lib.hid (show Blk w1 (w.heap.size + 1 + 1) 30 #[.int .i64 0, .int .i64 0, .int .i64 0, .int .i64 0, .int .i64 0, .int .i64 0, .int .i64 0, .bool false, .bool false, .int .i64 0, .int .i64 0, .bool false, .int .u64 0, .int .u64 0, .int .u64 0] by rw [hw1]; exact Blk.alloc (Blk.at_ (by (try simp only [size_alloc])) _ _) _)
  have HBR1 := Lib.hid (show Blk w1 (w.heap.size + 1 + 1 + 1) 32 #[.int .i64 0, .int .i64 0] by rw [hw1]; exact Blk.at_ (by (try simp only [size_alloc])) _ _)
  have HS1 := Lib.hid (show Since w w1 by rw [hw1]; exact Since.alloc (Since.alloc (Since.alloc (Since.alloc (Since.refl w) _) _) _) _)
  have hNE : w.heap.size ≤ w.heap.size ∧ w.heap.size < w.heap.size + 1 ∧ w.heap.size + 1 < w.heap.size + 1 + 1 ∧ w.heap.size + 1 + 1 < w.heap.size + 1 + 1 + 1 := by omega
  have HNE := Lib.hid hNE
  clear hNE hw1
  generalize w.heap.size + 1 + 1 + 1 = bR at *
  generalize w.heap.size + 1 + 1 = bQ at *
  generalize w.heap.size + 1 = bX at *
  have HNE3 := Lib.hid (show w.heap.size ≤ w.heap.size ∧ w.heap.size < bX ∧ bX < bQ ∧ bQ < bR from HNE.out)
  clear HNE
  refine wp_region_lit ?_
  refine wpList_q (by rfl) (.agg (carA x)) ?he ?_
  case he => exact exec_load_row 30 _ _ HBX1.out rfl rfl Try.underlying30 rfl (by kernel_rfl)
  (try simp only [Act.put, sA, sB, sC])
  refine wpList_q (by rfl) (.agg (ctlA x 0 false false)) ?he ?_
  case he => kernel_rfl
  (try simp only [Act.put, sA, sB, sC])
  refine wpList_wp (by rfl) (fun K hK => ?_)
  refine wp_new (fun b => .pointer (some ⟨b, 0, none⟩)) 97 #[.int .i64 0, .int .i64 0, .int .i64 0, .int .i64 0, .int .i64 0, .int .i64 0, .int .i64 0, .bool false, .bool false, .int .i64 0, .int .i64 0, .bool false, .int .u64 0, .int .u64 0, .int .u64 0, .int .i64 0, .bool false, .bool false] (by rintro b rfl; first | rfl | kernel_rfl) ?_
  intro bn7 w2 hge hB hb
  refine hK.out _ _ ?_
  clear hK K
  (try simp only [Act.put, sA, sB, sC])
  have HNn7C := Lib.hid (show bn7 ≠ w.heap.size by have := Blk.lt HBC1.out; omega)
  have HNn7X := Lib.hid (show bn7 ≠ bX by have := Blk.lt HBX1.out; omega)
  have HNn7Q := Lib.hid (show bn7 ≠ bQ by have := Blk.lt HBQ1.out; omega)
  have HNn7R := Lib.hid (show bn7 ≠ bR by have := Blk.lt HBR1.out; omega)
  have HGn7 := Lib.hid (show w.heap.size ≤ bn7 by have := Since.size HS1.out; omega)
  have HS2 := Lib.hid (Since.trans HS1.out hb)
  have HBC2 := Lib.hid (keep_blk hb HBC1.out)
  have HBX2 := Lib.hid (keep_blk hb HBX1.out)
  have HBQ2 := Lib.hid (keep_blk hb HBQ1.out)
  have HBR2 := Lib.hid (keep_blk hb HBR1.out)
  clear HS1 HBC1 HBX1 HBQ1 HBR1
  clear hb hge
  have HBn72 := Lib.hid hB
  clear hB
  refine wpList_wp (by rfl) (fun K hK => ?_)
  refine wp_st_row 97 _ _ rfl (ctlA x 0 false false) rfl rfl (HasRow.of HBn72.out rfl) rfl (by simp [cfgA, carA, ctlA, Value.oneCell']) (by kernel_rfl) ?_
  intro w3 hw
  refine hK.out _ _ ?_
  clear hK K
  (try simp only [Act.put, sA, sB, sC])
  have HS3 := Lib.hid (show Since w w3 by rw [hw]; exact Since.setRow HS2.out HGn7.out _)
  have HBC3 := Lib.hid (show Blk w3 w.heap.size 23 (cfgA c) by rw [hw]; exact Blk.row_far HBC2.out (Ne.symm HNn7C.out) _)
  have HBX3 := Lib.hid (show Blk w3 bX 30 (carA x) by rw [hw]; exact Blk.row_far HBX2.out (Ne.symm HNn7X.out) _)
  have HBQ3 := Lib.hid (show Blk w3 bQ 30 #[.int .i64 0, .int .i64 0, .int .i64 0, .int .i64 0, .int .i64 0, .int .i64 0, .int .i64 0, .bool false, .bool false, .int .i64 0, .int .i64 0, .bool false, .int .u64 0, .int .u64 0, .int .u64 0] by rw [hw]; exact Blk.row_far HBQ2.out (Ne.symm HNn7Q.out) _)
  have HBR3 := Lib.hid (show Blk w3 bR 32 #[.int .i64 0, .int .i64 0] by rw [hw]; exact Blk.row_far HBR2.out (Ne.symm HNn7R.out) _)
  have HBn73 := Lib.hid (show Blk w3 bn7 97 (ctlA x 0 false false) by rw [hw]; exact Blk.row HBn72.out _)
  clear hw HS2 HBC2 HBX2 HBQ2 HBR2 HBn72
  refine wpList_nil ?_
  go_upto_region 2 with fail
  refine wp_region_lit ?_
  refine wpList_wp (by rfl) (fun K hK => ?_)
  refine wp_new (fun b => .pointer (some ⟨b, 0, none⟩)) 32 #[.int .i64 0, .int .i64 0] (by rintro b rfl; first | rfl | kernel_rfl) ?_
  intro bn8 w4 hge hB hb
  refine hK.out _ _ ?_
  clear hK K
  (try simp only [Act.put, sA, sB, sC])
  have HNn8C := Lib.hid (show bn8 ≠ w.heap.size by have := Blk.lt HBC3.out; omega)
  have HNn8X := Lib.hid (show bn8 ≠ bX by have := Blk.lt HBX3.out; omega)
  have HNn8Q := Lib.hid (show bn8 ≠ bQ by have := Blk.lt HBQ3.out; omega)
  have HNn8R := Lib.hid (show bn8 ≠ bR by have := Blk.lt HBR3.out; omega)
  have HNn8n7 := Lib.hid (show bn8 ≠ bn7 by have := Blk.lt HBn73.out; omega)
  have HGn8 := Lib.hid (show w.heap.size ≤ bn8 by have := Since.size HS3.out; omega)
  have HS4 := Lib.hid (Since.trans HS3.out hb)
  have HBC4 := Lib.hid (keep_blk hb HBC3.out)
  have HBX4 := Lib.hid (keep_blk hb HBX3.out)
  have HBQ4 := Lib.hid (keep_blk hb HBQ3.out)
  have HBR4 := Lib.hid (keep_blk hb HBR3.out)
  have HBn74 := Lib.hid (keep_blk hb HBn73.out)
  clear HS3 HBC3 HBX3 HBQ3 HBR3 HBn73
  clear hb hge
  have HBn84 := Lib.hid hB
  clear hB
  refine wpList_nil ?_
  go_upto_region 3 with fail
  refine wp_region_lit ?_
  refine tkL (.bool false) (h := ?_)
  (try simp only [Act.put, sA, sB, sC])
  refine wpList_nil ?_
  have HGK := Lib.hid HGn7.out
  go_upto_region 4 with fail
  refine wp_region_lit ?_
  refine tkL (.pointer (some ⟨bn7, 0, none⟩)) (h := ?_)
  (try simp only [Act.put, sA, sB, sC])
  refine tkL (.pointer (some ⟨bn7, 8, none⟩)) (h := ?_)
  (try simp only [Act.put, sA, sB, sC])
  refine wpList_q (by rfl) (.bool true) ?he ?_
  case he => exact exec_cell 4 _ _ HBn74.out (by show some (Value.bool x.br) = _; rw [HBR.out]) rfl rfl Try.underlying4 rfl
  (try simp only [Act.put, sA, sB, sC])
  refine tkL (.bool true) (h := ?_)
  (try simp only [Act.put, sA, sB, sC])
  refine wpList_nil ?_
  go_upto_region 11 with fail
  go_cut [6] (fun s6 wx => Hid (s6 = .bool false ∧ Since w wx ∧ Blk wx w.heap.size 23 (cfgA c) ∧ Blk wx bX 30 (carA x) ∧ Blk wx bQ 30 (carA (stepV c x 0 false false)) ∧ Blk wx bR 32 #[.int .i64 0, .int .i64 0] ∧ Blk wx bn7 97 (ctlA x 0 false false) ∧ Blk wx bn8 32 #[.int .i64 0, .int .i64 0]))
  case first =>
    have hrK : ∀ W W' : World, Since W W' → (Since w W ∧ Blk W w.heap.size 23 (cfgA c) ∧ Blk W bX 30 (carA x) ∧ HasRow W bQ 30 15 ∧ HasRow W bR 32 2 ∧ Blk W bn7 97 (ctlA x 0 false false) ∧ Blk W bn8 32 #[.int .i64 0, .int .i64 0]) → (Since w W' ∧ Blk W' w.heap.size 23 (cfgA c) ∧ Blk W' bX 30 (carA x) ∧ HasRow W' bQ 30 15 ∧ HasRow W' bR 32 2 ∧ Blk W' bn7 97 (ctlA x 0 false false) ∧ Blk W' bn8 32 #[.int .i64 0, .int .i64 0]) := fun W W' k ⟨h, h0, h1, h2, h3, h4, h5⟩ => ⟨h.trans k, keep_blk k h0, keep_blk k h1, HasRow.keep k h2, HasRow.keep k h3, keep_blk k h4, keep_blk k h5⟩
    have hrS : (fun W : World => Since w W ∧ Blk W w.heap.size 23 (cfgA c) ∧ Blk W bX 30 (carA x) ∧ HasRow W bQ 30 15 ∧ HasRow W bR 32 2 ∧ Blk W bn7 97 (ctlA x 0 false false) ∧ Blk W bn8 32 #[.int .i64 0, .int .i64 0]) w4 := ⟨HS4.out, HBC4.out, HBX4.out, HasRow.of HBQ4.out rfl, HasRow.of HBR4.out rfl, HBn74.out, HBn84.out⟩
    have HRK := Lib.hid hrK
    have HRD := Lib.hid (show (fun W : World => Since w W ∧ Blk W w.heap.size 23 (cfgA c) ∧ Blk W bX 30 (carA x) ∧ HasRow W bQ 30 15 ∧ HasRow W bR 32 2 ∧ Blk W bn7 97 (ctlA x 0 false false) ∧ Blk W bn8 32 #[.int .i64 0, .int .i64 0]) (World.drew w4) from hrK _ _ ((Since.refl w4).drew) hrS)
    clear hrK hrS
    refine wp_region_held_drew (S := fun W : World => Since w W ∧ Blk W w.heap.size 23 (cfgA c) ∧ Blk W bX 30 (carA x) ∧ HasRow W bQ 30 15 ∧ HasRow W bR 32 2 ∧ Blk W bn7 97 (ctlA x 0 false false) ∧ Blk W bn8 32 #[.int .i64 0, .int .i64 0]) (by kernel_rfl) HRD.out (fun hHeld => ?_)
    refine tkQ 0 (.agg (cfgA c)) hHeld (he := by intro w hSw; exact exec_load_row 23 _ _ hSw.2.1 rfl rfl Try.underlying23 rfl (by kernel_rfl)) (h := ?_)
    (try simp only [Act.put, sA, sB, sC])
    refine tkQ 1 (.pointer (some ⟨bn7, 0, none⟩)) hHeld (h := ?_)
    (try simp only [Act.put, sA, sB, sC])
    refine tkQ 2 (.agg (carA x)) hHeld (he := by intro w hSw; exact exec_part (n := 15) 30 _ _ hSw.2.2.2.2.2.1 rfl rfl rfl rfl Try.underlying30 rfl (by kernel_rfl)) (h := ?_)
    (try simp only [Act.put, sA, sB, sC])
    refine tkQ 3 (.pointer (some ⟨bn7, 15, none⟩)) hHeld (h := ?_)
    (try simp only [Act.put, sA, sB, sC])
    refine tkQ 4 (.agg #[.int .i64 0, .bool false, .bool false]) hHeld (he := by intro w hSw; exact exec_part (n := 3) 95 _ _ hSw.2.2.2.2.2.1 rfl rfl rfl rfl Try.underlying95 rfl (by kernel_rfl)) (h := ?_)
    (try simp only [Act.put, sA, sB, sC])
    refine tkQ 6 (.agg #[.int .i64 0, .int .i64 0]) hHeld (he := by intro w hSw; exact exec_load_row 32 _ _ hSw.2.2.2.2.2.2 rfl rfl Try.underlying32 rfl (by kernel_rfl)) (h := ?_)
    (try simp only [Act.put, sA, sB, sC])
    refine tkQ 7 (.bool false) hHeld (h := ?_)
    (try simp only [Act.put, sA, sB, sC])
    refine wpAnyH_ready (rs := [5]) (by kernel_rfl) (by simp) ?_
    refine AllReadyH.cons (o := ?o11__5) ?h11__5 (fun K hK => ?_) AllReadyH.nil
    case h11__5 => (first | (simp only [gA, gB, gC]; done) | (simp only [gA, gB, gC]; exact rfl))
    (try go_simp)
    refine (stepC c x 0 false false _ HBD.out).mono ?_
    rintro e w5 ⟨rfl, hb⟩
    (try go_wp2_with fail)
    refine hK.out _ _ (by (apply HRK.out; exact hb; exact hHeld)) (fun hHeld2 => ?_)
    clear hK K hHeld hb
    have hHeld := hHeld2
    clear hHeld2
    (try simp only [Act.put, sA, sB, sC])
    refine wpAnyH_ready (rs := [8]) (by kernel_rfl) (by simp) ?_
    refine AllReadyH.cons (o := ?o11__8) ?h11__8 (fun K hK => ?_) AllReadyH.nil
    case h11__8 => (first | (simp only [gA, gB, gC]; done) | (simp only [gA, gB, gC]; exact rfl))
    rw [if_pos (by rfl)]
    refine wp_st_row 30 _ _ rfl #[.int .i64 ((stepV c x 0 false false).ds), .int .i64 ((stepV c x 0 false false).da), .int .i64 ((stepV c x 0 false false).un), .int .i64 ((stepV c x 0 false false).wy), .int .i64 ((stepV c x 0 false false).ti), .int .i64 ((stepV c x 0 false false).ju), .int .i64 ((stepV c x 0 false false).lo), .bool ((stepV c x 0 false false).bl), .bool ((stepV c x 0 false false).br), .int .i64 ((stepV c x 0 false false).mo), .int .i64 ((stepV c x 0 false false).ta), .bool ((stepV c x 0 false false).ho), .int .u64 ((stepV c x 0 false false).sp), .int .u64 ((stepV c x 0 false false).su), .int .u64 ((stepV c x 0 false false).sd)] rfl rfl (hHeld.2.2.2.1) rfl (by simp [cfgA, carA, ctlA, Value.oneCell']) (by kernel_rfl) ?_
    intro w6 hw
    have HRQ := Lib.hid (show Blk w6 bQ 30 (carA (stepV c x 0 false false)) by obtain ⟨old, Bo, _⟩ := hHeld.2.2.2.1; rw [hw]; exact Blk.row Bo _)
    have hHeld3 : (fun W : World => Since w W ∧ Blk W w.heap.size 23 (cfgA c) ∧ Blk W bX 30 (carA x) ∧ HasRow W bQ 30 15 ∧ HasRow W bR 32 2 ∧ Blk W bn7 97 (ctlA x 0 false false) ∧ Blk W bn8 32 #[.int .i64 0, .int .i64 0]) w6 := ⟨by rw [hw]; exact Since.setRow hHeld.1 (by have := HNE3.out; omega) _, by rw [hw]; exact Blk.row_far (hHeld.2.1) (by have := HNE3.out; omega) _, by rw [hw]; exact Blk.row_far (hHeld.2.2.1) (by have := HNE3.out; omega) _, HasRow.of HRQ.out rfl, by rw [hw]; exact HasRow.row_far (hHeld.2.2.2.2.1) (by have := HNE3.out; omega) _, by rw [hw]; exact Blk.row_far (hHeld.2.2.2.2.2.1) HNn7Q.out _, by rw [hw]; exact Blk.row_far (hHeld.2.2.2.2.2.2) HNn8Q.out _⟩
    refine hK.out _ _ hHeld3 (fun hHeld2 => ?_)
    clear hK K hHeld hHeld3 hw
    have hHeld := hHeld2
    clear hHeld2
    (try simp only [Act.put, sA, sB, sC])
    refine wpAnyH_ready (rs := [9]) (by kernel_rfl) (by simp) ?_
    refine AllReadyH.cons (o := ?o11__9) ?h11__9 (fun K hK => ?_) AllReadyH.nil
    case h11__9 => (first | (simp only [gA, gB, gC]; done) | (simp only [gA, gB, gC]; exact rfl))
    rw [if_pos (by rfl)]
    refine wp_st_row 32 _ _ rfl #[.int .i64 0, .int .i64 0] rfl rfl (hHeld.2.2.2.2.1) rfl (by simp [cfgA, carA, ctlA, Value.oneCell']) (by kernel_rfl) ?_
    intro w7 hw
    have HRR := Lib.hid (show Blk w7 bR 32 #[.int .i64 0, .int .i64 0] by obtain ⟨old, Bo, _⟩ := hHeld.2.2.2.2.1; rw [hw]; exact Blk.row Bo _)
    have HRQf := Lib.hid (show Blk w7 bQ 30 (carA (stepV c x 0 false false)) by rw [hw]; exact Blk.row_far HRQ.out (by have := HNE3.out; omega) _)
    clear HRQ
    have hHeld3 : (fun W : World => Since w W ∧ Blk W w.heap.size 23 (cfgA c) ∧ Blk W bX 30 (carA x) ∧ HasRow W bQ 30 15 ∧ HasRow W bR 32 2 ∧ Blk W bn7 97 (ctlA x 0 false false) ∧ Blk W bn8 32 #[.int .i64 0, .int .i64 0]) w7 := ⟨by rw [hw]; exact Since.setRow hHeld.1 (by have := HNE3.out; omega) _, by rw [hw]; exact Blk.row_far (hHeld.2.1) (by have := HNE3.out; omega) _, by rw [hw]; exact Blk.row_far (hHeld.2.2.1) (by have := HNE3.out; omega) _, by rw [hw]; exact HasRow.row_far (hHeld.2.2.2.1) (by have := HNE3.out; omega) _, HasRow.of HRR.out rfl, by rw [hw]; exact Blk.row_far (hHeld.2.2.2.2.2.1) HNn7R.out _, by rw [hw]; exact Blk.row_far (hHeld.2.2.2.2.2.2) HNn8R.out _⟩
    refine hK.out _ _ hHeld3 (fun hHeld2 => ?_)
    clear hK K hHeld hHeld3 hw
    have hHeld := hHeld2
    clear hHeld2
    (try simp only [Act.put, sA, sB, sC])
    refine tkQ 10 (.bool false) hHeld (h := ?_)
    (try simp only [Act.put, sA, sB, sC])
    refine wpAnyH_done (by kernel_rfl) ?_ _
    have HSd11 := Lib.hid hHeld.1
    have HBCd11 := Lib.hid (hHeld.2.1)
    have HBXd11 := Lib.hid (hHeld.2.2.1)
    have HBQd11 := Lib.hid HRQf.out
    clear HRQf
    have HBRd11 := Lib.hid HRR.out
    clear HRR
    have HBKd11 := Lib.hid (hHeld.2.2.2.2.2.1)
    have HBn8d11 := Lib.hid (hHeld.2.2.2.2.2.2)
    clear hHeld HRK HRD HS4 HBC4 HBX4 HBQ4 HBR4 HBn74 HBn84
    go_wp2_with fail
    go_meet
    case rel => exact Lib.hid ⟨rfl, HSd11.out, HBCd11.out, HBXd11.out, HBQd11.out, HBRd11.out, HBKd11.out, HBn8d11.out⟩
  case rest =>
    clear HS4 HBC4 HBX4 HBQ4 HBR4 HBn74 HBn84
    obtain ⟨rfl, g0, g1, g2, g3, g4, g5, g6⟩ := hcut.out
    clear hcut
    have HS54 := Lib.hid g0
    have HBC54 := Lib.hid g1
    have HBX54 := Lib.hid g2
    have HBQ54 := Lib.hid g3
    have HBR54 := Lib.hid g4
    have HBK54 := Lib.hid g5
    have HBn854 := Lib.hid g6
    clear g0 g1 g2 g3 g4 g5 g6
    (try go_wp2_with fail)
    exact bodyPost_ret (results_row3 rfl _ _ bQ bR 30 32 (carA (stepV c x 0 false false)) #[.int .i64 0, .int .i64 0] _ _ (.bool false) rfl rfl rfl HBQ54.out HBR54.out Try.underlying30 rfl (by kernel_rfl) Try.underlying32 rfl (by kernel_rfl)) rfl ⟨rfl, HS54.out⟩
set_option maxHeartbeats 4000000 in
theorem tick_ld (c : CfgV) (x : CarV) (w : World) (hbr : x.br = false) (hmo : x.mo = 1) (hta0 : -1099511627776 ≤ x.ta) (hta1 : x.ta ≤ 1099511627776) (hbd : bdX x) : Calls Try.prog 46 #[.agg (cfgA c), .agg (carA x)] w fun e w' => e = .returned (.tuple #[.agg (carA (stepV c (ldX x) (ldR x) (ldO x) (ldK x))), .agg #[.int .i64 0, .int .i64 0], .bool false]) ∧ Since w w' := by
  have HBR := Lib.hid hbr
  clear hbr
  have HMO := Lib.hid hmo
  clear hmo
  have HTA0 := Lib.hid hta0
  clear hta0
  have HTA1 := Lib.hid hta1
  clear hta1
  have HBD := Lib.hid hbd
  clear hbd
  go_enter Try.func46, Try.ntmps46
  go_upto_region 1 with fail
  obtain ⟨w1, hw1⟩ : ∃ w1, w1 = ((((w.alloc (.cells (cfgA c) 23)).alloc (.cells (carA x) 30)).alloc (.cells #[.int .i64 0, .int .i64 0, .int .i64 0, .int .i64 0, .int .i64 0, .int .i64 0, .int .i64 0, .bool false, .bool false, .int .i64 0, .int .i64 0, .bool false, .int .u64 0, .int .u64 0, .int .u64 0] 30)).alloc (.cells #[.int .i64 0, .int .i64 0] 32)) := ⟨_, rfl⟩
  rw [← hw1]
  have HBC1 := Lib.hid (show Blk w1 (w.heap.size) 23 (cfgA c) by rw [hw1]; exact Blk.alloc (Blk.alloc (Blk.alloc (Blk.at_ (by (try simp only [size_alloc])) _ _) _) _) _)
  have HBX1 := Lib.hid (show Blk w1 (w.heap.size + 1) 30 (carA x) by rw [hw1]; exact Blk.alloc (Blk.alloc (Blk.at_ (by (try simp only [size_alloc])) _ _) _) _)
  have HBQ1 := Lib.hid (show Blk w1 (w.heap.size + 1 + 1) 30 #[.int .i64 0, .int .i64 0, .int .i64 0, .int .i64 0, .int .i64 0, .int .i64 0, .int .i64 0, .bool false, .bool false, .int .i64 0, .int .i64 0, .bool false, .int .u64 0, .int .u64 0, .int .u64 0] by rw [hw1]; exact Blk.alloc (Blk.at_ (by (try simp only [size_alloc])) _ _) _)
  have HBR1 := Lib.hid (show Blk w1 (w.heap.size + 1 + 1 + 1) 32 #[.int .i64 0, .int .i64 0] by rw [hw1]; exact Blk.at_ (by (try simp only [size_alloc])) _ _)
  have HS1 := Lib.hid (show Since w w1 by rw [hw1]; exact Since.alloc (Since.alloc (Since.alloc (Since.alloc (Since.refl w) _) _) _) _)
  have hNE : w.heap.size ≤ w.heap.size ∧ w.heap.size < w.heap.size + 1 ∧ w.heap.size + 1 < w.heap.size + 1 + 1 ∧ w.heap.size + 1 + 1 < w.heap.size + 1 + 1 + 1 := by omega
  have HNE := Lib.hid hNE
  clear hNE hw1
  generalize w.heap.size + 1 + 1 + 1 = bR at *
  generalize w.heap.size + 1 + 1 = bQ at *
  generalize w.heap.size + 1 = bX at *
  have HNE3 := Lib.hid (show w.heap.size ≤ w.heap.size ∧ w.heap.size < bX ∧ bX < bQ ∧ bQ < bR from HNE.out)
  clear HNE
  refine wp_region_lit ?_
  refine wpList_q (by rfl) (.agg (carA x)) ?he ?_
  case he => exact exec_load_row 30 _ _ HBX1.out rfl rfl Try.underlying30 rfl (by kernel_rfl)
  (try simp only [Act.put, sA, sB, sC])
  refine wpList_q (by rfl) (.agg (ctlA x 0 false false)) ?he ?_
  case he => kernel_rfl
  (try simp only [Act.put, sA, sB, sC])
  refine wpList_wp (by rfl) (fun K hK => ?_)
  refine wp_new (fun b => .pointer (some ⟨b, 0, none⟩)) 97 #[.int .i64 0, .int .i64 0, .int .i64 0, .int .i64 0, .int .i64 0, .int .i64 0, .int .i64 0, .bool false, .bool false, .int .i64 0, .int .i64 0, .bool false, .int .u64 0, .int .u64 0, .int .u64 0, .int .i64 0, .bool false, .bool false] (by rintro b rfl; first | rfl | kernel_rfl) ?_
  intro bn7 w2 hge hB hb
  refine hK.out _ _ ?_
  clear hK K
  (try simp only [Act.put, sA, sB, sC])
  have HNn7C := Lib.hid (show bn7 ≠ w.heap.size by have := Blk.lt HBC1.out; omega)
  have HNn7X := Lib.hid (show bn7 ≠ bX by have := Blk.lt HBX1.out; omega)
  have HNn7Q := Lib.hid (show bn7 ≠ bQ by have := Blk.lt HBQ1.out; omega)
  have HNn7R := Lib.hid (show bn7 ≠ bR by have := Blk.lt HBR1.out; omega)
  have HGn7 := Lib.hid (show w.heap.size ≤ bn7 by have := Since.size HS1.out; omega)
  have HS2 := Lib.hid (Since.trans HS1.out hb)
  have HBC2 := Lib.hid (keep_blk hb HBC1.out)
  have HBX2 := Lib.hid (keep_blk hb HBX1.out)
  have HBQ2 := Lib.hid (keep_blk hb HBQ1.out)
  have HBR2 := Lib.hid (keep_blk hb HBR1.out)
  clear HS1 HBC1 HBX1 HBQ1 HBR1
  clear hb hge
  have HBn72 := Lib.hid hB
  clear hB
  refine wpList_wp (by rfl) (fun K hK => ?_)
  refine wp_st_row 97 _ _ rfl (ctlA x 0 false false) rfl rfl (HasRow.of HBn72.out rfl) rfl (by simp [cfgA, carA, ctlA, Value.oneCell']) (by kernel_rfl) ?_
  intro w3 hw
  refine hK.out _ _ ?_
  clear hK K
  (try simp only [Act.put, sA, sB, sC])
  have HS3 := Lib.hid (show Since w w3 by rw [hw]; exact Since.setRow HS2.out HGn7.out _)
  have HBC3 := Lib.hid (show Blk w3 w.heap.size 23 (cfgA c) by rw [hw]; exact Blk.row_far HBC2.out (Ne.symm HNn7C.out) _)
  have HBX3 := Lib.hid (show Blk w3 bX 30 (carA x) by rw [hw]; exact Blk.row_far HBX2.out (Ne.symm HNn7X.out) _)
  have HBQ3 := Lib.hid (show Blk w3 bQ 30 #[.int .i64 0, .int .i64 0, .int .i64 0, .int .i64 0, .int .i64 0, .int .i64 0, .int .i64 0, .bool false, .bool false, .int .i64 0, .int .i64 0, .bool false, .int .u64 0, .int .u64 0, .int .u64 0] by rw [hw]; exact Blk.row_far HBQ2.out (Ne.symm HNn7Q.out) _)
  have HBR3 := Lib.hid (show Blk w3 bR 32 #[.int .i64 0, .int .i64 0] by rw [hw]; exact Blk.row_far HBR2.out (Ne.symm HNn7R.out) _)
  have HBn73 := Lib.hid (show Blk w3 bn7 97 (ctlA x 0 false false) by rw [hw]; exact Blk.row HBn72.out _)
  clear hw HS2 HBC2 HBX2 HBQ2 HBR2 HBn72
  refine wpList_nil ?_
  go_upto_region 2 with fail
  refine wp_region_lit ?_
  refine wpList_wp (by rfl) (fun K hK => ?_)
  refine wp_new (fun b => .pointer (some ⟨b, 0, none⟩)) 32 #[.int .i64 0, .int .i64 0] (by rintro b rfl; first | rfl | kernel_rfl) ?_
  intro bn8 w4 hge hB hb
  refine hK.out _ _ ?_
  clear hK K
  (try simp only [Act.put, sA, sB, sC])
  have HNn8C := Lib.hid (show bn8 ≠ w.heap.size by have := Blk.lt HBC3.out; omega)
  have HNn8X := Lib.hid (show bn8 ≠ bX by have := Blk.lt HBX3.out; omega)
  have HNn8Q := Lib.hid (show bn8 ≠ bQ by have := Blk.lt HBQ3.out; omega)
  have HNn8R := Lib.hid (show bn8 ≠ bR by have := Blk.lt HBR3.out; omega)
  have HNn8n7 := Lib.hid (show bn8 ≠ bn7 by have := Blk.lt HBn73.out; omega)
  have HGn8 := Lib.hid (show w.heap.size ≤ bn8 by have := Since.size HS3.out; omega)
  have HS4 := Lib.hid (Since.trans HS3.out hb)
  have HBC4 := Lib.hid (keep_blk hb HBC3.out)
  have HBX4 := Lib.hid (keep_blk hb HBX3.out)
  have HBQ4 := Lib.hid (keep_blk hb HBQ3.out)
  have HBR4 := Lib.hid (keep_blk hb HBR3.out)
  have HBn74 := Lib.hid (keep_blk hb HBn73.out)
  clear HS3 HBC3 HBX3 HBQ3 HBR3 HBn73
  clear hb hge
  have HBn84 := Lib.hid hB
  clear hB
  refine wpList_nil ?_
  go_upto_region 3 with fail
  refine wp_region_lit ?_
  refine tkL (.bool false) (h := ?_)
  (try simp only [Act.put, sA, sB, sC])
  refine wpList_nil ?_
  have HGK := Lib.hid HGn7.out
  go_upto_region 4 with fail
  refine wp_region_lit ?_
  refine tkL (.pointer (some ⟨bn7, 0, none⟩)) (h := ?_)
  (try simp only [Act.put, sA, sB, sC])
  refine tkL (.pointer (some ⟨bn7, 8, none⟩)) (h := ?_)
  (try simp only [Act.put, sA, sB, sC])
  refine wpList_q (by rfl) (.bool false) ?he ?_
  case he => exact exec_cell 4 _ _ HBn74.out (by show some (Value.bool x.br) = _; rw [HBR.out]) rfl rfl Try.underlying4 rfl
  (try simp only [Act.put, sA, sB, sC])
  refine tkL (.bool false) (h := ?_)
  (try simp only [Act.put, sA, sB, sC])
  refine wpList_nil ?_
  go_upto_region 5 with fail
  refine wp_region_lit ?_
  refine tkL (.pointer (some ⟨bn7, 0, none⟩)) (h := ?_)
  (try simp only [Act.put, sA, sB, sC])
  refine tkL (.pointer (some ⟨bn7, 9, none⟩)) (h := ?_)
  (try simp only [Act.put, sA, sB, sC])
  refine wpList_q (by rfl) (.int .i64 x.mo) ?he ?_
  case he => exact exec_cell 3 _ _ HBn74.out rfl rfl rfl Try.underlying3 rfl
  (try simp only [Act.put, sA, sB, sC])
  refine wpList_q (by rfl) (.bool true) ?he ?_
  case he => (have q0 := HMO.out; go_simp; (first | done | rfl | omega))
  (try simp only [Act.put, sA, sB, sC])
  refine tkL (.bool true) (h := ?_)
  (try simp only [Act.put, sA, sB, sC])
  refine wpList_nil ?_
  go_upto_region 6 with fail
  refine wp_region_lit ?_
  refine wpList_wp (by rfl) (fun K hK => ?_)
  (try go_simp)
  refine (leadT _ x _ HBn74.out HTA0.out HTA1.out).mono ?_
  rintro e w5 ⟨rfl, hB, hupd⟩
  (try go_wp2_with fail)
  refine hK.out _ _ ?_
  clear hK K
  (try simp only [Act.put, sA, sB, sC])
  have HBC5 := Lib.hid (hupd.blk HBC4.out (fun h => (Ne.symm HNn7C.out) (List.mem_singleton.1 h)))
  have HBX5 := Lib.hid (hupd.blk HBX4.out (fun h => (Ne.symm HNn7X.out) (List.mem_singleton.1 h)))
  have HBQ5 := Lib.hid (hupd.blk HBQ4.out (fun h => (Ne.symm HNn7Q.out) (List.mem_singleton.1 h)))
  have HBR5 := Lib.hid (hupd.blk HBR4.out (fun h => (Ne.symm HNn7R.out) (List.mem_singleton.1 h)))
  have HBn85 := Lib.hid (hupd.blk HBn84.out (fun h => HNn8n7.out (List.mem_singleton.1 h)))
  have HS5 := Lib.hid (Since.upd HS4.out hupd (fun g hg => by rw [List.mem_singleton.1 hg]; exact HGK.out))
  have HBK5 := Lib.hid (show Blk w5 bn7 97 (ctlA (ldX x) (ldR x) (ldO x) (ldK x)) from hB)
  clear hB hupd HS4 HBC4 HBX4 HBQ4 HBR4 HBn74 HBn84
  refine wpList_nil ?_
  go_upto_region 11 with fail
  go_cut [6] (fun s6 wx => Hid (s6 = .bool false ∧ Since w wx ∧ Blk wx w.heap.size 23 (cfgA c) ∧ Blk wx bX 30 (carA x) ∧ Blk wx bQ 30 (carA (stepV c (ldX x) (ldR x) (ldO x) (ldK x))) ∧ Blk wx bR 32 #[.int .i64 0, .int .i64 0] ∧ Blk wx bn7 97 (ctlA (ldX x) (ldR x) (ldO x) (ldK x)) ∧ Blk wx bn8 32 #[.int .i64 0, .int .i64 0]))
  case first =>
    have hrK : ∀ W W' : World, Since W W' → (Since w W ∧ Blk W w.heap.size 23 (cfgA c) ∧ Blk W bX 30 (carA x) ∧ HasRow W bQ 30 15 ∧ HasRow W bR 32 2 ∧ Blk W bn7 97 (ctlA (ldX x) (ldR x) (ldO x) (ldK x)) ∧ Blk W bn8 32 #[.int .i64 0, .int .i64 0]) → (Since w W' ∧ Blk W' w.heap.size 23 (cfgA c) ∧ Blk W' bX 30 (carA x) ∧ HasRow W' bQ 30 15 ∧ HasRow W' bR 32 2 ∧ Blk W' bn7 97 (ctlA (ldX x) (ldR x) (ldO x) (ldK x)) ∧ Blk W' bn8 32 #[.int .i64 0, .int .i64 0]) := fun W W' k ⟨h, h0, h1, h2, h3, h4, h5⟩ => ⟨h.trans k, keep_blk k h0, keep_blk k h1, HasRow.keep k h2, HasRow.keep k h3, keep_blk k h4, keep_blk k h5⟩
    have hrS : (fun W : World => Since w W ∧ Blk W w.heap.size 23 (cfgA c) ∧ Blk W bX 30 (carA x) ∧ HasRow W bQ 30 15 ∧ HasRow W bR 32 2 ∧ Blk W bn7 97 (ctlA (ldX x) (ldR x) (ldO x) (ldK x)) ∧ Blk W bn8 32 #[.int .i64 0, .int .i64 0]) w5 := ⟨HS5.out, HBC5.out, HBX5.out, HasRow.of HBQ5.out rfl, HasRow.of HBR5.out rfl, HBK5.out, HBn85.out⟩
    have HRK := Lib.hid hrK
    have HRD := Lib.hid (show (fun W : World => Since w W ∧ Blk W w.heap.size 23 (cfgA c) ∧ Blk W bX 30 (carA x) ∧ HasRow W bQ 30 15 ∧ HasRow W bR 32 2 ∧ Blk W bn7 97 (ctlA (ldX x) (ldR x) (ldO x) (ldK x)) ∧ Blk W bn8 32 #[.int .i64 0, .int .i64 0]) (World.drew w5) from hrK _ _ ((Since.refl w5).drew) hrS)
    clear hrK hrS
    refine wp_region_held_drew (S := fun W : World => Since w W ∧ Blk W w.heap.size 23 (cfgA c) ∧ Blk W bX 30 (carA x) ∧ HasRow W bQ 30 15 ∧ HasRow W bR 32 2 ∧ Blk W bn7 97 (ctlA (ldX x) (ldR x) (ldO x) (ldK x)) ∧ Blk W bn8 32 #[.int .i64 0, .int .i64 0]) (by kernel_rfl) HRD.out (fun hHeld => ?_)
    refine tkQ 0 (.agg (cfgA c)) hHeld (he := by intro w hSw; exact exec_load_row 23 _ _ hSw.2.1 rfl rfl Try.underlying23 rfl (by kernel_rfl)) (h := ?_)
    (try simp only [Act.put, sA, sB, sC])
    refine tkQ 1 (.pointer (some ⟨bn7, 0, none⟩)) hHeld (h := ?_)
    (try simp only [Act.put, sA, sB, sC])
    refine tkQ 2 (.agg (carA (ldX x))) hHeld (he := by intro w hSw; exact exec_part (n := 15) 30 _ _ hSw.2.2.2.2.2.1 rfl rfl rfl rfl Try.underlying30 rfl (by kernel_rfl)) (h := ?_)
    (try simp only [Act.put, sA, sB, sC])
    refine tkQ 3 (.pointer (some ⟨bn7, 15, none⟩)) hHeld (h := ?_)
    (try simp only [Act.put, sA, sB, sC])
    refine tkQ 4 (.agg #[.int .i64 (ldR x), .bool (ldO x), .bool (ldK x)]) hHeld (he := by intro w hSw; exact exec_part (n := 3) 95 _ _ hSw.2.2.2.2.2.1 rfl rfl rfl rfl Try.underlying95 rfl (by kernel_rfl)) (h := ?_)
    (try simp only [Act.put, sA, sB, sC])
    refine tkQ 6 (.agg #[.int .i64 0, .int .i64 0]) hHeld (he := by intro w hSw; exact exec_load_row 32 _ _ hSw.2.2.2.2.2.2 rfl rfl Try.underlying32 rfl (by kernel_rfl)) (h := ?_)
    (try simp only [Act.put, sA, sB, sC])
    refine tkQ 7 (.bool false) hHeld (h := ?_)
    (try simp only [Act.put, sA, sB, sC])
    refine wpAnyH_ready (rs := [5]) (by kernel_rfl) (by simp) ?_
    refine AllReadyH.cons (o := ?o11__5) ?h11__5 (fun K hK => ?_) AllReadyH.nil
    case h11__5 => (first | (simp only [gA, gB, gC]; done) | (simp only [gA, gB, gC]; exact rfl))
    (try go_simp)
    refine (stepC c (ldX x) (ldR x) (ldO x) (ldK x) _ (ld_bd HBD.out)).mono ?_
    rintro e w6 ⟨rfl, hb⟩
    (try go_wp2_with fail)
    refine hK.out _ _ (by (apply HRK.out; exact hb; exact hHeld)) (fun hHeld2 => ?_)
    clear hK K hHeld hb
    have hHeld := hHeld2
    clear hHeld2
    (try simp only [Act.put, sA, sB, sC])
    refine wpAnyH_ready (rs := [8]) (by kernel_rfl) (by simp) ?_
    refine AllReadyH.cons (o := ?o11__8) ?h11__8 (fun K hK => ?_) AllReadyH.nil
    case h11__8 => (first | (simp only [gA, gB, gC]; done) | (simp only [gA, gB, gC]; exact rfl))
    rw [if_pos (by rfl)]
    refine wp_st_row 30 _ _ rfl #[.int .i64 ((stepV c (ldX x) (ldR x) (ldO x) (ldK x)).ds), .int .i64 ((stepV c (ldX x) (ldR x) (ldO x) (ldK x)).da), .int .i64 ((stepV c (ldX x) (ldR x) (ldO x) (ldK x)).un), .int .i64 ((stepV c (ldX x) (ldR x) (ldO x) (ldK x)).wy), .int .i64 ((stepV c (ldX x) (ldR x) (ldO x) (ldK x)).ti), .int .i64 ((stepV c (ldX x) (ldR x) (ldO x) (ldK x)).ju), .int .i64 ((stepV c (ldX x) (ldR x) (ldO x) (ldK x)).lo), .bool ((stepV c (ldX x) (ldR x) (ldO x) (ldK x)).bl), .bool ((stepV c (ldX x) (ldR x) (ldO x) (ldK x)).br), .int .i64 ((stepV c (ldX x) (ldR x) (ldO x) (ldK x)).mo), .int .i64 ((stepV c (ldX x) (ldR x) (ldO x) (ldK x)).ta), .bool ((stepV c (ldX x) (ldR x) (ldO x) (ldK x)).ho), .int .u64 ((stepV c (ldX x) (ldR x) (ldO x) (ldK x)).sp), .int .u64 ((stepV c (ldX x) (ldR x) (ldO x) (ldK x)).su), .int .u64 ((stepV c (ldX x) (ldR x) (ldO x) (ldK x)).sd)] rfl rfl (hHeld.2.2.2.1) rfl (by simp [cfgA, carA, ctlA, Value.oneCell']) (by kernel_rfl) ?_
    intro w7 hw
    have HRQ := Lib.hid (show Blk w7 bQ 30 (carA (stepV c (ldX x) (ldR x) (ldO x) (ldK x))) by obtain ⟨old, Bo, _⟩ := hHeld.2.2.2.1; rw [hw]; exact Blk.row Bo _)
    have hHeld3 : (fun W : World => Since w W ∧ Blk W w.heap.size 23 (cfgA c) ∧ Blk W bX 30 (carA x) ∧ HasRow W bQ 30 15 ∧ HasRow W bR 32 2 ∧ Blk W bn7 97 (ctlA (ldX x) (ldR x) (ldO x) (ldK x)) ∧ Blk W bn8 32 #[.int .i64 0, .int .i64 0]) w7 := ⟨by rw [hw]; exact Since.setRow hHeld.1 (by have := HNE3.out; omega) _, by rw [hw]; exact Blk.row_far (hHeld.2.1) (by have := HNE3.out; omega) _, by rw [hw]; exact Blk.row_far (hHeld.2.2.1) (by have := HNE3.out; omega) _, HasRow.of HRQ.out rfl, by rw [hw]; exact HasRow.row_far (hHeld.2.2.2.2.1) (by have := HNE3.out; omega) _, by rw [hw]; exact Blk.row_far (hHeld.2.2.2.2.2.1) HNn7Q.out _, by rw [hw]; exact Blk.row_far (hHeld.2.2.2.2.2.2) HNn8Q.out _⟩
    refine hK.out _ _ hHeld3 (fun hHeld2 => ?_)
    clear hK K hHeld hHeld3 hw
    have hHeld := hHeld2
    clear hHeld2
    (try simp only [Act.put, sA, sB, sC])
    refine wpAnyH_ready (rs := [9]) (by kernel_rfl) (by simp) ?_
    refine AllReadyH.cons (o := ?o11__9) ?h11__9 (fun K hK => ?_) AllReadyH.nil
    case h11__9 => (first | (simp only [gA, gB, gC]; done) | (simp only [gA, gB, gC]; exact rfl))
    rw [if_pos (by rfl)]
    refine wp_st_row 32 _ _ rfl #[.int .i64 0, .int .i64 0] rfl rfl (hHeld.2.2.2.2.1) rfl (by simp [cfgA, carA, ctlA, Value.oneCell']) (by kernel_rfl) ?_
    intro w8 hw
    have HRR := Lib.hid (show Blk w8 bR 32 #[.int .i64 0, .int .i64 0] by obtain ⟨old, Bo, _⟩ := hHeld.2.2.2.2.1; rw [hw]; exact Blk.row Bo _)
    have HRQf := Lib.hid (show Blk w8 bQ 30 (carA (stepV c (ldX x) (ldR x) (ldO x) (ldK x))) by rw [hw]; exact Blk.row_far HRQ.out (by have := HNE3.out; omega) _)
    clear HRQ
    have hHeld3 : (fun W : World => Since w W ∧ Blk W w.heap.size 23 (cfgA c) ∧ Blk W bX 30 (carA x) ∧ HasRow W bQ 30 15 ∧ HasRow W bR 32 2 ∧ Blk W bn7 97 (ctlA (ldX x) (ldR x) (ldO x) (ldK x)) ∧ Blk W bn8 32 #[.int .i64 0, .int .i64 0]) w8 := ⟨by rw [hw]; exact Since.setRow hHeld.1 (by have := HNE3.out; omega) _, by rw [hw]; exact Blk.row_far (hHeld.2.1) (by have := HNE3.out; omega) _, by rw [hw]; exact Blk.row_far (hHeld.2.2.1) (by have := HNE3.out; omega) _, by rw [hw]; exact HasRow.row_far (hHeld.2.2.2.1) (by have := HNE3.out; omega) _, HasRow.of HRR.out rfl, by rw [hw]; exact Blk.row_far (hHeld.2.2.2.2.2.1) HNn7R.out _, by rw [hw]; exact Blk.row_far (hHeld.2.2.2.2.2.2) HNn8R.out _⟩
    refine hK.out _ _ hHeld3 (fun hHeld2 => ?_)
    clear hK K hHeld hHeld3 hw
    have hHeld := hHeld2
    clear hHeld2
    (try simp only [Act.put, sA, sB, sC])
    refine tkQ 10 (.bool false) hHeld (h := ?_)
    (try simp only [Act.put, sA, sB, sC])
    refine wpAnyH_done (by kernel_rfl) ?_ _
    have HSd11 := Lib.hid hHeld.1
    have HBCd11 := Lib.hid (hHeld.2.1)
    have HBXd11 := Lib.hid (hHeld.2.2.1)
    have HBQd11 := Lib.hid HRQf.out
    clear HRQf
    have HBRd11 := Lib.hid HRR.out
    clear HRR
    have HBKd11 := Lib.hid (hHeld.2.2.2.2.2.1)
    have HBn8d11 := Lib.hid (hHeld.2.2.2.2.2.2)
    clear hHeld HRK HRD HS5 HBC5 HBX5 HBQ5 HBR5 HBK5 HBn85
    go_wp2_with fail
    go_meet
    case rel => exact Lib.hid ⟨rfl, HSd11.out, HBCd11.out, HBXd11.out, HBQd11.out, HBRd11.out, HBKd11.out, HBn8d11.out⟩
  case rest =>
    clear HS5 HBC5 HBX5 HBQ5 HBR5 HBK5 HBn85
    obtain ⟨rfl, g0, g1, g2, g3, g4, g5, g6⟩ := hcut.out
    clear hcut
    have HS55 := Lib.hid g0
    have HBC55 := Lib.hid g1
    have HBX55 := Lib.hid g2
    have HBQ55 := Lib.hid g3
    have HBR55 := Lib.hid g4
    have HBK55 := Lib.hid g5
    have HBn855 := Lib.hid g6
    clear g0 g1 g2 g3 g4 g5 g6
    (try go_wp2_with fail)
    exact bodyPost_ret (results_row3 rfl _ _ bQ bR 30 32 (carA (stepV c (ldX x) (ldR x) (ldO x) (ldK x))) #[.int .i64 0, .int .i64 0] _ _ (.bool false) rfl rfl rfl HBQ55.out HBR55.out Try.underlying30 rfl (by kernel_rfl) Try.underlying32 rfl (by kernel_rfl)) rfl ⟨rfl, HS55.out⟩
set_option maxHeartbeats 4000000 in
theorem tick_go (c : CfgV) (x : CarV) (w : World) (hbr : x.br = false) (hmo : ¬ x.mo = 1) (hds : x.ds = 0) (hp : R x.sp) (hu : R x.su) (hd : R x.sd) (hbd : bdX x) : Calls Try.prog 46 #[.agg (cfgA c), .agg (carA x)] w fun e w' => e = .returned (.tuple #[.agg (carA (stepV c (goX c x) (goR x) (goO x) false)), .agg #[.int .i64 (goF x), .int .i64 (goW x)], .bool (goS x)]) ∧ Since w w' := by
  have HBR := Lib.hid hbr
  clear hbr
  have HMO := Lib.hid hmo
  clear hmo
  have HDS := Lib.hid hds
  clear hds
  have HP := Lib.hid hp
  clear hp
  have HU := Lib.hid hu
  clear hu
  have HD := Lib.hid hd
  clear hd
  have HBD := Lib.hid hbd
  clear hbd
  go_enter Try.func46, Try.ntmps46
  go_upto_region 1 with fail
  obtain ⟨w1, hw1⟩ : ∃ w1, w1 = ((((w.alloc (.cells (cfgA c) 23)).alloc (.cells (carA x) 30)).alloc (.cells #[.int .i64 0, .int .i64 0, .int .i64 0, .int .i64 0, .int .i64 0, .int .i64 0, .int .i64 0, .bool false, .bool false, .int .i64 0, .int .i64 0, .bool false, .int .u64 0, .int .u64 0, .int .u64 0] 30)).alloc (.cells #[.int .i64 0, .int .i64 0] 32)) := ⟨_, rfl⟩
  rw [← hw1]
  have HBC1 := Lib.hid (show Blk w1 (w.heap.size) 23 (cfgA c) by rw [hw1]; exact Blk.alloc (Blk.alloc (Blk.alloc (Blk.at_ (by (try simp only [size_alloc])) _ _) _) _) _)
  have HBX1 := Lib.hid (show Blk w1 (w.heap.size + 1) 30 (carA x) by rw [hw1]; exact Blk.alloc (Blk.alloc (Blk.at_ (by (try simp only [size_alloc])) _ _) _) _)
  have HBQ1 := Lib.hid (show Blk w1 (w.heap.size + 1 + 1) 30 #[.int .i64 0, .int .i64 0, .int .i64 0, .int .i64 0, .int .i64 0, .int .i64 0, .int .i64 0, .bool false, .bool false, .int .i64 0, .int .i64 0, .bool false, .int .u64 0, .int .u64 0, .int .u64 0] by rw [hw1]; exact Blk.alloc (Blk.at_ (by (try simp only [size_alloc])) _ _) _)
  have HBR1 := Lib.hid (show Blk w1 (w.heap.size + 1 + 1 + 1) 32 #[.int .i64 0, .int .i64 0] by rw [hw1]; exact Blk.at_ (by (try simp only [size_alloc])) _ _)
  have HS1 := Lib.hid (show Since w w1 by rw [hw1]; exact Since.alloc (Since.alloc (Since.alloc (Since.alloc (Since.refl w) _) _) _) _)
  have hNE : w.heap.size ≤ w.heap.size ∧ w.heap.size < w.heap.size + 1 ∧ w.heap.size + 1 < w.heap.size + 1 + 1 ∧ w.heap.size + 1 + 1 < w.heap.size + 1 + 1 + 1 := by omega
  have HNE := Lib.hid hNE
  clear hNE hw1
  generalize w.heap.size + 1 + 1 + 1 = bR at *
  generalize w.heap.size + 1 + 1 = bQ at *
  generalize w.heap.size + 1 = bX at *
  have HNE3 := Lib.hid (show w.heap.size ≤ w.heap.size ∧ w.heap.size < bX ∧ bX < bQ ∧ bQ < bR from HNE.out)
  clear HNE
  refine wp_region_lit ?_
  refine wpList_q (by rfl) (.agg (carA x)) ?he ?_
  case he => exact exec_load_row 30 _ _ HBX1.out rfl rfl Try.underlying30 rfl (by kernel_rfl)
  (try simp only [Act.put, sA, sB, sC])
  refine wpList_q (by rfl) (.agg (ctlA x 0 false false)) ?he ?_
  case he => kernel_rfl
  (try simp only [Act.put, sA, sB, sC])
  refine wpList_wp (by rfl) (fun K hK => ?_)
  refine wp_new (fun b => .pointer (some ⟨b, 0, none⟩)) 97 #[.int .i64 0, .int .i64 0, .int .i64 0, .int .i64 0, .int .i64 0, .int .i64 0, .int .i64 0, .bool false, .bool false, .int .i64 0, .int .i64 0, .bool false, .int .u64 0, .int .u64 0, .int .u64 0, .int .i64 0, .bool false, .bool false] (by rintro b rfl; first | rfl | kernel_rfl) ?_
  intro bn7 w2 hge hB hb
  refine hK.out _ _ ?_
  clear hK K
  (try simp only [Act.put, sA, sB, sC])
  have HNn7C := Lib.hid (show bn7 ≠ w.heap.size by have := Blk.lt HBC1.out; omega)
  have HNn7X := Lib.hid (show bn7 ≠ bX by have := Blk.lt HBX1.out; omega)
  have HNn7Q := Lib.hid (show bn7 ≠ bQ by have := Blk.lt HBQ1.out; omega)
  have HNn7R := Lib.hid (show bn7 ≠ bR by have := Blk.lt HBR1.out; omega)
  have HGn7 := Lib.hid (show w.heap.size ≤ bn7 by have := Since.size HS1.out; omega)
  have HS2 := Lib.hid (Since.trans HS1.out hb)
  have HBC2 := Lib.hid (keep_blk hb HBC1.out)
  have HBX2 := Lib.hid (keep_blk hb HBX1.out)
  have HBQ2 := Lib.hid (keep_blk hb HBQ1.out)
  have HBR2 := Lib.hid (keep_blk hb HBR1.out)
  clear HS1 HBC1 HBX1 HBQ1 HBR1
  clear hb hge
  have HBn72 := Lib.hid hB
  clear hB
  refine wpList_wp (by rfl) (fun K hK => ?_)
  refine wp_st_row 97 _ _ rfl (ctlA x 0 false false) rfl rfl (HasRow.of HBn72.out rfl) rfl (by simp [cfgA, carA, ctlA, Value.oneCell']) (by kernel_rfl) ?_
  intro w3 hw
  refine hK.out _ _ ?_
  clear hK K
  (try simp only [Act.put, sA, sB, sC])
  have HS3 := Lib.hid (show Since w w3 by rw [hw]; exact Since.setRow HS2.out HGn7.out _)
  have HBC3 := Lib.hid (show Blk w3 w.heap.size 23 (cfgA c) by rw [hw]; exact Blk.row_far HBC2.out (Ne.symm HNn7C.out) _)
  have HBX3 := Lib.hid (show Blk w3 bX 30 (carA x) by rw [hw]; exact Blk.row_far HBX2.out (Ne.symm HNn7X.out) _)
  have HBQ3 := Lib.hid (show Blk w3 bQ 30 #[.int .i64 0, .int .i64 0, .int .i64 0, .int .i64 0, .int .i64 0, .int .i64 0, .int .i64 0, .bool false, .bool false, .int .i64 0, .int .i64 0, .bool false, .int .u64 0, .int .u64 0, .int .u64 0] by rw [hw]; exact Blk.row_far HBQ2.out (Ne.symm HNn7Q.out) _)
  have HBR3 := Lib.hid (show Blk w3 bR 32 #[.int .i64 0, .int .i64 0] by rw [hw]; exact Blk.row_far HBR2.out (Ne.symm HNn7R.out) _)
  have HBn73 := Lib.hid (show Blk w3 bn7 97 (ctlA x 0 false false) by rw [hw]; exact Blk.row HBn72.out _)
  clear hw HS2 HBC2 HBX2 HBQ2 HBR2 HBn72
  refine wpList_nil ?_
  go_upto_region 2 with fail
  refine wp_region_lit ?_
  refine wpList_wp (by rfl) (fun K hK => ?_)
  refine wp_new (fun b => .pointer (some ⟨b, 0, none⟩)) 32 #[.int .i64 0, .int .i64 0] (by rintro b rfl; first | rfl | kernel_rfl) ?_
  intro bn8 w4 hge hB hb
  refine hK.out _ _ ?_
  clear hK K
  (try simp only [Act.put, sA, sB, sC])
  have HNn8C := Lib.hid (show bn8 ≠ w.heap.size by have := Blk.lt HBC3.out; omega)
  have HNn8X := Lib.hid (show bn8 ≠ bX by have := Blk.lt HBX3.out; omega)
  have HNn8Q := Lib.hid (show bn8 ≠ bQ by have := Blk.lt HBQ3.out; omega)
  have HNn8R := Lib.hid (show bn8 ≠ bR by have := Blk.lt HBR3.out; omega)
  have HNn8n7 := Lib.hid (show bn8 ≠ bn7 by have := Blk.lt HBn73.out; omega)
  have HGn8 := Lib.hid (show w.heap.size ≤ bn8 by have := Since.size HS3.out; omega)
  have HS4 := Lib.hid (Since.trans HS3.out hb)
  have HBC4 := Lib.hid (keep_blk hb HBC3.out)
  have HBX4 := Lib.hid (keep_blk hb HBX3.out)
  have HBQ4 := Lib.hid (keep_blk hb HBQ3.out)
  have HBR4 := Lib.hid (keep_blk hb HBR3.out)
  have HBn74 := Lib.hid (keep_blk hb HBn73.out)
  clear HS3 HBC3 HBX3 HBQ3 HBR3 HBn73
  clear hb hge
  have HBn84 := Lib.hid hB
  clear hB
  refine wpList_nil ?_
  go_upto_region 3 with fail
  refine wp_region_lit ?_
  refine tkL (.bool false) (h := ?_)
  (try simp only [Act.put, sA, sB, sC])
  refine wpList_nil ?_
  have HGK := Lib.hid HGn7.out
  go_upto_region 4 with fail
  refine wp_region_lit ?_
  refine tkL (.pointer (some ⟨bn7, 0, none⟩)) (h := ?_)
  (try simp only [Act.put, sA, sB, sC])
  refine tkL (.pointer (some ⟨bn7, 8, none⟩)) (h := ?_)
  (try simp only [Act.put, sA, sB, sC])
  refine wpList_q (by rfl) (.bool false) ?he ?_
  case he => exact exec_cell 4 _ _ HBn74.out (by show some (Value.bool x.br) = _; rw [HBR.out]) rfl rfl Try.underlying4 rfl
  (try simp only [Act.put, sA, sB, sC])
  refine tkL (.bool false) (h := ?_)
  (try simp only [Act.put, sA, sB, sC])
  refine wpList_nil ?_
  go_upto_region 5 with fail
  refine wp_region_lit ?_
  refine tkL (.pointer (some ⟨bn7, 0, none⟩)) (h := ?_)
  (try simp only [Act.put, sA, sB, sC])
  refine tkL (.pointer (some ⟨bn7, 9, none⟩)) (h := ?_)
  (try simp only [Act.put, sA, sB, sC])
  refine wpList_q (by rfl) (.int .i64 x.mo) ?he ?_
  case he => exact exec_cell 3 _ _ HBn74.out rfl rfl rfl Try.underlying3 rfl
  (try simp only [Act.put, sA, sB, sC])
  refine wpList_q (by rfl) (.bool false) ?he ?_
  case he => (have q0 := HMO.out; go_simp; (first | done | rfl | omega))
  (try simp only [Act.put, sA, sB, sC])
  refine tkL (.bool false) (h := ?_)
  (try simp only [Act.put, sA, sB, sC])
  refine wpList_nil ?_
  go_upto_region 7 with fail
  refine wp_region_lit ?_
  refine tkL (.pointer (some ⟨bn7, 0, none⟩)) (h := ?_)
  (try simp only [Act.put, sA, sB, sC])
  refine tkL (.pointer (some ⟨bn7, 0, none⟩)) (h := ?_)
  (try simp only [Act.put, sA, sB, sC])
  refine tkL (.pointer (some ⟨bn7, 0, none⟩)) (h := ?_)
  (try simp only [Act.put, sA, sB, sC])
  refine wpList_q (by rfl) (.int .i64 x.ds) ?he ?_
  case he => exact exec_cell 3 _ _ HBn74.out rfl rfl rfl Try.underlying3 rfl
  (try simp only [Act.put, sA, sB, sC])
  refine wpList_q (by rfl) (.bool true) ?he ?_
  case he => (have q0 := HDS.out; go_simp; (first | done | rfl | omega))
  (try simp only [Act.put, sA, sB, sC])
  refine tkL (.bool true) (h := ?_)
  (try simp only [Act.put, sA, sB, sC])
  refine wpList_nil ?_
  go_upto_region 8 with fail
  refine wp_region_lit ?_
  refine wpList_q (by rfl) (.agg (cfgA c)) ?he ?_
  case he => exact exec_load_row 23 _ _ HBC4.out rfl rfl Try.underlying23 rfl (by kernel_rfl)
  (try simp only [Act.put, sA, sB, sC])
  refine wpList_wp (by rfl) (fun K hK => ?_)
  (try go_simp)
  refine (goT _ c x _ HBn74.out HP.out HU.out HD.out).mono ?_
  rintro e w5 ⟨rfl, hB, hupd⟩
  (try go_wp2_with fail)
  refine hK.out _ _ ?_
  clear hK K
  (try simp only [Act.put, sA, sB, sC])
  have HBC5 := Lib.hid (hupd.blk HBC4.out (fun h => (Ne.symm HNn7C.out) (List.mem_singleton.1 h)))
  have HBX5 := Lib.hid (hupd.blk HBX4.out (fun h => (Ne.symm HNn7X.out) (List.mem_singleton.1 h)))
  have HBQ5 := Lib.hid (hupd.blk HBQ4.out (fun h => (Ne.symm HNn7Q.out) (List.mem_singleton.1 h)))
  have HBR5 := Lib.hid (hupd.blk HBR4.out (fun h => (Ne.symm HNn7R.out) (List.mem_singleton.1 h)))
  have HBn85 := Lib.hid (hupd.blk HBn84.out (fun h => HNn8n7.out (List.mem_singleton.1 h)))
  have HS5 := Lib.hid (Since.upd HS4.out hupd (fun g hg => by rw [List.mem_singleton.1 hg]; exact HGK.out))
  have HBK5 := Lib.hid (show Blk w5 bn7 97 (ctlA (goX c x) (goR x) (goO x) false) from hB)
  clear hB hupd HS4 HBC4 HBX4 HBQ4 HBR4 HBn74 HBn84
  refine tkL (.tuple #[.agg #[.int .i64 (goF x), .int .i64 (goW x)], .bool (goS x)]) (h := ?_)
  (try simp only [Act.put, sA, sB, sC])
  refine tkL (.agg #[.int .i64 (goF x), .int .i64 (goW x)]) (h := ?_)
  (try simp only [Act.put, sA, sB, sC])
  refine tkL (.bool (goS x)) (h := ?_)
  (try simp only [Act.put, sA, sB, sC])
  refine wpList_wp (by rfl) (fun K hK => ?_)
  refine wp_st_row 32 _ _ rfl #[.int .i64 (goF x), .int .i64 (goW x)] rfl rfl (HasRow.of HBn85.out rfl) rfl (by simp [cfgA, carA, ctlA, Value.oneCell']) (by kernel_rfl) ?_
  intro w6 hw
  refine hK.out _ _ ?_
  clear hK K
  (try simp only [Act.put, sA, sB, sC])
  have HS6 := Lib.hid (show Since w w6 by rw [hw]; exact Since.setRow HS5.out HGn8.out _)
  have HBC6 := Lib.hid (show Blk w6 w.heap.size 23 (cfgA c) by rw [hw]; exact Blk.row_far HBC5.out (Ne.symm HNn8C.out) _)
  have HBX6 := Lib.hid (show Blk w6 bX 30 (carA x) by rw [hw]; exact Blk.row_far HBX5.out (Ne.symm HNn8X.out) _)
  have HBQ6 := Lib.hid (show Blk w6 bQ 30 #[.int .i64 0, .int .i64 0, .int .i64 0, .int .i64 0, .int .i64 0, .int .i64 0, .int .i64 0, .bool false, .bool false, .int .i64 0, .int .i64 0, .bool false, .int .u64 0, .int .u64 0, .int .u64 0] by rw [hw]; exact Blk.row_far HBQ5.out (Ne.symm HNn8Q.out) _)
  have HBR6 := Lib.hid (show Blk w6 bR 32 #[.int .i64 0, .int .i64 0] by rw [hw]; exact Blk.row_far HBR5.out (Ne.symm HNn8R.out) _)
  have HBK6 := Lib.hid (show Blk w6 bn7 97 (ctlA (goX c x) (goR x) (goO x) false) by rw [hw]; exact Blk.row_far HBK5.out (Ne.symm HNn8n7.out) _)
  have HBn86 := Lib.hid (show Blk w6 bn8 32 #[.int .i64 (goF x), .int .i64 (goW x)] by rw [hw]; exact Blk.row HBn85.out _)
  clear hw HS5 HBC5 HBX5 HBQ5 HBR5 HBK5 HBn85
  refine tkL (.bool (goS x)) (h := ?_)
  (try simp only [Act.put, sA, sB, sC])
  refine wpList_nil ?_
  go_upto_region 11 with fail
  go_cut [6] (fun s6 wx => Hid (s6 = .bool (goS x) ∧ Since w wx ∧ Blk wx w.heap.size 23 (cfgA c) ∧ Blk wx bX 30 (carA x) ∧ Blk wx bQ 30 (carA (stepV c (goX c x) (goR x) (goO x) false)) ∧ Blk wx bR 32 #[.int .i64 (goF x), .int .i64 (goW x)] ∧ Blk wx bn7 97 (ctlA (goX c x) (goR x) (goO x) false) ∧ Blk wx bn8 32 #[.int .i64 (goF x), .int .i64 (goW x)]))
  case first =>
    have hrK : ∀ W W' : World, Since W W' → (Since w W ∧ Blk W w.heap.size 23 (cfgA c) ∧ Blk W bX 30 (carA x) ∧ HasRow W bQ 30 15 ∧ HasRow W bR 32 2 ∧ Blk W bn7 97 (ctlA (goX c x) (goR x) (goO x) false) ∧ Blk W bn8 32 #[.int .i64 (goF x), .int .i64 (goW x)]) → (Since w W' ∧ Blk W' w.heap.size 23 (cfgA c) ∧ Blk W' bX 30 (carA x) ∧ HasRow W' bQ 30 15 ∧ HasRow W' bR 32 2 ∧ Blk W' bn7 97 (ctlA (goX c x) (goR x) (goO x) false) ∧ Blk W' bn8 32 #[.int .i64 (goF x), .int .i64 (goW x)]) := fun W W' k ⟨h, h0, h1, h2, h3, h4, h5⟩ => ⟨h.trans k, keep_blk k h0, keep_blk k h1, HasRow.keep k h2, HasRow.keep k h3, keep_blk k h4, keep_blk k h5⟩
    have hrS : (fun W : World => Since w W ∧ Blk W w.heap.size 23 (cfgA c) ∧ Blk W bX 30 (carA x) ∧ HasRow W bQ 30 15 ∧ HasRow W bR 32 2 ∧ Blk W bn7 97 (ctlA (goX c x) (goR x) (goO x) false) ∧ Blk W bn8 32 #[.int .i64 (goF x), .int .i64 (goW x)]) w6 := ⟨HS6.out, HBC6.out, HBX6.out, HasRow.of HBQ6.out rfl, HasRow.of HBR6.out rfl, HBK6.out, HBn86.out⟩
    have HRK := Lib.hid hrK
    have HRD := Lib.hid (show (fun W : World => Since w W ∧ Blk W w.heap.size 23 (cfgA c) ∧ Blk W bX 30 (carA x) ∧ HasRow W bQ 30 15 ∧ HasRow W bR 32 2 ∧ Blk W bn7 97 (ctlA (goX c x) (goR x) (goO x) false) ∧ Blk W bn8 32 #[.int .i64 (goF x), .int .i64 (goW x)]) (World.drew w6) from hrK _ _ ((Since.refl w6).drew) hrS)
    clear hrK hrS
    refine wp_region_held_drew (S := fun W : World => Since w W ∧ Blk W w.heap.size 23 (cfgA c) ∧ Blk W bX 30 (carA x) ∧ HasRow W bQ 30 15 ∧ HasRow W bR 32 2 ∧ Blk W bn7 97 (ctlA (goX c x) (goR x) (goO x) false) ∧ Blk W bn8 32 #[.int .i64 (goF x), .int .i64 (goW x)]) (by kernel_rfl) HRD.out (fun hHeld => ?_)
    refine tkQ 0 (.agg (cfgA c)) hHeld (he := by intro w hSw; exact exec_load_row 23 _ _ hSw.2.1 rfl rfl Try.underlying23 rfl (by kernel_rfl)) (h := ?_)
    (try simp only [Act.put, sA, sB, sC])
    refine tkQ 1 (.pointer (some ⟨bn7, 0, none⟩)) hHeld (h := ?_)
    (try simp only [Act.put, sA, sB, sC])
    refine tkQ 2 (.agg (carA (goX c x))) hHeld (he := by intro w hSw; exact exec_part (n := 15) 30 _ _ hSw.2.2.2.2.2.1 rfl rfl rfl rfl Try.underlying30 rfl (by kernel_rfl)) (h := ?_)
    (try simp only [Act.put, sA, sB, sC])
    refine tkQ 3 (.pointer (some ⟨bn7, 15, none⟩)) hHeld (h := ?_)
    (try simp only [Act.put, sA, sB, sC])
    refine tkQ 4 (.agg #[.int .i64 (goR x), .bool (goO x), .bool false]) hHeld (he := by intro w hSw; exact exec_part (n := 3) 95 _ _ hSw.2.2.2.2.2.1 rfl rfl rfl rfl Try.underlying95 rfl (by kernel_rfl)) (h := ?_)
    (try simp only [Act.put, sA, sB, sC])
    refine tkQ 6 (.agg #[.int .i64 (goF x), .int .i64 (goW x)]) hHeld (he := by intro w hSw; exact exec_load_row 32 _ _ hSw.2.2.2.2.2.2 rfl rfl Try.underlying32 rfl (by kernel_rfl)) (h := ?_)
    (try simp only [Act.put, sA, sB, sC])
    refine tkQ 7 (.bool (goS x)) hHeld (h := ?_)
    (try simp only [Act.put, sA, sB, sC])
    refine wpAnyH_ready (rs := [5]) (by kernel_rfl) (by simp) ?_
    refine AllReadyH.cons (o := ?o11__5) ?h11__5 (fun K hK => ?_) AllReadyH.nil
    case h11__5 => (first | (simp only [gA, gB, gC]; done) | (simp only [gA, gB, gC]; exact rfl))
    (try go_simp)
    refine (stepC c (goX c x) (goR x) (goO x) false _ (go_bd HBD.out)).mono ?_
    rintro e w7 ⟨rfl, hb⟩
    (try go_wp2_with fail)
    refine hK.out _ _ (by (apply HRK.out; exact hb; exact hHeld)) (fun hHeld2 => ?_)
    clear hK K hHeld hb
    have hHeld := hHeld2
    clear hHeld2
    (try simp only [Act.put, sA, sB, sC])
    refine wpAnyH_ready (rs := [8]) (by kernel_rfl) (by simp) ?_
    refine AllReadyH.cons (o := ?o11__8) ?h11__8 (fun K hK => ?_) AllReadyH.nil
    case h11__8 => (first | (simp only [gA, gB, gC]; done) | (simp only [gA, gB, gC]; exact rfl))
    rw [if_pos (by rfl)]
    refine wp_st_row 30 _ _ rfl #[.int .i64 ((stepV c (goX c x) (goR x) (goO x) false).ds), .int .i64 ((stepV c (goX c x) (goR x) (goO x) false).da), .int .i64 ((stepV c (goX c x) (goR x) (goO x) false).un), .int .i64 ((stepV c (goX c x) (goR x) (goO x) false).wy), .int .i64 ((stepV c (goX c x) (goR x) (goO x) false).ti), .int .i64 ((stepV c (goX c x) (goR x) (goO x) false).ju), .int .i64 ((stepV c (goX c x) (goR x) (goO x) false).lo), .bool ((stepV c (goX c x) (goR x) (goO x) false).bl), .bool ((stepV c (goX c x) (goR x) (goO x) false).br), .int .i64 ((stepV c (goX c x) (goR x) (goO x) false).mo), .int .i64 ((stepV c (goX c x) (goR x) (goO x) false).ta), .bool ((stepV c (goX c x) (goR x) (goO x) false).ho), .int .u64 ((stepV c (goX c x) (goR x) (goO x) false).sp), .int .u64 ((stepV c (goX c x) (goR x) (goO x) false).su), .int .u64 ((stepV c (goX c x) (goR x) (goO x) false).sd)] rfl rfl (hHeld.2.2.2.1) rfl (by simp [cfgA, carA, ctlA, Value.oneCell']) (by kernel_rfl) ?_
    intro w8 hw
    have HRQ := Lib.hid (show Blk w8 bQ 30 (carA (stepV c (goX c x) (goR x) (goO x) false)) by obtain ⟨old, Bo, _⟩ := hHeld.2.2.2.1; rw [hw]; exact Blk.row Bo _)
    have hHeld3 : (fun W : World => Since w W ∧ Blk W w.heap.size 23 (cfgA c) ∧ Blk W bX 30 (carA x) ∧ HasRow W bQ 30 15 ∧ HasRow W bR 32 2 ∧ Blk W bn7 97 (ctlA (goX c x) (goR x) (goO x) false) ∧ Blk W bn8 32 #[.int .i64 (goF x), .int .i64 (goW x)]) w8 := ⟨by rw [hw]; exact Since.setRow hHeld.1 (by have := HNE3.out; omega) _, by rw [hw]; exact Blk.row_far (hHeld.2.1) (by have := HNE3.out; omega) _, by rw [hw]; exact Blk.row_far (hHeld.2.2.1) (by have := HNE3.out; omega) _, HasRow.of HRQ.out rfl, by rw [hw]; exact HasRow.row_far (hHeld.2.2.2.2.1) (by have := HNE3.out; omega) _, by rw [hw]; exact Blk.row_far (hHeld.2.2.2.2.2.1) HNn7Q.out _, by rw [hw]; exact Blk.row_far (hHeld.2.2.2.2.2.2) HNn8Q.out _⟩
    refine hK.out _ _ hHeld3 (fun hHeld2 => ?_)
    clear hK K hHeld hHeld3 hw
    have hHeld := hHeld2
    clear hHeld2
    (try simp only [Act.put, sA, sB, sC])
    refine wpAnyH_ready (rs := [9]) (by kernel_rfl) (by simp) ?_
    refine AllReadyH.cons (o := ?o11__9) ?h11__9 (fun K hK => ?_) AllReadyH.nil
    case h11__9 => (first | (simp only [gA, gB, gC]; done) | (simp only [gA, gB, gC]; exact rfl))
    rw [if_pos (by rfl)]
    refine wp_st_row 32 _ _ rfl #[.int .i64 (goF x), .int .i64 (goW x)] rfl rfl (hHeld.2.2.2.2.1) rfl (by simp [cfgA, carA, ctlA, Value.oneCell']) (by kernel_rfl) ?_
    intro w9 hw
    have HRR := Lib.hid (show Blk w9 bR 32 #[.int .i64 (goF x), .int .i64 (goW x)] by obtain ⟨old, Bo, _⟩ := hHeld.2.2.2.2.1; rw [hw]; exact Blk.row Bo _)
    have HRQf := Lib.hid (show Blk w9 bQ 30 (carA (stepV c (goX c x) (goR x) (goO x) false)) by rw [hw]; exact Blk.row_far HRQ.out (by have := HNE3.out; omega) _)
    clear HRQ
    have hHeld3 : (fun W : World => Since w W ∧ Blk W w.heap.size 23 (cfgA c) ∧ Blk W bX 30 (carA x) ∧ HasRow W bQ 30 15 ∧ HasRow W bR 32 2 ∧ Blk W bn7 97 (ctlA (goX c x) (goR x) (goO x) false) ∧ Blk W bn8 32 #[.int .i64 (goF x), .int .i64 (goW x)]) w9 := ⟨by rw [hw]; exact Since.setRow hHeld.1 (by have := HNE3.out; omega) _, by rw [hw]; exact Blk.row_far (hHeld.2.1) (by have := HNE3.out; omega) _, by rw [hw]; exact Blk.row_far (hHeld.2.2.1) (by have := HNE3.out; omega) _, by rw [hw]; exact HasRow.row_far (hHeld.2.2.2.1) (by have := HNE3.out; omega) _, HasRow.of HRR.out rfl, by rw [hw]; exact Blk.row_far (hHeld.2.2.2.2.2.1) HNn7R.out _, by rw [hw]; exact Blk.row_far (hHeld.2.2.2.2.2.2) HNn8R.out _⟩
    refine hK.out _ _ hHeld3 (fun hHeld2 => ?_)
    clear hK K hHeld hHeld3 hw
    have hHeld := hHeld2
    clear hHeld2
    (try simp only [Act.put, sA, sB, sC])
    refine tkQ 10 (.bool (goS x)) hHeld (h := ?_)
    (try simp only [Act.put, sA, sB, sC])
    refine wpAnyH_done (by kernel_rfl) ?_ _
    have HSd11 := Lib.hid hHeld.1
    have HBCd11 := Lib.hid (hHeld.2.1)
    have HBXd11 := Lib.hid (hHeld.2.2.1)
    have HBQd11 := Lib.hid HRQf.out
    clear HRQf
    have HBRd11 := Lib.hid HRR.out
    clear HRR
    have HBKd11 := Lib.hid (hHeld.2.2.2.2.2.1)
    have HBn8d11 := Lib.hid (hHeld.2.2.2.2.2.2)
    clear hHeld HRK HRD HS6 HBC6 HBX6 HBQ6 HBR6 HBK6 HBn86
    go_wp2_with fail
    go_meet
    case rel => exact Lib.hid ⟨rfl, HSd11.out, HBCd11.out, HBXd11.out, HBQd11.out, HBRd11.out, HBKd11.out, HBn8d11.out⟩
  case rest =>
    clear HS6 HBC6 HBX6 HBQ6 HBR6 HBK6 HBn86
    obtain ⟨rfl, g0, g1, g2, g3, g4, g5, g6⟩ := hcut.out
    clear hcut
    have HS56 := Lib.hid g0
    have HBC56 := Lib.hid g1
    have HBX56 := Lib.hid g2
    have HBQ56 := Lib.hid g3
    have HBR56 := Lib.hid g4
    have HBK56 := Lib.hid g5
    have HBn856 := Lib.hid g6
    clear g0 g1 g2 g3 g4 g5 g6
    (try go_wp2_with fail)
    exact bodyPost_ret (results_row3 rfl _ _ bQ bR 30 32 (carA (stepV c (goX c x) (goR x) (goO x) false)) #[.int .i64 (goF x), .int .i64 (goW x)] _ _ (.bool (goS x)) rfl rfl rfl HBQ56.out HBR56.out Try.underlying30 rfl (by kernel_rfl) Try.underlying32 rfl (by kernel_rfl)) rfl ⟨rfl, HS56.out⟩
set_option maxHeartbeats 4000000 in
theorem tick_st (c : CfgV) (x : CarV) (w : World) (hbr : x.br = false) (hmo : ¬ x.mo = 1) (hds : x.ds = 2) (ht0 : -1000000000 ≤ x.ti) (ht1 : x.ti ≤ 1000000000) (hbd : bdX x) : Calls Try.prog 46 #[.agg (cfgA c), .agg (carA x)] w fun e w' => e = .returned (.tuple #[.agg (carA (stepV c (stX c x) 0 false (stK c x))), .agg #[.int .i64 0, .int .i64 0], .bool false]) ∧ Since w w' := by
  have HBR := Lib.hid hbr
  clear hbr
  have HMO := Lib.hid hmo
  clear hmo
  have HDS := Lib.hid hds
  clear hds
  have HT0 := Lib.hid ht0
  clear ht0
  have HT1 := Lib.hid ht1
  clear ht1
  have HBD := Lib.hid hbd
  clear hbd
  go_enter Try.func46, Try.ntmps46
  go_upto_region 1 with fail
  obtain ⟨w1, hw1⟩ : ∃ w1, w1 = ((((w.alloc (.cells (cfgA c) 23)).alloc (.cells (carA x) 30)).alloc (.cells #[.int .i64 0, .int .i64 0, .int .i64 0, .int .i64 0, .int .i64 0, .int .i64 0, .int .i64 0, .bool false, .bool false, .int .i64 0, .int .i64 0, .bool false, .int .u64 0, .int .u64 0, .int .u64 0] 30)).alloc (.cells #[.int .i64 0, .int .i64 0] 32)) := ⟨_, rfl⟩
  rw [← hw1]
  have HBC1 := Lib.hid (show Blk w1 (w.heap.size) 23 (cfgA c) by rw [hw1]; exact Blk.alloc (Blk.alloc (Blk.alloc (Blk.at_ (by (try simp only [size_alloc])) _ _) _) _) _)
  have HBX1 := Lib.hid (show Blk w1 (w.heap.size + 1) 30 (carA x) by rw [hw1]; exact Blk.alloc (Blk.alloc (Blk.at_ (by (try simp only [size_alloc])) _ _) _) _)
  have HBQ1 := Lib.hid (show Blk w1 (w.heap.size + 1 + 1) 30 #[.int .i64 0, .int .i64 0, .int .i64 0, .int .i64 0, .int .i64 0, .int .i64 0, .int .i64 0, .bool false, .bool false, .int .i64 0, .int .i64 0, .bool false, .int .u64 0, .int .u64 0, .int .u64 0] by rw [hw1]; exact Blk.alloc (Blk.at_ (by (try simp only [size_alloc])) _ _) _)
  have HBR1 := Lib.hid (show Blk w1 (w.heap.size + 1 + 1 + 1) 32 #[.int .i64 0, .int .i64 0] by rw [hw1]; exact Blk.at_ (by (try simp only [size_alloc])) _ _)
  have HS1 := Lib.hid (show Since w w1 by rw [hw1]; exact Since.alloc (Since.alloc (Since.alloc (Since.alloc (Since.refl w) _) _) _) _)
  have hNE : w.heap.size ≤ w.heap.size ∧ w.heap.size < w.heap.size + 1 ∧ w.heap.size + 1 < w.heap.size + 1 + 1 ∧ w.heap.size + 1 + 1 < w.heap.size + 1 + 1 + 1 := by omega
  have HNE := Lib.hid hNE
  clear hNE hw1
  generalize w.heap.size + 1 + 1 + 1 = bR at *
  generalize w.heap.size + 1 + 1 = bQ at *
  generalize w.heap.size + 1 = bX at *
  have HNE3 := Lib.hid (show w.heap.size ≤ w.heap.size ∧ w.heap.size < bX ∧ bX < bQ ∧ bQ < bR from HNE.out)
  clear HNE
  refine wp_region_lit ?_
  refine wpList_q (by rfl) (.agg (carA x)) ?he ?_
  case he => exact exec_load_row 30 _ _ HBX1.out rfl rfl Try.underlying30 rfl (by kernel_rfl)
  (try simp only [Act.put, sA, sB, sC])
  refine wpList_q (by rfl) (.agg (ctlA x 0 false false)) ?he ?_
  case he => kernel_rfl
  (try simp only [Act.put, sA, sB, sC])
  refine wpList_wp (by rfl) (fun K hK => ?_)
  refine wp_new (fun b => .pointer (some ⟨b, 0, none⟩)) 97 #[.int .i64 0, .int .i64 0, .int .i64 0, .int .i64 0, .int .i64 0, .int .i64 0, .int .i64 0, .bool false, .bool false, .int .i64 0, .int .i64 0, .bool false, .int .u64 0, .int .u64 0, .int .u64 0, .int .i64 0, .bool false, .bool false] (by rintro b rfl; first | rfl | kernel_rfl) ?_
  intro bn7 w2 hge hB hb
  refine hK.out _ _ ?_
  clear hK K
  (try simp only [Act.put, sA, sB, sC])
  have HNn7C := Lib.hid (show bn7 ≠ w.heap.size by have := Blk.lt HBC1.out; omega)
  have HNn7X := Lib.hid (show bn7 ≠ bX by have := Blk.lt HBX1.out; omega)
  have HNn7Q := Lib.hid (show bn7 ≠ bQ by have := Blk.lt HBQ1.out; omega)
  have HNn7R := Lib.hid (show bn7 ≠ bR by have := Blk.lt HBR1.out; omega)
  have HGn7 := Lib.hid (show w.heap.size ≤ bn7 by have := Since.size HS1.out; omega)
  have HS2 := Lib.hid (Since.trans HS1.out hb)
  have HBC2 := Lib.hid (keep_blk hb HBC1.out)
  have HBX2 := Lib.hid (keep_blk hb HBX1.out)
  have HBQ2 := Lib.hid (keep_blk hb HBQ1.out)
  have HBR2 := Lib.hid (keep_blk hb HBR1.out)
  clear HS1 HBC1 HBX1 HBQ1 HBR1
  clear hb hge
  have HBn72 := Lib.hid hB
  clear hB
  refine wpList_wp (by rfl) (fun K hK => ?_)
  refine wp_st_row 97 _ _ rfl (ctlA x 0 false false) rfl rfl (HasRow.of HBn72.out rfl) rfl (by simp [cfgA, carA, ctlA, Value.oneCell']) (by kernel_rfl) ?_
  intro w3 hw
  refine hK.out _ _ ?_
  clear hK K
  (try simp only [Act.put, sA, sB, sC])
  have HS3 := Lib.hid (show Since w w3 by rw [hw]; exact Since.setRow HS2.out HGn7.out _)
  have HBC3 := Lib.hid (show Blk w3 w.heap.size 23 (cfgA c) by rw [hw]; exact Blk.row_far HBC2.out (Ne.symm HNn7C.out) _)
  have HBX3 := Lib.hid (show Blk w3 bX 30 (carA x) by rw [hw]; exact Blk.row_far HBX2.out (Ne.symm HNn7X.out) _)
  have HBQ3 := Lib.hid (show Blk w3 bQ 30 #[.int .i64 0, .int .i64 0, .int .i64 0, .int .i64 0, .int .i64 0, .int .i64 0, .int .i64 0, .bool false, .bool false, .int .i64 0, .int .i64 0, .bool false, .int .u64 0, .int .u64 0, .int .u64 0] by rw [hw]; exact Blk.row_far HBQ2.out (Ne.symm HNn7Q.out) _)
  have HBR3 := Lib.hid (show Blk w3 bR 32 #[.int .i64 0, .int .i64 0] by rw [hw]; exact Blk.row_far HBR2.out (Ne.symm HNn7R.out) _)
  have HBn73 := Lib.hid (show Blk w3 bn7 97 (ctlA x 0 false false) by rw [hw]; exact Blk.row HBn72.out _)
  clear hw HS2 HBC2 HBX2 HBQ2 HBR2 HBn72
  refine wpList_nil ?_
  go_upto_region 2 with fail
  refine wp_region_lit ?_
  refine wpList_wp (by rfl) (fun K hK => ?_)
  refine wp_new (fun b => .pointer (some ⟨b, 0, none⟩)) 32 #[.int .i64 0, .int .i64 0] (by rintro b rfl; first | rfl | kernel_rfl) ?_
  intro bn8 w4 hge hB hb
  refine hK.out _ _ ?_
  clear hK K
  (try simp only [Act.put, sA, sB, sC])
  have HNn8C := Lib.hid (show bn8 ≠ w.heap.size by have := Blk.lt HBC3.out; omega)
  have HNn8X := Lib.hid (show bn8 ≠ bX by have := Blk.lt HBX3.out; omega)
  have HNn8Q := Lib.hid (show bn8 ≠ bQ by have := Blk.lt HBQ3.out; omega)
  have HNn8R := Lib.hid (show bn8 ≠ bR by have := Blk.lt HBR3.out; omega)
  have HNn8n7 := Lib.hid (show bn8 ≠ bn7 by have := Blk.lt HBn73.out; omega)
  have HGn8 := Lib.hid (show w.heap.size ≤ bn8 by have := Since.size HS3.out; omega)
  have HS4 := Lib.hid (Since.trans HS3.out hb)
  have HBC4 := Lib.hid (keep_blk hb HBC3.out)
  have HBX4 := Lib.hid (keep_blk hb HBX3.out)
  have HBQ4 := Lib.hid (keep_blk hb HBQ3.out)
  have HBR4 := Lib.hid (keep_blk hb HBR3.out)
  have HBn74 := Lib.hid (keep_blk hb HBn73.out)
  clear HS3 HBC3 HBX3 HBQ3 HBR3 HBn73
  clear hb hge
  have HBn84 := Lib.hid hB
  clear hB
  refine wpList_nil ?_
  go_upto_region 3 with fail
  refine wp_region_lit ?_
  refine tkL (.bool false) (h := ?_)
  (try simp only [Act.put, sA, sB, sC])
  refine wpList_nil ?_
  have HGK := Lib.hid HGn7.out
  go_upto_region 4 with fail
  refine wp_region_lit ?_
  refine tkL (.pointer (some ⟨bn7, 0, none⟩)) (h := ?_)
  (try simp only [Act.put, sA, sB, sC])
  refine tkL (.pointer (some ⟨bn7, 8, none⟩)) (h := ?_)
  (try simp only [Act.put, sA, sB, sC])
  refine wpList_q (by rfl) (.bool false) ?he ?_
  case he => exact exec_cell 4 _ _ HBn74.out (by show some (Value.bool x.br) = _; rw [HBR.out]) rfl rfl Try.underlying4 rfl
  (try simp only [Act.put, sA, sB, sC])
  refine tkL (.bool false) (h := ?_)
  (try simp only [Act.put, sA, sB, sC])
  refine wpList_nil ?_
  go_upto_region 5 with fail
  refine wp_region_lit ?_
  refine tkL (.pointer (some ⟨bn7, 0, none⟩)) (h := ?_)
  (try simp only [Act.put, sA, sB, sC])
  refine tkL (.pointer (some ⟨bn7, 9, none⟩)) (h := ?_)
  (try simp only [Act.put, sA, sB, sC])
  refine wpList_q (by rfl) (.int .i64 x.mo) ?he ?_
  case he => exact exec_cell 3 _ _ HBn74.out rfl rfl rfl Try.underlying3 rfl
  (try simp only [Act.put, sA, sB, sC])
  refine wpList_q (by rfl) (.bool false) ?he ?_
  case he => (have q0 := HMO.out; go_simp; (first | done | rfl | omega))
  (try simp only [Act.put, sA, sB, sC])
  refine tkL (.bool false) (h := ?_)
  (try simp only [Act.put, sA, sB, sC])
  refine wpList_nil ?_
  go_upto_region 7 with fail
  refine wp_region_lit ?_
  refine tkL (.pointer (some ⟨bn7, 0, none⟩)) (h := ?_)
  (try simp only [Act.put, sA, sB, sC])
  refine tkL (.pointer (some ⟨bn7, 0, none⟩)) (h := ?_)
  (try simp only [Act.put, sA, sB, sC])
  refine tkL (.pointer (some ⟨bn7, 0, none⟩)) (h := ?_)
  (try simp only [Act.put, sA, sB, sC])
  refine wpList_q (by rfl) (.int .i64 x.ds) ?he ?_
  case he => exact exec_cell 3 _ _ HBn74.out rfl rfl rfl Try.underlying3 rfl
  (try simp only [Act.put, sA, sB, sC])
  refine wpList_q (by rfl) (.bool false) ?he ?_
  case he => (have q0 := HDS.out; go_simp; (first | done | rfl | omega))
  (try simp only [Act.put, sA, sB, sC])
  refine tkL (.bool false) (h := ?_)
  (try simp only [Act.put, sA, sB, sC])
  refine wpList_nil ?_
  go_upto_region 9 with fail
  refine wp_region_lit ?_
  refine tkL (.pointer (some ⟨bn7, 0, none⟩)) (h := ?_)
  (try simp only [Act.put, sA, sB, sC])
  refine tkL (.pointer (some ⟨bn7, 0, none⟩)) (h := ?_)
  (try simp only [Act.put, sA, sB, sC])
  refine tkL (.pointer (some ⟨bn7, 0, none⟩)) (h := ?_)
  (try simp only [Act.put, sA, sB, sC])
  refine wpList_q (by rfl) (.int .i64 x.ds) ?he ?_
  case he => exact exec_cell 3 _ _ HBn74.out rfl rfl rfl Try.underlying3 rfl
  (try simp only [Act.put, sA, sB, sC])
  refine wpList_q (by rfl) (.bool true) ?he ?_
  case he => (have q0 := HDS.out; go_simp; (first | done | rfl | omega))
  (try simp only [Act.put, sA, sB, sC])
  refine tkL (.bool true) (h := ?_)
  (try simp only [Act.put, sA, sB, sC])
  refine wpList_nil ?_
  go_upto_region 10 with fail
  refine wp_region_lit ?_
  refine wpList_q (by rfl) (.agg (cfgA c)) ?he ?_
  case he => exact exec_load_row 23 _ _ HBC4.out rfl rfl Try.underlying23 rfl (by kernel_rfl)
  (try simp only [Act.put, sA, sB, sC])
  refine wpList_wp (by rfl) (fun K hK => ?_)
  (try go_simp)
  refine (stayT _ c x _ HBn74.out HT0.out HT1.out).mono ?_
  rintro e w5 ⟨rfl, hB, hupd⟩
  (try go_wp2_with fail)
  refine hK.out _ _ ?_
  clear hK K
  (try simp only [Act.put, sA, sB, sC])
  have HBC5 := Lib.hid (hupd.blk HBC4.out (fun h => (Ne.symm HNn7C.out) (List.mem_singleton.1 h)))
  have HBX5 := Lib.hid (hupd.blk HBX4.out (fun h => (Ne.symm HNn7X.out) (List.mem_singleton.1 h)))
  have HBQ5 := Lib.hid (hupd.blk HBQ4.out (fun h => (Ne.symm HNn7Q.out) (List.mem_singleton.1 h)))
  have HBR5 := Lib.hid (hupd.blk HBR4.out (fun h => (Ne.symm HNn7R.out) (List.mem_singleton.1 h)))
  have HBn85 := Lib.hid (hupd.blk HBn84.out (fun h => HNn8n7.out (List.mem_singleton.1 h)))
  have HS5 := Lib.hid (Since.upd HS4.out hupd (fun g hg => by rw [List.mem_singleton.1 hg]; exact HGK.out))
  have HBK5 := Lib.hid (show Blk w5 bn7 97 (ctlA (stX c x) 0 false (stK c x)) from hB)
  clear hB hupd HS4 HBC4 HBX4 HBQ4 HBR4 HBn74 HBn84
  refine wpList_nil ?_
  go_upto_region 11 with fail
  go_cut [6] (fun s6 wx => Hid (s6 = .bool false ∧ Since w wx ∧ Blk wx w.heap.size 23 (cfgA c) ∧ Blk wx bX 30 (carA x) ∧ Blk wx bQ 30 (carA (stepV c (stX c x) 0 false (stK c x))) ∧ Blk wx bR 32 #[.int .i64 0, .int .i64 0] ∧ Blk wx bn7 97 (ctlA (stX c x) 0 false (stK c x)) ∧ Blk wx bn8 32 #[.int .i64 0, .int .i64 0]))
  case first =>
    have hrK : ∀ W W' : World, Since W W' → (Since w W ∧ Blk W w.heap.size 23 (cfgA c) ∧ Blk W bX 30 (carA x) ∧ HasRow W bQ 30 15 ∧ HasRow W bR 32 2 ∧ Blk W bn7 97 (ctlA (stX c x) 0 false (stK c x)) ∧ Blk W bn8 32 #[.int .i64 0, .int .i64 0]) → (Since w W' ∧ Blk W' w.heap.size 23 (cfgA c) ∧ Blk W' bX 30 (carA x) ∧ HasRow W' bQ 30 15 ∧ HasRow W' bR 32 2 ∧ Blk W' bn7 97 (ctlA (stX c x) 0 false (stK c x)) ∧ Blk W' bn8 32 #[.int .i64 0, .int .i64 0]) := fun W W' k ⟨h, h0, h1, h2, h3, h4, h5⟩ => ⟨h.trans k, keep_blk k h0, keep_blk k h1, HasRow.keep k h2, HasRow.keep k h3, keep_blk k h4, keep_blk k h5⟩
    have hrS : (fun W : World => Since w W ∧ Blk W w.heap.size 23 (cfgA c) ∧ Blk W bX 30 (carA x) ∧ HasRow W bQ 30 15 ∧ HasRow W bR 32 2 ∧ Blk W bn7 97 (ctlA (stX c x) 0 false (stK c x)) ∧ Blk W bn8 32 #[.int .i64 0, .int .i64 0]) w5 := ⟨HS5.out, HBC5.out, HBX5.out, HasRow.of HBQ5.out rfl, HasRow.of HBR5.out rfl, HBK5.out, HBn85.out⟩
    have HRK := Lib.hid hrK
    have HRD := Lib.hid (show (fun W : World => Since w W ∧ Blk W w.heap.size 23 (cfgA c) ∧ Blk W bX 30 (carA x) ∧ HasRow W bQ 30 15 ∧ HasRow W bR 32 2 ∧ Blk W bn7 97 (ctlA (stX c x) 0 false (stK c x)) ∧ Blk W bn8 32 #[.int .i64 0, .int .i64 0]) (World.drew w5) from hrK _ _ ((Since.refl w5).drew) hrS)
    clear hrK hrS
    refine wp_region_held_drew (S := fun W : World => Since w W ∧ Blk W w.heap.size 23 (cfgA c) ∧ Blk W bX 30 (carA x) ∧ HasRow W bQ 30 15 ∧ HasRow W bR 32 2 ∧ Blk W bn7 97 (ctlA (stX c x) 0 false (stK c x)) ∧ Blk W bn8 32 #[.int .i64 0, .int .i64 0]) (by kernel_rfl) HRD.out (fun hHeld => ?_)
    refine tkQ 0 (.agg (cfgA c)) hHeld (he := by intro w hSw; exact exec_load_row 23 _ _ hSw.2.1 rfl rfl Try.underlying23 rfl (by kernel_rfl)) (h := ?_)
    (try simp only [Act.put, sA, sB, sC])
    refine tkQ 1 (.pointer (some ⟨bn7, 0, none⟩)) hHeld (h := ?_)
    (try simp only [Act.put, sA, sB, sC])
    refine tkQ 2 (.agg (carA (stX c x))) hHeld (he := by intro w hSw; exact exec_part (n := 15) 30 _ _ hSw.2.2.2.2.2.1 rfl rfl rfl rfl Try.underlying30 rfl (by kernel_rfl)) (h := ?_)
    (try simp only [Act.put, sA, sB, sC])
    refine tkQ 3 (.pointer (some ⟨bn7, 15, none⟩)) hHeld (h := ?_)
    (try simp only [Act.put, sA, sB, sC])
    refine tkQ 4 (.agg #[.int .i64 0, .bool false, .bool (stK c x)]) hHeld (he := by intro w hSw; exact exec_part (n := 3) 95 _ _ hSw.2.2.2.2.2.1 rfl rfl rfl rfl Try.underlying95 rfl (by kernel_rfl)) (h := ?_)
    (try simp only [Act.put, sA, sB, sC])
    refine tkQ 6 (.agg #[.int .i64 0, .int .i64 0]) hHeld (he := by intro w hSw; exact exec_load_row 32 _ _ hSw.2.2.2.2.2.2 rfl rfl Try.underlying32 rfl (by kernel_rfl)) (h := ?_)
    (try simp only [Act.put, sA, sB, sC])
    refine tkQ 7 (.bool false) hHeld (h := ?_)
    (try simp only [Act.put, sA, sB, sC])
    refine wpAnyH_ready (rs := [5]) (by kernel_rfl) (by simp) ?_
    refine AllReadyH.cons (o := ?o11__5) ?h11__5 (fun K hK => ?_) AllReadyH.nil
    case h11__5 => (first | (simp only [gA, gB, gC]; done) | (simp only [gA, gB, gC]; exact rfl))
    (try go_simp)
    refine (stepC c (stX c x) 0 false (stK c x) _ (st_bd HBD.out)).mono ?_
    rintro e w6 ⟨rfl, hb⟩
    (try go_wp2_with fail)
    refine hK.out _ _ (by (apply HRK.out; exact hb; exact hHeld)) (fun hHeld2 => ?_)
    clear hK K hHeld hb
    have hHeld := hHeld2
    clear hHeld2
    (try simp only [Act.put, sA, sB, sC])
    refine wpAnyH_ready (rs := [8]) (by kernel_rfl) (by simp) ?_
    refine AllReadyH.cons (o := ?o11__8) ?h11__8 (fun K hK => ?_) AllReadyH.nil
    case h11__8 => (first | (simp only [gA, gB, gC]; done) | (simp only [gA, gB, gC]; exact rfl))
    rw [if_pos (by rfl)]
    refine wp_st_row 30 _ _ rfl #[.int .i64 ((stepV c (stX c x) 0 false (stK c x)).ds), .int .i64 ((stepV c (stX c x) 0 false (stK c x)).da), .int .i64 ((stepV c (stX c x) 0 false (stK c x)).un), .int .i64 ((stepV c (stX c x) 0 false (stK c x)).wy), .int .i64 ((stepV c (stX c x) 0 false (stK c x)).ti), .int .i64 ((stepV c (stX c x) 0 false (stK c x)).ju), .int .i64 ((stepV c (stX c x) 0 false (stK c x)).lo), .bool ((stepV c (stX c x) 0 false (stK c x)).bl), .bool ((stepV c (stX c x) 0 false (stK c x)).br), .int .i64 ((stepV c (stX c x) 0 false (stK c x)).mo), .int .i64 ((stepV c (stX c x) 0 false (stK c x)).ta), .bool ((stepV c (stX c x) 0 false (stK c x)).ho), .int .u64 ((stepV c (stX c x) 0 false (stK c x)).sp), .int .u64 ((stepV c (stX c x) 0 false (stK c x)).su), .int .u64 ((stepV c (stX c x) 0 false (stK c x)).sd)] rfl rfl (hHeld.2.2.2.1) rfl (by simp [cfgA, carA, ctlA, Value.oneCell']) (by kernel_rfl) ?_
    intro w7 hw
    have HRQ := Lib.hid (show Blk w7 bQ 30 (carA (stepV c (stX c x) 0 false (stK c x))) by obtain ⟨old, Bo, _⟩ := hHeld.2.2.2.1; rw [hw]; exact Blk.row Bo _)
    have hHeld3 : (fun W : World => Since w W ∧ Blk W w.heap.size 23 (cfgA c) ∧ Blk W bX 30 (carA x) ∧ HasRow W bQ 30 15 ∧ HasRow W bR 32 2 ∧ Blk W bn7 97 (ctlA (stX c x) 0 false (stK c x)) ∧ Blk W bn8 32 #[.int .i64 0, .int .i64 0]) w7 := ⟨by rw [hw]; exact Since.setRow hHeld.1 (by have := HNE3.out; omega) _, by rw [hw]; exact Blk.row_far (hHeld.2.1) (by have := HNE3.out; omega) _, by rw [hw]; exact Blk.row_far (hHeld.2.2.1) (by have := HNE3.out; omega) _, HasRow.of HRQ.out rfl, by rw [hw]; exact HasRow.row_far (hHeld.2.2.2.2.1) (by have := HNE3.out; omega) _, by rw [hw]; exact Blk.row_far (hHeld.2.2.2.2.2.1) HNn7Q.out _, by rw [hw]; exact Blk.row_far (hHeld.2.2.2.2.2.2) HNn8Q.out _⟩
    refine hK.out _ _ hHeld3 (fun hHeld2 => ?_)
    clear hK K hHeld hHeld3 hw
    have hHeld := hHeld2
    clear hHeld2
    (try simp only [Act.put, sA, sB, sC])
    refine wpAnyH_ready (rs := [9]) (by kernel_rfl) (by simp) ?_
    refine AllReadyH.cons (o := ?o11__9) ?h11__9 (fun K hK => ?_) AllReadyH.nil
    case h11__9 => (first | (simp only [gA, gB, gC]; done) | (simp only [gA, gB, gC]; exact rfl))
    rw [if_pos (by rfl)]
    refine wp_st_row 32 _ _ rfl #[.int .i64 0, .int .i64 0] rfl rfl (hHeld.2.2.2.2.1) rfl (by simp [cfgA, carA, ctlA, Value.oneCell']) (by kernel_rfl) ?_
    intro w8 hw
    have HRR := Lib.hid (show Blk w8 bR 32 #[.int .i64 0, .int .i64 0] by obtain ⟨old, Bo, _⟩ := hHeld.2.2.2.2.1; rw [hw]; exact Blk.row Bo _)
    have HRQf := Lib.hid (show Blk w8 bQ 30 (carA (stepV c (stX c x) 0 false (stK c x))) by rw [hw]; exact Blk.row_far HRQ.out (by have := HNE3.out; omega) _)
    clear HRQ
    have hHeld3 : (fun W : World => Since w W ∧ Blk W w.heap.size 23 (cfgA c) ∧ Blk W bX 30 (carA x) ∧ HasRow W bQ 30 15 ∧ HasRow W bR 32 2 ∧ Blk W bn7 97 (ctlA (stX c x) 0 false (stK c x)) ∧ Blk W bn8 32 #[.int .i64 0, .int .i64 0]) w8 := ⟨by rw [hw]; exact Since.setRow hHeld.1 (by have := HNE3.out; omega) _, by rw [hw]; exact Blk.row_far (hHeld.2.1) (by have := HNE3.out; omega) _, by rw [hw]; exact Blk.row_far (hHeld.2.2.1) (by have := HNE3.out; omega) _, by rw [hw]; exact HasRow.row_far (hHeld.2.2.2.1) (by have := HNE3.out; omega) _, HasRow.of HRR.out rfl, by rw [hw]; exact Blk.row_far (hHeld.2.2.2.2.2.1) HNn7R.out _, by rw [hw]; exact Blk.row_far (hHeld.2.2.2.2.2.2) HNn8R.out _⟩
    refine hK.out _ _ hHeld3 (fun hHeld2 => ?_)
    clear hK K hHeld hHeld3 hw
    have hHeld := hHeld2
    clear hHeld2
    (try simp only [Act.put, sA, sB, sC])
    refine tkQ 10 (.bool false) hHeld (h := ?_)
    (try simp only [Act.put, sA, sB, sC])
    refine wpAnyH_done (by kernel_rfl) ?_ _
    have HSd11 := Lib.hid hHeld.1
    have HBCd11 := Lib.hid (hHeld.2.1)
    have HBXd11 := Lib.hid (hHeld.2.2.1)
    have HBQd11 := Lib.hid HRQf.out
    clear HRQf
    have HBRd11 := Lib.hid HRR.out
    clear HRR
    have HBKd11 := Lib.hid (hHeld.2.2.2.2.2.1)
    have HBn8d11 := Lib.hid (hHeld.2.2.2.2.2.2)
    clear hHeld HRK HRD HS5 HBC5 HBX5 HBQ5 HBR5 HBK5 HBn85
    go_wp2_with fail
    go_meet
    case rel => exact Lib.hid ⟨rfl, HSd11.out, HBCd11.out, HBXd11.out, HBQd11.out, HBRd11.out, HBKd11.out, HBn8d11.out⟩
  case rest =>
    clear HS5 HBC5 HBX5 HBQ5 HBR5 HBK5 HBn85
    obtain ⟨rfl, g0, g1, g2, g3, g4, g5, g6⟩ := hcut.out
    clear hcut
    have HS55 := Lib.hid g0
    have HBC55 := Lib.hid g1
    have HBX55 := Lib.hid g2
    have HBQ55 := Lib.hid g3
    have HBR55 := Lib.hid g4
    have HBK55 := Lib.hid g5
    have HBn855 := Lib.hid g6
    clear g0 g1 g2 g3 g4 g5 g6
    (try go_wp2_with fail)
    exact bodyPost_ret (results_row3 rfl _ _ bQ bR 30 32 (carA (stepV c (stX c x) 0 false (stK c x))) #[.int .i64 0, .int .i64 0] _ _ (.bool false) rfl rfl rfl HBQ55.out HBR55.out Try.underlying30 rfl (by kernel_rfl) Try.underlying32 rfl (by kernel_rfl)) rfl ⟨rfl, HS55.out⟩
set_option maxHeartbeats 4000000 in
theorem tick_no (c : CfgV) (x : CarV) (w : World) (hbr : x.br = false) (hmo : ¬ x.mo = 1) (hds : ¬ x.ds = 0) (hd2 : ¬ x.ds = 2) (hbd : bdX x) : Calls Try.prog 46 #[.agg (cfgA c), .agg (carA x)] w fun e w' => e = .returned (.tuple #[.agg (carA (stepV c x 0 false false)), .agg #[.int .i64 0, .int .i64 0], .bool false]) ∧ Since w w' := by
  have HBR := Lib.hid hbr
  clear hbr
  have HMO := Lib.hid hmo
  clear hmo
  have HDS := Lib.hid hds
  clear hds
  have HD2 := Lib.hid hd2
  clear hd2
  have HBD := Lib.hid hbd
  clear hbd
  go_enter Try.func46, Try.ntmps46
  go_upto_region 1 with fail
  obtain ⟨w1, hw1⟩ : ∃ w1, w1 = ((((w.alloc (.cells (cfgA c) 23)).alloc (.cells (carA x) 30)).alloc (.cells #[.int .i64 0, .int .i64 0, .int .i64 0, .int .i64 0, .int .i64 0, .int .i64 0, .int .i64 0, .bool false, .bool false, .int .i64 0, .int .i64 0, .bool false, .int .u64 0, .int .u64 0, .int .u64 0] 30)).alloc (.cells #[.int .i64 0, .int .i64 0] 32)) := ⟨_, rfl⟩
  rw [← hw1]
  have HBC1 := Lib.hid (show Blk w1 (w.heap.size) 23 (cfgA c) by rw [hw1]; exact Blk.alloc (Blk.alloc (Blk.alloc (Blk.at_ (by (try simp only [size_alloc])) _ _) _) _) _)
  have HBX1 := Lib.hid (show Blk w1 (w.heap.size + 1) 30 (carA x) by rw [hw1]; exact Blk.alloc (Blk.alloc (Blk.at_ (by (try simp only [size_alloc])) _ _) _) _)
  have HBQ1 := Lib.hid (show Blk w1 (w.heap.size + 1 + 1) 30 #[.int .i64 0, .int .i64 0, .int .i64 0, .int .i64 0, .int .i64 0, .int .i64 0, .int .i64 0, .bool false, .bool false, .int .i64 0, .int .i64 0, .bool false, .int .u64 0, .int .u64 0, .int .u64 0] by rw [hw1]; exact Blk.alloc (Blk.at_ (by (try simp only [size_alloc])) _ _) _)
  have HBR1 := Lib.hid (show Blk w1 (w.heap.size + 1 + 1 + 1) 32 #[.int .i64 0, .int .i64 0] by rw [hw1]; exact Blk.at_ (by (try simp only [size_alloc])) _ _)
  have HS1 := Lib.hid (show Since w w1 by rw [hw1]; exact Since.alloc (Since.alloc (Since.alloc (Since.alloc (Since.refl w) _) _) _) _)
  have hNE : w.heap.size ≤ w.heap.size ∧ w.heap.size < w.heap.size + 1 ∧ w.heap.size + 1 < w.heap.size + 1 + 1 ∧ w.heap.size + 1 + 1 < w.heap.size + 1 + 1 + 1 := by omega
  have HNE := Lib.hid hNE
  clear hNE hw1
  generalize w.heap.size + 1 + 1 + 1 = bR at *
  generalize w.heap.size + 1 + 1 = bQ at *
  generalize w.heap.size + 1 = bX at *
  have HNE3 := Lib.hid (show w.heap.size ≤ w.heap.size ∧ w.heap.size < bX ∧ bX < bQ ∧ bQ < bR from HNE.out)
  clear HNE
  refine wp_region_lit ?_
  refine wpList_q (by rfl) (.agg (carA x)) ?he ?_
  case he => exact exec_load_row 30 _ _ HBX1.out rfl rfl Try.underlying30 rfl (by kernel_rfl)
  (try simp only [Act.put, sA, sB, sC])
  refine wpList_q (by rfl) (.agg (ctlA x 0 false false)) ?he ?_
  case he => kernel_rfl
  (try simp only [Act.put, sA, sB, sC])
  refine wpList_wp (by rfl) (fun K hK => ?_)
  refine wp_new (fun b => .pointer (some ⟨b, 0, none⟩)) 97 #[.int .i64 0, .int .i64 0, .int .i64 0, .int .i64 0, .int .i64 0, .int .i64 0, .int .i64 0, .bool false, .bool false, .int .i64 0, .int .i64 0, .bool false, .int .u64 0, .int .u64 0, .int .u64 0, .int .i64 0, .bool false, .bool false] (by rintro b rfl; first | rfl | kernel_rfl) ?_
  intro bn7 w2 hge hB hb
  refine hK.out _ _ ?_
  clear hK K
  (try simp only [Act.put, sA, sB, sC])
  have HNn7C := Lib.hid (show bn7 ≠ w.heap.size by have := Blk.lt HBC1.out; omega)
  have HNn7X := Lib.hid (show bn7 ≠ bX by have := Blk.lt HBX1.out; omega)
  have HNn7Q := Lib.hid (show bn7 ≠ bQ by have := Blk.lt HBQ1.out; omega)
  have HNn7R := Lib.hid (show bn7 ≠ bR by have := Blk.lt HBR1.out; omega)
  have HGn7 := Lib.hid (show w.heap.size ≤ bn7 by have := Since.size HS1.out; omega)
  have HS2 := Lib.hid (Since.trans HS1.out hb)
  have HBC2 := Lib.hid (keep_blk hb HBC1.out)
  have HBX2 := Lib.hid (keep_blk hb HBX1.out)
  have HBQ2 := Lib.hid (keep_blk hb HBQ1.out)
  have HBR2 := Lib.hid (keep_blk hb HBR1.out)
  clear HS1 HBC1 HBX1 HBQ1 HBR1
  clear hb hge
  have HBn72 := Lib.hid hB
  clear hB
  refine wpList_wp (by rfl) (fun K hK => ?_)
  refine wp_st_row 97 _ _ rfl (ctlA x 0 false false) rfl rfl (HasRow.of HBn72.out rfl) rfl (by simp [cfgA, carA, ctlA, Value.oneCell']) (by kernel_rfl) ?_
  intro w3 hw
  refine hK.out _ _ ?_
  clear hK K
  (try simp only [Act.put, sA, sB, sC])
  have HS3 := Lib.hid (show Since w w3 by rw [hw]; exact Since.setRow HS2.out HGn7.out _)
  have HBC3 := Lib.hid (show Blk w3 w.heap.size 23 (cfgA c) by rw [hw]; exact Blk.row_far HBC2.out (Ne.symm HNn7C.out) _)
  have HBX3 := Lib.hid (show Blk w3 bX 30 (carA x) by rw [hw]; exact Blk.row_far HBX2.out (Ne.symm HNn7X.out) _)
  have HBQ3 := Lib.hid (show Blk w3 bQ 30 #[.int .i64 0, .int .i64 0, .int .i64 0, .int .i64 0, .int .i64 0, .int .i64 0, .int .i64 0, .bool false, .bool false, .int .i64 0, .int .i64 0, .bool false, .int .u64 0, .int .u64 0, .int .u64 0] by rw [hw]; exact Blk.row_far HBQ2.out (Ne.symm HNn7Q.out) _)
  have HBR3 := Lib.hid (show Blk w3 bR 32 #[.int .i64 0, .int .i64 0] by rw [hw]; exact Blk.row_far HBR2.out (Ne.symm HNn7R.out) _)
  have HBn73 := Lib.hid (show Blk w3 bn7 97 (ctlA x 0 false false) by rw [hw]; exact Blk.row HBn72.out _)
  clear hw HS2 HBC2 HBX2 HBQ2 HBR2 HBn72
  refine wpList_nil ?_
  go_upto_region 2 with fail
  refine wp_region_lit ?_
  refine wpList_wp (by rfl) (fun K hK => ?_)
  refine wp_new (fun b => .pointer (some ⟨b, 0, none⟩)) 32 #[.int .i64 0, .int .i64 0] (by rintro b rfl; first | rfl | kernel_rfl) ?_
  intro bn8 w4 hge hB hb
  refine hK.out _ _ ?_
  clear hK K
  (try simp only [Act.put, sA, sB, sC])
  have HNn8C := Lib.hid (show bn8 ≠ w.heap.size by have := Blk.lt HBC3.out; omega)
  have HNn8X := Lib.hid (show bn8 ≠ bX by have := Blk.lt HBX3.out; omega)
  have HNn8Q := Lib.hid (show bn8 ≠ bQ by have := Blk.lt HBQ3.out; omega)
  have HNn8R := Lib.hid (show bn8 ≠ bR by have := Blk.lt HBR3.out; omega)
  have HNn8n7 := Lib.hid (show bn8 ≠ bn7 by have := Blk.lt HBn73.out; omega)
  have HGn8 := Lib.hid (show w.heap.size ≤ bn8 by have := Since.size HS3.out; omega)
  have HS4 := Lib.hid (Since.trans HS3.out hb)
  have HBC4 := Lib.hid (keep_blk hb HBC3.out)
  have HBX4 := Lib.hid (keep_blk hb HBX3.out)
  have HBQ4 := Lib.hid (keep_blk hb HBQ3.out)
  have HBR4 := Lib.hid (keep_blk hb HBR3.out)
  have HBn74 := Lib.hid (keep_blk hb HBn73.out)
  clear HS3 HBC3 HBX3 HBQ3 HBR3 HBn73
  clear hb hge
  have HBn84 := Lib.hid hB
  clear hB
  refine wpList_nil ?_
  go_upto_region 3 with fail
  refine wp_region_lit ?_
  refine tkL (.bool false) (h := ?_)
  (try simp only [Act.put, sA, sB, sC])
  refine wpList_nil ?_
  have HGK := Lib.hid HGn7.out
  go_upto_region 4 with fail
  refine wp_region_lit ?_
  refine tkL (.pointer (some ⟨bn7, 0, none⟩)) (h := ?_)
  (try simp only [Act.put, sA, sB, sC])
  refine tkL (.pointer (some ⟨bn7, 8, none⟩)) (h := ?_)
  (try simp only [Act.put, sA, sB, sC])
  refine wpList_q (by rfl) (.bool false) ?he ?_
  case he => exact exec_cell 4 _ _ HBn74.out (by show some (Value.bool x.br) = _; rw [HBR.out]) rfl rfl Try.underlying4 rfl
  (try simp only [Act.put, sA, sB, sC])
  refine tkL (.bool false) (h := ?_)
  (try simp only [Act.put, sA, sB, sC])
  refine wpList_nil ?_
  go_upto_region 5 with fail
  refine wp_region_lit ?_
  refine tkL (.pointer (some ⟨bn7, 0, none⟩)) (h := ?_)
  (try simp only [Act.put, sA, sB, sC])
  refine tkL (.pointer (some ⟨bn7, 9, none⟩)) (h := ?_)
  (try simp only [Act.put, sA, sB, sC])
  refine wpList_q (by rfl) (.int .i64 x.mo) ?he ?_
  case he => exact exec_cell 3 _ _ HBn74.out rfl rfl rfl Try.underlying3 rfl
  (try simp only [Act.put, sA, sB, sC])
  refine wpList_q (by rfl) (.bool false) ?he ?_
  case he => (have q0 := HMO.out; go_simp; (first | done | rfl | omega))
  (try simp only [Act.put, sA, sB, sC])
  refine tkL (.bool false) (h := ?_)
  (try simp only [Act.put, sA, sB, sC])
  refine wpList_nil ?_
  go_upto_region 7 with fail
  refine wp_region_lit ?_
  refine tkL (.pointer (some ⟨bn7, 0, none⟩)) (h := ?_)
  (try simp only [Act.put, sA, sB, sC])
  refine tkL (.pointer (some ⟨bn7, 0, none⟩)) (h := ?_)
  (try simp only [Act.put, sA, sB, sC])
  refine tkL (.pointer (some ⟨bn7, 0, none⟩)) (h := ?_)
  (try simp only [Act.put, sA, sB, sC])
  refine wpList_q (by rfl) (.int .i64 x.ds) ?he ?_
  case he => exact exec_cell 3 _ _ HBn74.out rfl rfl rfl Try.underlying3 rfl
  (try simp only [Act.put, sA, sB, sC])
  refine wpList_q (by rfl) (.bool false) ?he ?_
  case he => (have q0 := HDS.out; go_simp; (first | done | rfl | omega))
  (try simp only [Act.put, sA, sB, sC])
  refine tkL (.bool false) (h := ?_)
  (try simp only [Act.put, sA, sB, sC])
  refine wpList_nil ?_
  go_upto_region 9 with fail
  refine wp_region_lit ?_
  refine tkL (.pointer (some ⟨bn7, 0, none⟩)) (h := ?_)
  (try simp only [Act.put, sA, sB, sC])
  refine tkL (.pointer (some ⟨bn7, 0, none⟩)) (h := ?_)
  (try simp only [Act.put, sA, sB, sC])
  refine tkL (.pointer (some ⟨bn7, 0, none⟩)) (h := ?_)
  (try simp only [Act.put, sA, sB, sC])
  refine wpList_q (by rfl) (.int .i64 x.ds) ?he ?_
  case he => exact exec_cell 3 _ _ HBn74.out rfl rfl rfl Try.underlying3 rfl
  (try simp only [Act.put, sA, sB, sC])
  refine wpList_q (by rfl) (.bool false) ?he ?_
  case he => (have q0 := HDS.out; have q1 := HD2.out; go_simp; (first | done | rfl | omega))
  (try simp only [Act.put, sA, sB, sC])
  refine tkL (.bool false) (h := ?_)
  (try simp only [Act.put, sA, sB, sC])
  refine wpList_nil ?_
  go_upto_region 11 with fail
  go_cut [6] (fun s6 wx => Hid (s6 = .bool false ∧ Since w wx ∧ Blk wx w.heap.size 23 (cfgA c) ∧ Blk wx bX 30 (carA x) ∧ Blk wx bQ 30 (carA (stepV c x 0 false false)) ∧ Blk wx bR 32 #[.int .i64 0, .int .i64 0] ∧ Blk wx bn7 97 (ctlA x 0 false false) ∧ Blk wx bn8 32 #[.int .i64 0, .int .i64 0]))
  case first =>
    have hrK : ∀ W W' : World, Since W W' → (Since w W ∧ Blk W w.heap.size 23 (cfgA c) ∧ Blk W bX 30 (carA x) ∧ HasRow W bQ 30 15 ∧ HasRow W bR 32 2 ∧ Blk W bn7 97 (ctlA x 0 false false) ∧ Blk W bn8 32 #[.int .i64 0, .int .i64 0]) → (Since w W' ∧ Blk W' w.heap.size 23 (cfgA c) ∧ Blk W' bX 30 (carA x) ∧ HasRow W' bQ 30 15 ∧ HasRow W' bR 32 2 ∧ Blk W' bn7 97 (ctlA x 0 false false) ∧ Blk W' bn8 32 #[.int .i64 0, .int .i64 0]) := fun W W' k ⟨h, h0, h1, h2, h3, h4, h5⟩ => ⟨h.trans k, keep_blk k h0, keep_blk k h1, HasRow.keep k h2, HasRow.keep k h3, keep_blk k h4, keep_blk k h5⟩
    have hrS : (fun W : World => Since w W ∧ Blk W w.heap.size 23 (cfgA c) ∧ Blk W bX 30 (carA x) ∧ HasRow W bQ 30 15 ∧ HasRow W bR 32 2 ∧ Blk W bn7 97 (ctlA x 0 false false) ∧ Blk W bn8 32 #[.int .i64 0, .int .i64 0]) w4 := ⟨HS4.out, HBC4.out, HBX4.out, HasRow.of HBQ4.out rfl, HasRow.of HBR4.out rfl, HBn74.out, HBn84.out⟩
    have HRK := Lib.hid hrK
    have HRD := Lib.hid (show (fun W : World => Since w W ∧ Blk W w.heap.size 23 (cfgA c) ∧ Blk W bX 30 (carA x) ∧ HasRow W bQ 30 15 ∧ HasRow W bR 32 2 ∧ Blk W bn7 97 (ctlA x 0 false false) ∧ Blk W bn8 32 #[.int .i64 0, .int .i64 0]) (World.drew w4) from hrK _ _ ((Since.refl w4).drew) hrS)
    clear hrK hrS
    refine wp_region_held_drew (S := fun W : World => Since w W ∧ Blk W w.heap.size 23 (cfgA c) ∧ Blk W bX 30 (carA x) ∧ HasRow W bQ 30 15 ∧ HasRow W bR 32 2 ∧ Blk W bn7 97 (ctlA x 0 false false) ∧ Blk W bn8 32 #[.int .i64 0, .int .i64 0]) (by kernel_rfl) HRD.out (fun hHeld => ?_)
    refine tkQ 0 (.agg (cfgA c)) hHeld (he := by intro w hSw; exact exec_load_row 23 _ _ hSw.2.1 rfl rfl Try.underlying23 rfl (by kernel_rfl)) (h := ?_)
    (try simp only [Act.put, sA, sB, sC])
    refine tkQ 1 (.pointer (some ⟨bn7, 0, none⟩)) hHeld (h := ?_)
    (try simp only [Act.put, sA, sB, sC])
    refine tkQ 2 (.agg (carA x)) hHeld (he := by intro w hSw; exact exec_part (n := 15) 30 _ _ hSw.2.2.2.2.2.1 rfl rfl rfl rfl Try.underlying30 rfl (by kernel_rfl)) (h := ?_)
    (try simp only [Act.put, sA, sB, sC])
    refine tkQ 3 (.pointer (some ⟨bn7, 15, none⟩)) hHeld (h := ?_)
    (try simp only [Act.put, sA, sB, sC])
    refine tkQ 4 (.agg #[.int .i64 0, .bool false, .bool false]) hHeld (he := by intro w hSw; exact exec_part (n := 3) 95 _ _ hSw.2.2.2.2.2.1 rfl rfl rfl rfl Try.underlying95 rfl (by kernel_rfl)) (h := ?_)
    (try simp only [Act.put, sA, sB, sC])
    refine tkQ 6 (.agg #[.int .i64 0, .int .i64 0]) hHeld (he := by intro w hSw; exact exec_load_row 32 _ _ hSw.2.2.2.2.2.2 rfl rfl Try.underlying32 rfl (by kernel_rfl)) (h := ?_)
    (try simp only [Act.put, sA, sB, sC])
    refine tkQ 7 (.bool false) hHeld (h := ?_)
    (try simp only [Act.put, sA, sB, sC])
    refine wpAnyH_ready (rs := [5]) (by kernel_rfl) (by simp) ?_
    refine AllReadyH.cons (o := ?o11__5) ?h11__5 (fun K hK => ?_) AllReadyH.nil
    case h11__5 => (first | (simp only [gA, gB, gC]; done) | (simp only [gA, gB, gC]; exact rfl))
    (try go_simp)
    refine (stepC c x 0 false false _ HBD.out).mono ?_
    rintro e w5 ⟨rfl, hb⟩
    (try go_wp2_with fail)
    refine hK.out _ _ (by (apply HRK.out; exact hb; exact hHeld)) (fun hHeld2 => ?_)
    clear hK K hHeld hb
    have hHeld := hHeld2
    clear hHeld2
    (try simp only [Act.put, sA, sB, sC])
    refine wpAnyH_ready (rs := [8]) (by kernel_rfl) (by simp) ?_
    refine AllReadyH.cons (o := ?o11__8) ?h11__8 (fun K hK => ?_) AllReadyH.nil
    case h11__8 => (first | (simp only [gA, gB, gC]; done) | (simp only [gA, gB, gC]; exact rfl))
    rw [if_pos (by rfl)]
    refine wp_st_row 30 _ _ rfl #[.int .i64 ((stepV c x 0 false false).ds), .int .i64 ((stepV c x 0 false false).da), .int .i64 ((stepV c x 0 false false).un), .int .i64 ((stepV c x 0 false false).wy), .int .i64 ((stepV c x 0 false false).ti), .int .i64 ((stepV c x 0 false false).ju), .int .i64 ((stepV c x 0 false false).lo), .bool ((stepV c x 0 false false).bl), .bool ((stepV c x 0 false false).br), .int .i64 ((stepV c x 0 false false).mo), .int .i64 ((stepV c x 0 false false).ta), .bool ((stepV c x 0 false false).ho), .int .u64 ((stepV c x 0 false false).sp), .int .u64 ((stepV c x 0 false false).su), .int .u64 ((stepV c x 0 false false).sd)] rfl rfl (hHeld.2.2.2.1) rfl (by simp [cfgA, carA, ctlA, Value.oneCell']) (by kernel_rfl) ?_
    intro w6 hw
    have HRQ := Lib.hid (show Blk w6 bQ 30 (carA (stepV c x 0 false false)) by obtain ⟨old, Bo, _⟩ := hHeld.2.2.2.1; rw [hw]; exact Blk.row Bo _)
    have hHeld3 : (fun W : World => Since w W ∧ Blk W w.heap.size 23 (cfgA c) ∧ Blk W bX 30 (carA x) ∧ HasRow W bQ 30 15 ∧ HasRow W bR 32 2 ∧ Blk W bn7 97 (ctlA x 0 false false) ∧ Blk W bn8 32 #[.int .i64 0, .int .i64 0]) w6 := ⟨by rw [hw]; exact Since.setRow hHeld.1 (by have := HNE3.out; omega) _, by rw [hw]; exact Blk.row_far (hHeld.2.1) (by have := HNE3.out; omega) _, by rw [hw]; exact Blk.row_far (hHeld.2.2.1) (by have := HNE3.out; omega) _, HasRow.of HRQ.out rfl, by rw [hw]; exact HasRow.row_far (hHeld.2.2.2.2.1) (by have := HNE3.out; omega) _, by rw [hw]; exact Blk.row_far (hHeld.2.2.2.2.2.1) HNn7Q.out _, by rw [hw]; exact Blk.row_far (hHeld.2.2.2.2.2.2) HNn8Q.out _⟩
    refine hK.out _ _ hHeld3 (fun hHeld2 => ?_)
    clear hK K hHeld hHeld3 hw
    have hHeld := hHeld2
    clear hHeld2
    (try simp only [Act.put, sA, sB, sC])
    refine wpAnyH_ready (rs := [9]) (by kernel_rfl) (by simp) ?_
    refine AllReadyH.cons (o := ?o11__9) ?h11__9 (fun K hK => ?_) AllReadyH.nil
    case h11__9 => (first | (simp only [gA, gB, gC]; done) | (simp only [gA, gB, gC]; exact rfl))
    rw [if_pos (by rfl)]
    refine wp_st_row 32 _ _ rfl #[.int .i64 0, .int .i64 0] rfl rfl (hHeld.2.2.2.2.1) rfl (by simp [cfgA, carA, ctlA, Value.oneCell']) (by kernel_rfl) ?_
    intro w7 hw
    have HRR := Lib.hid (show Blk w7 bR 32 #[.int .i64 0, .int .i64 0] by obtain ⟨old, Bo, _⟩ := hHeld.2.2.2.2.1; rw [hw]; exact Blk.row Bo _)
    have HRQf := Lib.hid (show Blk w7 bQ 30 (carA (stepV c x 0 false false)) by rw [hw]; exact Blk.row_far HRQ.out (by have := HNE3.out; omega) _)
    clear HRQ
    have hHeld3 : (fun W : World => Since w W ∧ Blk W w.heap.size 23 (cfgA c) ∧ Blk W bX 30 (carA x) ∧ HasRow W bQ 30 15 ∧ HasRow W bR 32 2 ∧ Blk W bn7 97 (ctlA x 0 false false) ∧ Blk W bn8 32 #[.int .i64 0, .int .i64 0]) w7 := ⟨by rw [hw]; exact Since.setRow hHeld.1 (by have := HNE3.out; omega) _, by rw [hw]; exact Blk.row_far (hHeld.2.1) (by have := HNE3.out; omega) _, by rw [hw]; exact Blk.row_far (hHeld.2.2.1) (by have := HNE3.out; omega) _, by rw [hw]; exact HasRow.row_far (hHeld.2.2.2.1) (by have := HNE3.out; omega) _, HasRow.of HRR.out rfl, by rw [hw]; exact Blk.row_far (hHeld.2.2.2.2.2.1) HNn7R.out _, by rw [hw]; exact Blk.row_far (hHeld.2.2.2.2.2.2) HNn8R.out _⟩
    refine hK.out _ _ hHeld3 (fun hHeld2 => ?_)
    clear hK K hHeld hHeld3 hw
    have hHeld := hHeld2
    clear hHeld2
    (try simp only [Act.put, sA, sB, sC])
    refine tkQ 10 (.bool false) hHeld (h := ?_)
    (try simp only [Act.put, sA, sB, sC])
    refine wpAnyH_done (by kernel_rfl) ?_ _
    have HSd11 := Lib.hid hHeld.1
    have HBCd11 := Lib.hid (hHeld.2.1)
    have HBXd11 := Lib.hid (hHeld.2.2.1)
    have HBQd11 := Lib.hid HRQf.out
    clear HRQf
    have HBRd11 := Lib.hid HRR.out
    clear HRR
    have HBKd11 := Lib.hid (hHeld.2.2.2.2.2.1)
    have HBn8d11 := Lib.hid (hHeld.2.2.2.2.2.2)
    clear hHeld HRK HRD HS4 HBC4 HBX4 HBQ4 HBR4 HBn74 HBn84
    go_wp2_with fail
    go_meet
    case rel => exact Lib.hid ⟨rfl, HSd11.out, HBCd11.out, HBXd11.out, HBQd11.out, HBRd11.out, HBKd11.out, HBn8d11.out⟩
  case rest =>
    clear HS4 HBC4 HBX4 HBQ4 HBR4 HBn74 HBn84
    obtain ⟨rfl, g0, g1, g2, g3, g4, g5, g6⟩ := hcut.out
    clear hcut
    have HS54 := Lib.hid g0
    have HBC54 := Lib.hid g1
    have HBX54 := Lib.hid g2
    have HBQ54 := Lib.hid g3
    have HBR54 := Lib.hid g4
    have HBK54 := Lib.hid g5
    have HBn854 := Lib.hid g6
    clear g0 g1 g2 g3 g4 g5 g6
    (try go_wp2_with fail)
    exact bodyPost_ret (results_row3 rfl _ _ bQ bR 30 32 (carA (stepV c x 0 false false)) #[.int .i64 0, .int .i64 0] _ _ (.bool false) rfl rfl rfl HBQ54.out HBR54.out Try.underlying30 rfl (by kernel_rfl) Try.underlying32 rfl (by kernel_rfl)) rfl ⟨rfl, HS54.out⟩
/-- A car ahead of its step, what it is told, and what is served. -/
def tkX (c : CfgV) (x : CarV) : CarV := if x.br = true then x else if x.mo = 1 then ldX x else if x.ds = 0 then goX c x else if x.ds = 2 then stX c x else x
def tkR (x : CarV) : Int := if x.br = true then 0 else if x.mo = 1 then ldR x else if x.ds = 0 then goR x else 0
def tkO (x : CarV) : Bool := if x.br = true then false else if x.mo = 1 then ldO x else if x.ds = 0 then goO x else false
def tkK (c : CfgV) (x : CarV) : Bool := if x.br = true then false else if x.mo = 1 then ldK x else if x.ds = 0 then false else if x.ds = 2 then stK c x else false
def tkS (x : CarV) : Bool := if x.br = true then false else if x.mo = 1 then false else if x.ds = 0 then goS x else false
def tkF (x : CarV) : Int := if x.br = true then 0 else if x.mo = 1 then 0 else if x.ds = 0 then goF x else 0
def tkW (x : CarV) : Int := if x.br = true then 0 else if x.mo = 1 then 0 else if x.ds = 0 then goW x else 0
def tkV (c : CfgV) (x : CarV) : CarV := stepV c (tkX c x) (tkR x) (tkO x) (tkK c x)
theorem tickT (c : CfgV) (x : CarV) (w : World) (hbd : bdX x) (hp : R x.sp) (hu : R x.su) (hd : R x.sd) (hta : x.mo = 1 → -1099511627776 ≤ x.ta ∧ x.ta ≤ 1099511627776) (ht0 : -1000000000 ≤ x.ti) (ht1 : x.ti ≤ 1000000000) :
    Calls Try.prog 46 #[.agg (cfgA c), .agg (carA x)] w fun e w' => e = .returned (.tuple #[.agg (carA (tkV c x)), .agg #[.int .i64 (tkF x), .int .i64 (tkW x)], .bool (tkS x)]) ∧ Since w w' := by
  unfold tkV tkX tkR tkO tkK tkS tkF tkW
  cases hbr : x.br with
  | true => exact tick_br c x w hbr hbd
  | false =>
    by_cases hmo : x.mo = 1
    · have hta' := hta hmo
      simp only [hmo, if_true, Bool.false_eq_true, if_false]
      exact tick_ld c x w hbr hmo hta'.1 hta'.2 hbd
    · simp only [hmo, Bool.false_eq_true, if_false]
      by_cases hds : x.ds = 0
      · simp only [hds, if_true]
        exact tick_go c x w hbr hmo hds hp hu hd hbd
      · simp only [hds, if_false]
        by_cases hd2 : x.ds = 2
        · simp only [hd2, if_true]
          exact tick_st c x w hbr hmo hd2 ht0 ht1 hbd
        · simp only [hd2, if_false]
          exact tick_no c x w hbr hmo hds hd2 hbd
end Go.Proofs.Ytpacieocmogjeaa.Ct
