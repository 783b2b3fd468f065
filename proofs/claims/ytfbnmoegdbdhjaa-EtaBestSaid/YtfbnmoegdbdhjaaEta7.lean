/-
  EtaBest, walked: the law (layer 15).
  Conditions: each argument fits its kind.
-/
import Derived.Test.YtfbnmoegdbdhjaaEta6
namespace Go.Proofs.Ytfbnmoegdbdhjaa.Et
set_option linter.unusedVariables false
set_option linter.unusedSimpArgs false
open Go.RowKit Go.Proofs.Ytfbnmoegdbdhjaa.Ba Go.Proofs.Ytfbnmoegdbdhjaa.Mo Go.Proofs.Ytfbnmoegdbdhjaa.Ty Go.Proofs.Ytfbnmoegdbdhjaa.Mem Go.Proofs.Ytfbnmoegdbdhjaa.St
open Go.Proofs.Ytfbnmoegdbdhjaa.Do (hd hd_lo hd_hi spanR)
open Go.Proofs.Ytfbnmoegdbdhjaa.Cs (CV carC fitC)
set_option maxRecDepth 100000
def Own7 (c : CfgV) (f cw : Int) (cs : Nat → CarV) (w wr : World) (k : Nat) (B : Int) : Prop := B = (bl c f cw cs k).1 ∧ (∀ i, i < k → inH (cs i) f cw) ∧ Since w wr ∧ Blk wr w.heap.size 23 #[.int .i64 c.ca, .int .i64 c.fl, .int .i64 c.ft, .int .i64 c.se, .int .i64 c.dr, .int .i64 c.dw, .int .i64 c.ho, .int .i64 c.re, .int .i64 c.yi, .int .i64 c.qu, .int .i64 c.qo, .int .i64 c.lo, .int .i64 c.sl, .int .i64 c.rt, .int .i64 c.cp, .int .i64 c.tr, .int .i64 c.de, .int .i64 c.wi] ∧ Blk wr (w.heap.size + 1) 50 #[.int .i64 f, .int .i64 cw]
set_option maxHeartbeats 8000000 in
theorem best (c : CfgV) (f cw : Int) (a : Option Addr) (len cap : Nat) (cs : Nat → CarV) (w : World) (h : CV w a len cs) (hl : len ≤ 9223372036854775807) (hfit : ∀ i, i < len → fitC (cs i)) : Calls Try.prog 15 #[.agg #[.int .i64 c.ca, .int .i64 c.fl, .int .i64 c.ft, .int .i64 c.se, .int .i64 c.dr, .int .i64 c.dw, .int .i64 c.ho, .int .i64 c.re, .int .i64 c.yi, .int .i64 c.qu, .int .i64 c.qo, .int .i64 c.lo, .int .i64 c.sl, .int .i64 c.rt, .int .i64 c.cp, .int .i64 c.tr, .int .i64 c.de, .int .i64 c.wi], .slice a len cap, .agg #[.int .i64 f, .int .i64 cw]] w fun e w' => e = .returned (.bool true) ∧ Since w w' := by
  have hlI : (len : Int) ≤ 9223372036854775807 := by omega
  have HL := Lib.hid h; have HF := Lib.hid hfit
  clear h hfit
  go_enter Try.func15, Try.ntmps15
  by_cases hbig : 100 < len
  · have hb' : (100 : Int) < (len : Int) := by omega
    go_wp2_with fail
    refine (ans _).mono ?_
    rintro e w2 ⟨rfl, hb2⟩
    go_wp2
    go_ret
    exact ⟨rfl, (by repeat (first | exact Since.refl _ | assumption | refine Since.setCell ?_ (by first | (simp; done) | (simp; omega)) _ | refine Since.drew ?_ | refine Since.drewN ?_ _ | refine Since.alloc ?_ _ | refine Since.trans ?_ (by assumption) | refine Since.trans ?_ (Hid.out (by assumption))))⟩
  · have hb' : (len : Int) ≤ 100 := by omega
    go_wp2_with fail
    go_loopw [7, 8] (fun be i wr => ∃ k : Nat, k ≤ len ∧ i = .int .i64 k ∧ ∃ B : Int, be = .int .i64 B ∧ Hid (Own7 c f cw cs w wr k B)) (fun _ i _ => ((len : Int) - intOf i).toNat)
    case atStart => exact ⟨0, by omega, rfl, -1, rfl, Lib.hid ⟨rfl, fun i hi => by omega, (by repeat (first | exact Since.refl _ | assumption | refine Since.setCell ?_ (by first | (simp; done) | (simp; omega)) _ | refine Since.drew ?_ | refine Since.drewN ?_ _ | refine Since.alloc ?_ _ | refine Since.trans ?_ (by assumption) | refine Since.trans ?_ (Hid.out (by assumption)))), (Blk.new w _ _).alloc _, by have h := Blk.new (w.alloc (.cells #[.int .i64 c.ca, .int .i64 c.fl, .int .i64 c.ft, .int .i64 c.se, .int .i64 c.dr, .int .i64 c.dw, .int .i64 c.ho, .int .i64 c.re, .int .i64 c.yi, .int .i64 c.qu, .int .i64 c.qo, .int .i64 c.lo, .int .i64 c.sl, .int .i64 c.rt, .int .i64 c.cp, .int .i64 c.tr, .int .i64 c.de, .int .i64 c.wi] 23)) 50 #[.int .i64 f, .int .i64 cw]; simpa using h⟩⟩
    case round =>
      obtain ⟨k, hk, rfl, B, rfl, HO⟩ := hrel
      by_cases hlt : k < len
      · have hk0 : (k : Int) < (len : Int) := by omega
        have hk1 : (0 : Int) ≤ (k : Int) := by omega
        have HJ := Lib.hid hlt
        obtain ⟨b, off, rfl, hb, hc⟩ := (HL.out.keep HO.out.2.2.1).at_ hlt
        have l0 : wr.cell? ⟨b, off + k * 15, none⟩ = some (.int .i64 (cs k).ds) := hc k hlt 0 _ rfl
        have l1 : wr.cell? ⟨b, off + k * 15 + 1, none⟩ = some (.int .i64 (cs k).da) := hc k hlt 1 _ rfl
        have l2 : wr.cell? ⟨b, off + k * 15 + 2, none⟩ = some (.int .i64 (cs k).un) := hc k hlt 2 _ rfl
        have l3 : wr.cell? ⟨b, off + k * 15 + 3, none⟩ = some (.int .i64 (cs k).wy) := hc k hlt 3 _ rfl
        have l4 : wr.cell? ⟨b, off + k * 15 + 4, none⟩ = some (.int .i64 (cs k).ti) := hc k hlt 4 _ rfl
        have l5 : wr.cell? ⟨b, off + k * 15 + 5, none⟩ = some (.int .i64 (cs k).ju) := hc k hlt 5 _ rfl
        have l6 : wr.cell? ⟨b, off + k * 15 + 6, none⟩ = some (.int .i64 (cs k).lo) := hc k hlt 6 _ rfl
        have l7 : wr.cell? ⟨b, off + k * 15 + 7, none⟩ = some (.bool (cs k).bl) := hc k hlt 7 _ rfl
        have l8 : wr.cell? ⟨b, off + k * 15 + 8, none⟩ = some (.bool (cs k).br) := hc k hlt 8 _ rfl
        have l9 : wr.cell? ⟨b, off + k * 15 + 9, none⟩ = some (.int .i64 (cs k).mo) := hc k hlt 9 _ rfl
        have l10 : wr.cell? ⟨b, off + k * 15 + 10, none⟩ = some (.int .i64 (cs k).ta) := hc k hlt 10 _ rfl
        have l11 : wr.cell? ⟨b, off + k * 15 + 11, none⟩ = some (.bool (cs k).ho) := hc k hlt 11 _ rfl
        have l12 : wr.cell? ⟨b, off + k * 15 + 12, none⟩ = some (.int .u64 (cs k).sp) := hc k hlt 12 _ rfl
        have l13 : wr.cell? ⟨b, off + k * 15 + 13, none⟩ = some (.int .u64 (cs k).su) := hc k hlt 13 _ rfl
        have l14 : wr.cell? ⟨b, off + k * 15 + 14, none⟩ = some (.int .u64 (cs k).sd) := hc k hlt 14 _ rfl
        have HCC := Lib.hid hc; clear hc
        have HS := Lib.hid HO.out.2.2.1; have BC := HO.out.2.2.2.1; have BL := HO.out.2.2.2.2; have HIN := Lib.hid HO.out.2.1; have HB := Lib.hid HO.out.1; clear HO
        have HBC := Lib.hid BC; have HBL := Lib.hid BL
        go_wp2_with fail
        have hrK : ∀ W W' : World, Since W W' → (Since wr W ∧ W.cell? ⟨b, off + k * 15, none⟩ = some (.int .i64 (cs k).ds) ∧ W.cell? ⟨b, off + k * 15 + 1, none⟩ = some (.int .i64 (cs k).da) ∧ W.cell? ⟨b, off + k * 15 + 2, none⟩ = some (.int .i64 (cs k).un) ∧ W.cell? ⟨b, off + k * 15 + 3, none⟩ = some (.int .i64 (cs k).wy) ∧ W.cell? ⟨b, off + k * 15 + 4, none⟩ = some (.int .i64 (cs k).ti) ∧ W.cell? ⟨b, off + k * 15 + 5, none⟩ = some (.int .i64 (cs k).ju) ∧ W.cell? ⟨b, off + k * 15 + 6, none⟩ = some (.int .i64 (cs k).lo) ∧ W.cell? ⟨b, off + k * 15 + 7, none⟩ = some (.bool (cs k).bl) ∧ W.cell? ⟨b, off + k * 15 + 8, none⟩ = some (.bool (cs k).br) ∧ W.cell? ⟨b, off + k * 15 + 9, none⟩ = some (.int .i64 (cs k).mo) ∧ W.cell? ⟨b, off + k * 15 + 10, none⟩ = some (.int .i64 (cs k).ta) ∧ W.cell? ⟨b, off + k * 15 + 11, none⟩ = some (.bool (cs k).ho) ∧ W.cell? ⟨b, off + k * 15 + 12, none⟩ = some (.int .u64 (cs k).sp) ∧ W.cell? ⟨b, off + k * 15 + 13, none⟩ = some (.int .u64 (cs k).su) ∧ W.cell? ⟨b, off + k * 15 + 14, none⟩ = some (.int .u64 (cs k).sd) ∧ Blk W (w.heap.size + 1) 50 #[.int .i64 f, .int .i64 cw]) → (Since wr W' ∧ W'.cell? ⟨b, off + k * 15, none⟩ = some (.int .i64 (cs k).ds) ∧ W'.cell? ⟨b, off + k * 15 + 1, none⟩ = some (.int .i64 (cs k).da) ∧ W'.cell? ⟨b, off + k * 15 + 2, none⟩ = some (.int .i64 (cs k).un) ∧ W'.cell? ⟨b, off + k * 15 + 3, none⟩ = some (.int .i64 (cs k).wy) ∧ W'.cell? ⟨b, off + k * 15 + 4, none⟩ = some (.int .i64 (cs k).ti) ∧ W'.cell? ⟨b, off + k * 15 + 5, none⟩ = some (.int .i64 (cs k).ju) ∧ W'.cell? ⟨b, off + k * 15 + 6, none⟩ = some (.int .i64 (cs k).lo) ∧ W'.cell? ⟨b, off + k * 15 + 7, none⟩ = some (.bool (cs k).bl) ∧ W'.cell? ⟨b, off + k * 15 + 8, none⟩ = some (.bool (cs k).br) ∧ W'.cell? ⟨b, off + k * 15 + 9, none⟩ = some (.int .i64 (cs k).mo) ∧ W'.cell? ⟨b, off + k * 15 + 10, none⟩ = some (.int .i64 (cs k).ta) ∧ W'.cell? ⟨b, off + k * 15 + 11, none⟩ = some (.bool (cs k).ho) ∧ W'.cell? ⟨b, off + k * 15 + 12, none⟩ = some (.int .u64 (cs k).sp) ∧ W'.cell? ⟨b, off + k * 15 + 13, none⟩ = some (.int .u64 (cs k).su) ∧ W'.cell? ⟨b, off + k * 15 + 14, none⟩ = some (.int .u64 (cs k).sd) ∧ Blk W' (w.heap.size + 1) 50 #[.int .i64 f, .int .i64 cw]) := fun W W' k ⟨h, h0, h1, h2, h3, h4, h5, h6, h7, h8, h9, h10, h11, h12, h13, h14, h15⟩ => ⟨h.trans k, keep_cell k h0, keep_cell k h1, keep_cell k h2, keep_cell k h3, keep_cell k h4, keep_cell k h5, keep_cell k h6, keep_cell k h7, keep_cell k h8, keep_cell k h9, keep_cell k h10, keep_cell k h11, keep_cell k h12, keep_cell k h13, keep_cell k h14, keep_blk k h15⟩
        have hrS : (fun W : World => Since wr W ∧ W.cell? ⟨b, off + k * 15, none⟩ = some (.int .i64 (cs k).ds) ∧ W.cell? ⟨b, off + k * 15 + 1, none⟩ = some (.int .i64 (cs k).da) ∧ W.cell? ⟨b, off + k * 15 + 2, none⟩ = some (.int .i64 (cs k).un) ∧ W.cell? ⟨b, off + k * 15 + 3, none⟩ = some (.int .i64 (cs k).wy) ∧ W.cell? ⟨b, off + k * 15 + 4, none⟩ = some (.int .i64 (cs k).ti) ∧ W.cell? ⟨b, off + k * 15 + 5, none⟩ = some (.int .i64 (cs k).ju) ∧ W.cell? ⟨b, off + k * 15 + 6, none⟩ = some (.int .i64 (cs k).lo) ∧ W.cell? ⟨b, off + k * 15 + 7, none⟩ = some (.bool (cs k).bl) ∧ W.cell? ⟨b, off + k * 15 + 8, none⟩ = some (.bool (cs k).br) ∧ W.cell? ⟨b, off + k * 15 + 9, none⟩ = some (.int .i64 (cs k).mo) ∧ W.cell? ⟨b, off + k * 15 + 10, none⟩ = some (.int .i64 (cs k).ta) ∧ W.cell? ⟨b, off + k * 15 + 11, none⟩ = some (.bool (cs k).ho) ∧ W.cell? ⟨b, off + k * 15 + 12, none⟩ = some (.int .u64 (cs k).sp) ∧ W.cell? ⟨b, off + k * 15 + 13, none⟩ = some (.int .u64 (cs k).su) ∧ W.cell? ⟨b, off + k * 15 + 14, none⟩ = some (.int .u64 (cs k).sd) ∧ Blk W (w.heap.size + 1) 50 #[.int .i64 f, .int .i64 cw]) (wr) := ⟨Since.refl _, by first | assumption | (simp; done), by first | assumption | (simp; done), by first | assumption | (simp; done), by first | assumption | (simp; done), by first | assumption | (simp; done), by first | assumption | (simp; done), by first | assumption | (simp; done), by first | assumption | (simp; done), by first | assumption | (simp; done), by first | assumption | (simp; done), by first | assumption | (simp; done), by first | assumption | (simp; done), by first | assumption | (simp; done), by first | assumption | (simp; done), by first | assumption | (simp; done), by first | assumption | (simp; done)⟩
        have HRK := Lib.hid hrK
        have HRD := Lib.hid (show (fun W : World => Since wr W ∧ W.cell? ⟨b, off + k * 15, none⟩ = some (.int .i64 (cs k).ds) ∧ W.cell? ⟨b, off + k * 15 + 1, none⟩ = some (.int .i64 (cs k).da) ∧ W.cell? ⟨b, off + k * 15 + 2, none⟩ = some (.int .i64 (cs k).un) ∧ W.cell? ⟨b, off + k * 15 + 3, none⟩ = some (.int .i64 (cs k).wy) ∧ W.cell? ⟨b, off + k * 15 + 4, none⟩ = some (.int .i64 (cs k).ti) ∧ W.cell? ⟨b, off + k * 15 + 5, none⟩ = some (.int .i64 (cs k).ju) ∧ W.cell? ⟨b, off + k * 15 + 6, none⟩ = some (.int .i64 (cs k).lo) ∧ W.cell? ⟨b, off + k * 15 + 7, none⟩ = some (.bool (cs k).bl) ∧ W.cell? ⟨b, off + k * 15 + 8, none⟩ = some (.bool (cs k).br) ∧ W.cell? ⟨b, off + k * 15 + 9, none⟩ = some (.int .i64 (cs k).mo) ∧ W.cell? ⟨b, off + k * 15 + 10, none⟩ = some (.int .i64 (cs k).ta) ∧ W.cell? ⟨b, off + k * 15 + 11, none⟩ = some (.bool (cs k).ho) ∧ W.cell? ⟨b, off + k * 15 + 12, none⟩ = some (.int .u64 (cs k).sp) ∧ W.cell? ⟨b, off + k * 15 + 13, none⟩ = some (.int .u64 (cs k).su) ∧ W.cell? ⟨b, off + k * 15 + 14, none⟩ = some (.int .u64 (cs k).sd) ∧ Blk W (w.heap.size + 1) 50 #[.int .i64 f, .int .i64 cw]) (World.drew (wr)) from ⟨(Since.refl _).drew, hrS.2⟩)
        clear hrK hrS
        refine wp_region_held_drew (S := fun W : World => Since wr W ∧ W.cell? ⟨b, off + k * 15, none⟩ = some (.int .i64 (cs k).ds) ∧ W.cell? ⟨b, off + k * 15 + 1, none⟩ = some (.int .i64 (cs k).da) ∧ W.cell? ⟨b, off + k * 15 + 2, none⟩ = some (.int .i64 (cs k).un) ∧ W.cell? ⟨b, off + k * 15 + 3, none⟩ = some (.int .i64 (cs k).wy) ∧ W.cell? ⟨b, off + k * 15 + 4, none⟩ = some (.int .i64 (cs k).ti) ∧ W.cell? ⟨b, off + k * 15 + 5, none⟩ = some (.int .i64 (cs k).ju) ∧ W.cell? ⟨b, off + k * 15 + 6, none⟩ = some (.int .i64 (cs k).lo) ∧ W.cell? ⟨b, off + k * 15 + 7, none⟩ = some (.bool (cs k).bl) ∧ W.cell? ⟨b, off + k * 15 + 8, none⟩ = some (.bool (cs k).br) ∧ W.cell? ⟨b, off + k * 15 + 9, none⟩ = some (.int .i64 (cs k).mo) ∧ W.cell? ⟨b, off + k * 15 + 10, none⟩ = some (.int .i64 (cs k).ta) ∧ W.cell? ⟨b, off + k * 15 + 11, none⟩ = some (.bool (cs k).ho) ∧ W.cell? ⟨b, off + k * 15 + 12, none⟩ = some (.int .u64 (cs k).sp) ∧ W.cell? ⟨b, off + k * 15 + 13, none⟩ = some (.int .u64 (cs k).su) ∧ W.cell? ⟨b, off + k * 15 + 14, none⟩ = some (.int .u64 (cs k).sd) ∧ Blk W (w.heap.size + 1) 50 #[.int .i64 f, .int .i64 cw]) (by kernel_rfl) HRD.out (fun hHeld => ?_)
        refine wpAnyH_take (i := 0) (oi := ?oa_0) (v := .slice (some ⟨b, off, none⟩) len cap) ?ha_0 (by kernel_rfl) (by kernel_rfl) (by kernel_rfl) ?qa_0 ?ya_0 (by assumption) ?_
        case ha_0 => (first | (simp only [List.getElem?_toArray, List.getElem?_cons_zero, List.getElem?_cons_succ]; done) | (simp only [List.getElem?_toArray, List.getElem?_cons_zero, List.getElem?_cons_succ]; exact rfl))
        case qa_0 => exact fun _ _ _ h => h
        case ya_0 => (refine Or.inl ⟨rfl, ?_⟩; intro w hSw; (try dsimp only at hSw); go_simp; (try with_reducible rfl))
        (try simp only [Act.put, List.setIfInBounds_toArray, List.set_cons_zero, List.set_cons_succ])
        refine wpAnyH_take (i := 1) (oi := ?oa_1) (v := .int .i64 k) ?ha_1 (by kernel_rfl) (by kernel_rfl) (by kernel_rfl) ?qa_1 ?ya_1 (by assumption) ?_
        case ha_1 => (first | (simp only [List.getElem?_toArray, List.getElem?_cons_zero, List.getElem?_cons_succ]; done) | (simp only [List.getElem?_toArray, List.getElem?_cons_zero, List.getElem?_cons_succ]; exact rfl))
        case qa_1 => exact fun _ _ _ h => h
        case ya_1 => (refine Or.inl ⟨rfl, ?_⟩; intro w hSw; (try dsimp only at hSw); go_simp; (try with_reducible rfl))
        (try simp only [Act.put, List.setIfInBounds_toArray, List.set_cons_zero, List.set_cons_succ])
        refine wpAnyH_take (i := 2) (oi := ?oa_2) (v := .pointer (some ⟨b, off + k * 15, none⟩)) ?ha_2 (by kernel_rfl) (by kernel_rfl) (by kernel_rfl) ?qa_2 ?ya_2 (by assumption) ?_
        case ha_2 => (first | (simp only [List.getElem?_toArray, List.getElem?_cons_zero, List.getElem?_cons_succ]; done) | (simp only [List.getElem?_toArray, List.getElem?_cons_zero, List.getElem?_cons_succ]; exact rfl))
        case qa_2 => exact fun _ _ _ h => h
        case ya_2 => (refine Or.inl ⟨rfl, ?_⟩; intro w hSw; (try dsimp only at hSw); go_simp; (try with_reducible rfl))
        (try simp only [Act.put, List.setIfInBounds_toArray, List.set_cons_zero, List.set_cons_succ])
        refine wpAnyH_take (i := 3) (oi := ?oa_3) (v := .agg #[.int .i64 (cs k).ds, .int .i64 (cs k).da, .int .i64 (cs k).un, .int .i64 (cs k).wy, .int .i64 (cs k).ti, .int .i64 (cs k).ju, .int .i64 (cs k).lo, .bool (cs k).bl, .bool (cs k).br, .int .i64 (cs k).mo, .int .i64 (cs k).ta, .bool (cs k).ho, .int .u64 (cs k).sp, .int .u64 (cs k).su, .int .u64 (cs k).sd]) ?ha_3 (by kernel_rfl) (by kernel_rfl) (by kernel_rfl) ?qa_3 ?ya_3 (by assumption) ?_
        case ha_3 => (first | (simp only [List.getElem?_toArray, List.getElem?_cons_zero, List.getElem?_cons_succ]; done) | (simp only [List.getElem?_toArray, List.getElem?_cons_zero, List.getElem?_cons_succ]; exact rfl))
        case qa_3 => exact fun _ _ _ h => h
        case ya_3 => (refine Or.inl ⟨rfl, ?_⟩; intro w hSw; (try dsimp only at hSw); go_simp; (try with_reducible rfl))
        (try simp only [Act.put, List.setIfInBounds_toArray, List.set_cons_zero, List.set_cons_succ])
        refine wpAnyH_take (i := 4) (oi := ?oa_4) (v := .agg #[.int .i64 f, .int .i64 cw]) ?ha_4 (by kernel_rfl) (by kernel_rfl) (by kernel_rfl) ?qa_4 ?ya_4 (by assumption) ?_
        case ha_4 => (first | (simp only [List.getElem?_toArray, List.getElem?_cons_zero, List.getElem?_cons_succ]; done) | (simp only [List.getElem?_toArray, List.getElem?_cons_zero, List.getElem?_cons_succ]; exact rfl))
        case qa_4 => exact fun _ _ _ h => h
        case ya_4 => exact Or.inl ⟨rfl, fun w hSw => exec_load_row 50 (.tmp 5) _ hSw.2.2.2.2.2.2.2.2.2.2.2.2.2.2.2.2 rfl rfl Try.underlying50 rfl (by kernel_rfl)⟩
        (try simp only [Act.put, List.setIfInBounds_toArray, List.set_cons_zero, List.set_cons_succ])
        refine wpAnyH_ready (rs := [5]) (by kernel_rfl) (by simp) ?_
        refine AllReadyH.cons (o := ?oa_5) ?ha_5 (fun K hK => ?_) AllReadyH.nil
        case ha_5 => (first | (simp only [List.getElem?_toArray, List.getElem?_cons_zero, List.getElem?_cons_succ]; done) | (simp only [List.getElem?_toArray, List.getElem?_cons_zero, List.getElem?_cons_succ]; exact rfl))
        (try go_simp)
        (go_at_call 40; refine (withinT (cs k) f cw _).mono ?_; rintro e w8 ⟨rfl, hb8⟩)
        (try go_wp2_with fail)
        refine hK.out _ _ ?_ (fun hHeld2 => ?_)
        · first | exact HRD.out | exact hHeld | (apply HRK.out; assumption; assumption)
        clear hK K hHeld
        have hHeld := hHeld2
        clear hHeld2
        (try simp only [Act.put, List.setIfInBounds_toArray, List.set_cons_zero, List.set_cons_succ])
        refine wpAnyH_take (i := 6) (oi := ?oa_6) (v := .bool (!wiB (cs k).un (cs k).wy f cw)) ?ha_6 (by kernel_rfl) (by kernel_rfl) (by kernel_rfl) ?qa_6 ?ya_6 (by assumption) ?_
        case ha_6 => (first | (simp only [List.getElem?_toArray, List.getElem?_cons_zero, List.getElem?_cons_succ]; done) | (simp only [List.getElem?_toArray, List.getElem?_cons_zero, List.getElem?_cons_succ]; exact rfl))
        case qa_6 => exact fun _ _ _ h => h
        case ya_6 => (refine Or.inl ⟨rfl, ?_⟩; intro w hSw; (try dsimp only at hSw); go_simp; (try with_reducible rfl))
        (try simp only [Act.put, List.setIfInBounds_toArray, List.set_cons_zero, List.set_cons_succ])
        refine wpAnyH_done (by kernel_rfl) ?_ _
        obtain ⟨hs2, _⟩ := hHeld
        have HS7 := Lib.hid hs2
        clear hs2 HRK HRD
        replace l0 := keep_cell HS7.out l0
        replace l1 := keep_cell HS7.out l1
        replace l2 := keep_cell HS7.out l2
        replace l3 := keep_cell HS7.out l3
        replace l4 := keep_cell HS7.out l4
        replace l5 := keep_cell HS7.out l5
        replace l6 := keep_cell HS7.out l6
        replace l7 := keep_cell HS7.out l7
        replace l8 := keep_cell HS7.out l8
        replace l9 := keep_cell HS7.out l9
        replace l10 := keep_cell HS7.out l10
        replace l11 := keep_cell HS7.out l11
        replace l12 := keep_cell HS7.out l12
        replace l13 := keep_cell HS7.out l13
        replace l14 := keep_cell HS7.out l14
        clear BC BL
        have BC := keep_blk HS7.out HBC.out; have BL := keep_blk HS7.out HBL.out; have HS8 := Lib.hid (HS.out.trans HS7.out)
        have HBC8 := Lib.hid BC; have HBL8 := Lib.hid BL; clear HBC HBL
        cases hw : wiB (cs k).un (cs k).wy f cw
        · clear BC BL
          go_wp2_with fail
          refine (ans _).mono ?_
          rintro e w3 ⟨rfl, hb3⟩
          go_wp2
          go_ret
          exact ⟨rfl, HS8.out.trans hb3⟩
        · have hwi := (wiB_iff _ _ _ _).1 hw
          have HIK := Lib.hid (show ∀ i, i < k + 1 → inH (cs i) f cw from fun i hi => by rcases Nat.lt_succ_iff_lt_or_eq.1 hi with h | rfl; exact HIN.out i h; exact hw)
          clear hw HIN
          have HR := Lib.hid (fit_R (HF.out k hlt))
          obtain ⟨h0, h1, g0, g1, v0, v1, y0, y1⟩ := hwi
          have HK := Lib.hid (show cw = 1 ∨ cw = 2 by omega)
          have HCR := Lib.hid (fun W => costR c (cs k) f cw h0 h1 g0 g1 HK.out HR.out.1 HR.out.2.1 HR.out.2.2 W)
          have HG := Lib.hid (And.intro g0 g1)
          clear h0 h1 v0 v1 y0 y1 g0 g1
          go_wp2_with fail
          by_cases hm : (cs k).mo = 0
          · have m1 : ((cs k).mo == 0) = true := by simpa using hm
            have HM := Lib.hid hm; clear hm
            cases hbr : (cs k).br
            · rw [hbr] at l8
              have hcr := HCR.out; rw [hbr] at hcr; clear HCR; have HCR := Lib.hid hcr; clear hcr
              have HBR := Lib.hid hbr; clear hbr
              by_cases t1 : B < 0
              · have t1' : decide (B < 0) = true := decide_eq_true t1
                have HN := Lib.hid (show (k : Int) = (bl c f cw cs (k + 1)).1 by rw [bl, if_pos ⟨⟨HM.out, HBR.out⟩, .inl (by rw [← HB.out]; exact t1)⟩])
                clear t1
                have hrK : ∀ W W' : World, Since W W' → (Since w8 W ∧ W.cell? ⟨b, off + k * 15, none⟩ = some (.int .i64 (cs k).ds) ∧ W.cell? ⟨b, off + k * 15 + 1, none⟩ = some (.int .i64 (cs k).da) ∧ W.cell? ⟨b, off + k * 15 + 2, none⟩ = some (.int .i64 (cs k).un) ∧ W.cell? ⟨b, off + k * 15 + 3, none⟩ = some (.int .i64 (cs k).wy) ∧ W.cell? ⟨b, off + k * 15 + 4, none⟩ = some (.int .i64 (cs k).ti) ∧ W.cell? ⟨b, off + k * 15 + 5, none⟩ = some (.int .i64 (cs k).ju) ∧ W.cell? ⟨b, off + k * 15 + 6, none⟩ = some (.int .i64 (cs k).lo) ∧ W.cell? ⟨b, off + k * 15 + 7, none⟩ = some (.bool (cs k).bl) ∧ W.cell? ⟨b, off + k * 15 + 8, none⟩ = some (.bool false) ∧ W.cell? ⟨b, off + k * 15 + 9, none⟩ = some (.int .i64 (cs k).mo) ∧ W.cell? ⟨b, off + k * 15 + 10, none⟩ = some (.int .i64 (cs k).ta) ∧ W.cell? ⟨b, off + k * 15 + 11, none⟩ = some (.bool (cs k).ho) ∧ W.cell? ⟨b, off + k * 15 + 12, none⟩ = some (.int .u64 (cs k).sp) ∧ W.cell? ⟨b, off + k * 15 + 13, none⟩ = some (.int .u64 (cs k).su) ∧ W.cell? ⟨b, off + k * 15 + 14, none⟩ = some (.int .u64 (cs k).sd) ∧ Blk W (w.heap.size) 23 #[.int .i64 c.ca, .int .i64 c.fl, .int .i64 c.ft, .int .i64 c.se, .int .i64 c.dr, .int .i64 c.dw, .int .i64 c.ho, .int .i64 c.re, .int .i64 c.yi, .int .i64 c.qu, .int .i64 c.qo, .int .i64 c.lo, .int .i64 c.sl, .int .i64 c.rt, .int .i64 c.cp, .int .i64 c.tr, .int .i64 c.de, .int .i64 c.wi] ∧ Blk W (w.heap.size + 1) 50 #[.int .i64 f, .int .i64 cw]) → (Since w8 W' ∧ W'.cell? ⟨b, off + k * 15, none⟩ = some (.int .i64 (cs k).ds) ∧ W'.cell? ⟨b, off + k * 15 + 1, none⟩ = some (.int .i64 (cs k).da) ∧ W'.cell? ⟨b, off + k * 15 + 2, none⟩ = some (.int .i64 (cs k).un) ∧ W'.cell? ⟨b, off + k * 15 + 3, none⟩ = some (.int .i64 (cs k).wy) ∧ W'.cell? ⟨b, off + k * 15 + 4, none⟩ = some (.int .i64 (cs k).ti) ∧ W'.cell? ⟨b, off + k * 15 + 5, none⟩ = some (.int .i64 (cs k).ju) ∧ W'.cell? ⟨b, off + k * 15 + 6, none⟩ = some (.int .i64 (cs k).lo) ∧ W'.cell? ⟨b, off + k * 15 + 7, none⟩ = some (.bool (cs k).bl) ∧ W'.cell? ⟨b, off + k * 15 + 8, none⟩ = some (.bool false) ∧ W'.cell? ⟨b, off + k * 15 + 9, none⟩ = some (.int .i64 (cs k).mo) ∧ W'.cell? ⟨b, off + k * 15 + 10, none⟩ = some (.int .i64 (cs k).ta) ∧ W'.cell? ⟨b, off + k * 15 + 11, none⟩ = some (.bool (cs k).ho) ∧ W'.cell? ⟨b, off + k * 15 + 12, none⟩ = some (.int .u64 (cs k).sp) ∧ W'.cell? ⟨b, off + k * 15 + 13, none⟩ = some (.int .u64 (cs k).su) ∧ W'.cell? ⟨b, off + k * 15 + 14, none⟩ = some (.int .u64 (cs k).sd) ∧ Blk W' (w.heap.size) 23 #[.int .i64 c.ca, .int .i64 c.fl, .int .i64 c.ft, .int .i64 c.se, .int .i64 c.dr, .int .i64 c.dw, .int .i64 c.ho, .int .i64 c.re, .int .i64 c.yi, .int .i64 c.qu, .int .i64 c.qo, .int .i64 c.lo, .int .i64 c.sl, .int .i64 c.rt, .int .i64 c.cp, .int .i64 c.tr, .int .i64 c.de, .int .i64 c.wi] ∧ Blk W' (w.heap.size + 1) 50 #[.int .i64 f, .int .i64 cw]) := fun W W' k ⟨h, h0, h1, h2, h3, h4, h5, h6, h7, h8, h9, h10, h11, h12, h13, h14, h15, h16⟩ => ⟨h.trans k, keep_cell k h0, keep_cell k h1, keep_cell k h2, keep_cell k h3, keep_cell k h4, keep_cell k h5, keep_cell k h6, keep_cell k h7, keep_cell k h8, keep_cell k h9, keep_cell k h10, keep_cell k h11, keep_cell k h12, keep_cell k h13, keep_cell k h14, keep_blk k h15, keep_blk k h16⟩
                have hrS : (fun W : World => Since w8 W ∧ W.cell? ⟨b, off + k * 15, none⟩ = some (.int .i64 (cs k).ds) ∧ W.cell? ⟨b, off + k * 15 + 1, none⟩ = some (.int .i64 (cs k).da) ∧ W.cell? ⟨b, off + k * 15 + 2, none⟩ = some (.int .i64 (cs k).un) ∧ W.cell? ⟨b, off + k * 15 + 3, none⟩ = some (.int .i64 (cs k).wy) ∧ W.cell? ⟨b, off + k * 15 + 4, none⟩ = some (.int .i64 (cs k).ti) ∧ W.cell? ⟨b, off + k * 15 + 5, none⟩ = some (.int .i64 (cs k).ju) ∧ W.cell? ⟨b, off + k * 15 + 6, none⟩ = some (.int .i64 (cs k).lo) ∧ W.cell? ⟨b, off + k * 15 + 7, none⟩ = some (.bool (cs k).bl) ∧ W.cell? ⟨b, off + k * 15 + 8, none⟩ = some (.bool false) ∧ W.cell? ⟨b, off + k * 15 + 9, none⟩ = some (.int .i64 (cs k).mo) ∧ W.cell? ⟨b, off + k * 15 + 10, none⟩ = some (.int .i64 (cs k).ta) ∧ W.cell? ⟨b, off + k * 15 + 11, none⟩ = some (.bool (cs k).ho) ∧ W.cell? ⟨b, off + k * 15 + 12, none⟩ = some (.int .u64 (cs k).sp) ∧ W.cell? ⟨b, off + k * 15 + 13, none⟩ = some (.int .u64 (cs k).su) ∧ W.cell? ⟨b, off + k * 15 + 14, none⟩ = some (.int .u64 (cs k).sd) ∧ Blk W (w.heap.size) 23 #[.int .i64 c.ca, .int .i64 c.fl, .int .i64 c.ft, .int .i64 c.se, .int .i64 c.dr, .int .i64 c.dw, .int .i64 c.ho, .int .i64 c.re, .int .i64 c.yi, .int .i64 c.qu, .int .i64 c.qo, .int .i64 c.lo, .int .i64 c.sl, .int .i64 c.rt, .int .i64 c.cp, .int .i64 c.tr, .int .i64 c.de, .int .i64 c.wi] ∧ Blk W (w.heap.size + 1) 50 #[.int .i64 f, .int .i64 cw]) (w8) := ⟨Since.refl _, by first | assumption | (simp; done), by first | assumption | (simp; done), by first | assumption | (simp; done), by first | assumption | (simp; done), by first | assumption | (simp; done), by first | assumption | (simp; done), by first | assumption | (simp; done), by first | assumption | (simp; done), by first | assumption | (simp; done), by first | assumption | (simp; done), by first | assumption | (simp; done), by first | assumption | (simp; done), by first | assumption | (simp; done), by first | assumption | (simp; done), by first | assumption | (simp; done), by first | assumption | (simp; done), by first | assumption | (simp; done)⟩
                have HRK := Lib.hid hrK
                have HRD := Lib.hid (show (fun W : World => Since w8 W ∧ W.cell? ⟨b, off + k * 15, none⟩ = some (.int .i64 (cs k).ds) ∧ W.cell? ⟨b, off + k * 15 + 1, none⟩ = some (.int .i64 (cs k).da) ∧ W.cell? ⟨b, off + k * 15 + 2, none⟩ = some (.int .i64 (cs k).un) ∧ W.cell? ⟨b, off + k * 15 + 3, none⟩ = some (.int .i64 (cs k).wy) ∧ W.cell? ⟨b, off + k * 15 + 4, none⟩ = some (.int .i64 (cs k).ti) ∧ W.cell? ⟨b, off + k * 15 + 5, none⟩ = some (.int .i64 (cs k).ju) ∧ W.cell? ⟨b, off + k * 15 + 6, none⟩ = some (.int .i64 (cs k).lo) ∧ W.cell? ⟨b, off + k * 15 + 7, none⟩ = some (.bool (cs k).bl) ∧ W.cell? ⟨b, off + k * 15 + 8, none⟩ = some (.bool false) ∧ W.cell? ⟨b, off + k * 15 + 9, none⟩ = some (.int .i64 (cs k).mo) ∧ W.cell? ⟨b, off + k * 15 + 10, none⟩ = some (.int .i64 (cs k).ta) ∧ W.cell? ⟨b, off + k * 15 + 11, none⟩ = some (.bool (cs k).ho) ∧ W.cell? ⟨b, off + k * 15 + 12, none⟩ = some (.int .u64 (cs k).sp) ∧ W.cell? ⟨b, off + k * 15 + 13, none⟩ = some (.int .u64 (cs k).su) ∧ W.cell? ⟨b, off + k * 15 + 14, none⟩ = some (.int .u64 (cs k).sd) ∧ Blk W (w.heap.size) 23 #[.int .i64 c.ca, .int .i64 c.fl, .int .i64 c.ft, .int .i64 c.se, .int .i64 c.dr, .int .i64 c.dw, .int .i64 c.ho, .int .i64 c.re, .int .i64 c.yi, .int .i64 c.qu, .int .i64 c.qo, .int .i64 c.lo, .int .i64 c.sl, .int .i64 c.rt, .int .i64 c.cp, .int .i64 c.tr, .int .i64 c.de, .int .i64 c.wi] ∧ Blk W (w.heap.size + 1) 50 #[.int .i64 f, .int .i64 cw]) (World.drew (w8)) from ⟨(Since.refl _).drew, hrS.2⟩)
                clear hrK hrS
                refine wp_region_held_drew (S := fun W : World => Since w8 W ∧ W.cell? ⟨b, off + k * 15, none⟩ = some (.int .i64 (cs k).ds) ∧ W.cell? ⟨b, off + k * 15 + 1, none⟩ = some (.int .i64 (cs k).da) ∧ W.cell? ⟨b, off + k * 15 + 2, none⟩ = some (.int .i64 (cs k).un) ∧ W.cell? ⟨b, off + k * 15 + 3, none⟩ = some (.int .i64 (cs k).wy) ∧ W.cell? ⟨b, off + k * 15 + 4, none⟩ = some (.int .i64 (cs k).ti) ∧ W.cell? ⟨b, off + k * 15 + 5, none⟩ = some (.int .i64 (cs k).ju) ∧ W.cell? ⟨b, off + k * 15 + 6, none⟩ = some (.int .i64 (cs k).lo) ∧ W.cell? ⟨b, off + k * 15 + 7, none⟩ = some (.bool (cs k).bl) ∧ W.cell? ⟨b, off + k * 15 + 8, none⟩ = some (.bool false) ∧ W.cell? ⟨b, off + k * 15 + 9, none⟩ = some (.int .i64 (cs k).mo) ∧ W.cell? ⟨b, off + k * 15 + 10, none⟩ = some (.int .i64 (cs k).ta) ∧ W.cell? ⟨b, off + k * 15 + 11, none⟩ = some (.bool (cs k).ho) ∧ W.cell? ⟨b, off + k * 15 + 12, none⟩ = some (.int .u64 (cs k).sp) ∧ W.cell? ⟨b, off + k * 15 + 13, none⟩ = some (.int .u64 (cs k).su) ∧ W.cell? ⟨b, off + k * 15 + 14, none⟩ = some (.int .u64 (cs k).sd) ∧ Blk W (w.heap.size) 23 #[.int .i64 c.ca, .int .i64 c.fl, .int .i64 c.ft, .int .i64 c.se, .int .i64 c.dr, .int .i64 c.dw, .int .i64 c.ho, .int .i64 c.re, .int .i64 c.yi, .int .i64 c.qu, .int .i64 c.qo, .int .i64 c.lo, .int .i64 c.sl, .int .i64 c.rt, .int .i64 c.cp, .int .i64 c.tr, .int .i64 c.de, .int .i64 c.wi] ∧ Blk W (w.heap.size + 1) 50 #[.int .i64 f, .int .i64 cw]) (by kernel_rfl) HRD.out (fun hHeld => ?_)
                refine wpAnyH_take (i := 0) (oi := ?oc_0) (v := .slice (some ⟨b, off, none⟩) len cap) ?hc_0 (by kernel_rfl) (by kernel_rfl) (by kernel_rfl) ?qc_0 ?yc_0 (by assumption) ?_
                case hc_0 => (first | (simp only [List.getElem?_toArray, List.getElem?_cons_zero, List.getElem?_cons_succ]; done) | (simp only [List.getElem?_toArray, List.getElem?_cons_zero, List.getElem?_cons_succ]; exact rfl))
                case qc_0 => exact fun _ _ _ h => h
                case yc_0 => (refine Or.inl ⟨rfl, ?_⟩; intro w hSw; (try dsimp only at hSw); go_simp; (try with_reducible rfl))
                (try simp only [Act.put, List.setIfInBounds_toArray, List.set_cons_zero, List.set_cons_succ])
                refine wpAnyH_take (i := 1) (oi := ?oc_1) (v := .int .i64 k) ?hc_1 (by kernel_rfl) (by kernel_rfl) (by kernel_rfl) ?qc_1 ?yc_1 (by assumption) ?_
                case hc_1 => (first | (simp only [List.getElem?_toArray, List.getElem?_cons_zero, List.getElem?_cons_succ]; done) | (simp only [List.getElem?_toArray, List.getElem?_cons_zero, List.getElem?_cons_succ]; exact rfl))
                case qc_1 => exact fun _ _ _ h => h
                case yc_1 => (refine Or.inl ⟨rfl, ?_⟩; intro w hSw; (try dsimp only at hSw); go_simp; (try with_reducible rfl))
                (try simp only [Act.put, List.setIfInBounds_toArray, List.set_cons_zero, List.set_cons_succ])
                refine wpAnyH_take (i := 2) (oi := ?oc_2) (v := .pointer (some ⟨b, off + k * 15, none⟩)) ?hc_2 (by kernel_rfl) (by kernel_rfl) (by kernel_rfl) ?qc_2 ?yc_2 (by assumption) ?_
                case hc_2 => (first | (simp only [List.getElem?_toArray, List.getElem?_cons_zero, List.getElem?_cons_succ]; done) | (simp only [List.getElem?_toArray, List.getElem?_cons_zero, List.getElem?_cons_succ]; exact rfl))
                case qc_2 => exact fun _ _ _ h => h
                case yc_2 => (refine Or.inl ⟨rfl, ?_⟩; intro w hSw; (try dsimp only at hSw); go_simp; (try with_reducible rfl))
                (try simp only [Act.put, List.setIfInBounds_toArray, List.set_cons_zero, List.set_cons_succ])
                refine wpAnyH_take (i := 3) (oi := ?oc_3) (v := ?vc_3) ?hc_3 (by kernel_rfl) (by kernel_rfl) (by kernel_rfl) ?qc_3 ?yc_3 (by assumption) ?_
                case hc_3 => (first | (simp only [List.getElem?_toArray, List.getElem?_cons_zero, List.getElem?_cons_succ]; done) | (simp only [List.getElem?_toArray, List.getElem?_cons_zero, List.getElem?_cons_succ]; exact rfl))
                case qc_3 => exact fun _ _ _ h => h
                case yc_3 => (refine Or.inl ⟨rfl, ?_⟩; intro w hSw; (try dsimp only at hSw); go_simp; (try with_reducible rfl))
                (try simp only [Act.put, List.setIfInBounds_toArray, List.set_cons_zero, List.set_cons_succ])
                refine wpAnyH_take (i := 4) (oi := ?oc_4) (v := .int .i64 (cs k).mo) ?hc_4 (by kernel_rfl) (by kernel_rfl) (by kernel_rfl) ?qc_4 ?yc_4 (by assumption) ?_
                case hc_4 => (first | (simp only [List.getElem?_toArray, List.getElem?_cons_zero, List.getElem?_cons_succ]; done) | (simp only [List.getElem?_toArray, List.getElem?_cons_zero, List.getElem?_cons_succ]; exact rfl))
                case qc_4 => exact fun _ _ _ h => h
                case yc_4 => (refine Or.inl ⟨rfl, ?_⟩; intro w hSw; (try dsimp only at hSw); go_simp; (try with_reducible rfl))
                (try simp only [Act.put, List.setIfInBounds_toArray, List.set_cons_zero, List.set_cons_succ])
                refine wpAnyH_take (i := 5) (oi := ?oc_5) (v := .bool true) ?hc_5 (by kernel_rfl) (by kernel_rfl) (by kernel_rfl) ?qc_5 ?yc_5 (by assumption) ?_
                case hc_5 => (first | (simp only [List.getElem?_toArray, List.getElem?_cons_zero, List.getElem?_cons_succ]; done) | (simp only [List.getElem?_toArray, List.getElem?_cons_zero, List.getElem?_cons_succ]; exact rfl))
                case qc_5 => exact fun _ _ _ h => h
                case yc_5 => (refine Or.inl ⟨rfl, ?_⟩; intro w hSw; (try dsimp only at hSw); go_simp; (try with_reducible rfl))
                (try simp only [Act.put, List.setIfInBounds_toArray, List.set_cons_zero, List.set_cons_succ])
                refine wpAnyH_take (i := 6) (oi := ?oc_6) (v := .bool true) ?hc_6 (by kernel_rfl) (by kernel_rfl) (by kernel_rfl) ?qc_6 ?yc_6 (by assumption) ?_
                case hc_6 => (first | (simp only [List.getElem?_toArray, List.getElem?_cons_zero, List.getElem?_cons_succ]; done) | (simp only [List.getElem?_toArray, List.getElem?_cons_zero, List.getElem?_cons_succ]; exact rfl))
                case qc_6 => exact fun _ _ _ h => h
                case yc_6 => (refine Or.inl ⟨rfl, ?_⟩; intro w hSw; (try dsimp only at hSw); go_simp; (try with_reducible rfl))
                (try simp only [Act.put, List.setIfInBounds_toArray, List.set_cons_zero, List.set_cons_succ])
                refine wpAnyH_take (i := 7) (oi := ?oc_7) (v := .slice (some ⟨b, off, none⟩) len cap) ?hc_7 (by kernel_rfl) (by kernel_rfl) (by kernel_rfl) ?qc_7 ?yc_7 (by assumption) ?_
                case hc_7 => (first | (simp only [List.getElem?_toArray, List.getElem?_cons_zero, List.getElem?_cons_succ]; done) | (simp only [List.getElem?_toArray, List.getElem?_cons_zero, List.getElem?_cons_succ]; exact rfl))
                case qc_7 => exact fun _ _ _ h => h
                case yc_7 => (refine Or.inl ⟨rfl, ?_⟩; intro w hSw; (try dsimp only at hSw); go_simp; (try with_reducible rfl))
                (try simp only [Act.put, List.setIfInBounds_toArray, List.set_cons_zero, List.set_cons_succ])
                refine wpAnyH_take (i := 8) (oi := ?oc_8) (v := .int .i64 k) ?hc_8 (by kernel_rfl) (by kernel_rfl) (by kernel_rfl) ?qc_8 ?yc_8 (by assumption) ?_
                case hc_8 => (first | (simp only [List.getElem?_toArray, List.getElem?_cons_zero, List.getElem?_cons_succ]; done) | (simp only [List.getElem?_toArray, List.getElem?_cons_zero, List.getElem?_cons_succ]; exact rfl))
                case qc_8 => exact fun _ _ _ h => h
                case yc_8 => (refine Or.inl ⟨rfl, ?_⟩; intro w hSw; (try dsimp only at hSw); go_simp; (try with_reducible rfl))
                (try simp only [Act.put, List.setIfInBounds_toArray, List.set_cons_zero, List.set_cons_succ])
                refine wpAnyH_take (i := 9) (oi := ?oc_9) (v := .pointer (some ⟨b, off + k * 15, none⟩)) ?hc_9 (by kernel_rfl) (by kernel_rfl) (by kernel_rfl) ?qc_9 ?yc_9 (by assumption) ?_
                case hc_9 => (first | (simp only [List.getElem?_toArray, List.getElem?_cons_zero, List.getElem?_cons_succ]; done) | (simp only [List.getElem?_toArray, List.getElem?_cons_zero, List.getElem?_cons_succ]; exact rfl))
                case qc_9 => exact fun _ _ _ h => h
                case yc_9 => (refine Or.inl ⟨rfl, ?_⟩; intro w hSw; (try dsimp only at hSw); go_simp; (try with_reducible rfl))
                (try simp only [Act.put, List.setIfInBounds_toArray, List.set_cons_zero, List.set_cons_succ])
                refine wpAnyH_take (i := 10) (oi := ?oc_10) (v := ?vc_10) ?hc_10 (by kernel_rfl) (by kernel_rfl) (by kernel_rfl) ?qc_10 ?yc_10 (by assumption) ?_
                case hc_10 => (first | (simp only [List.getElem?_toArray, List.getElem?_cons_zero, List.getElem?_cons_succ]; done) | (simp only [List.getElem?_toArray, List.getElem?_cons_zero, List.getElem?_cons_succ]; exact rfl))
                case qc_10 => exact fun _ _ _ h => h
                case yc_10 => (refine Or.inl ⟨rfl, ?_⟩; intro w hSw; (try dsimp only at hSw); go_simp; (try with_reducible rfl))
                (try simp only [Act.put, List.setIfInBounds_toArray, List.set_cons_zero, List.set_cons_succ])
                refine wpAnyH_take (i := 11) (oi := ?oc_11) (v := .bool false) ?hc_11 (by kernel_rfl) (by kernel_rfl) (by kernel_rfl) ?qc_11 ?yc_11 (by assumption) ?_
                case hc_11 => (first | (simp only [List.getElem?_toArray, List.getElem?_cons_zero, List.getElem?_cons_succ]; done) | (simp only [List.getElem?_toArray, List.getElem?_cons_zero, List.getElem?_cons_succ]; exact rfl))
                case qc_11 => exact fun _ _ _ h => h
                case yc_11 => (refine Or.inl ⟨rfl, ?_⟩; intro w hSw; (try dsimp only at hSw); go_simp; (try with_reducible rfl))
                (try simp only [Act.put, List.setIfInBounds_toArray, List.set_cons_zero, List.set_cons_succ])
                refine wpAnyH_take (i := 12) (oi := ?oc_12) (v := .bool true) ?hc_12 (by kernel_rfl) (by kernel_rfl) (by kernel_rfl) ?qc_12 ?yc_12 (by assumption) ?_
                case hc_12 => (first | (simp only [List.getElem?_toArray, List.getElem?_cons_zero, List.getElem?_cons_succ]; done) | (simp only [List.getElem?_toArray, List.getElem?_cons_zero, List.getElem?_cons_succ]; exact rfl))
                case qc_12 => exact fun _ _ _ h => h
                case yc_12 => (refine Or.inl ⟨rfl, ?_⟩; intro w hSw; (try dsimp only at hSw); go_simp; (try with_reducible rfl))
                (try simp only [Act.put, List.setIfInBounds_toArray, List.set_cons_zero, List.set_cons_succ])
                refine wpAnyH_take (i := 13) (oi := ?oc_13) (v := .bool true) ?hc_13 (by kernel_rfl) (by kernel_rfl) (by kernel_rfl) ?qc_13 ?yc_13 (by assumption) ?_
                case hc_13 => (first | (simp only [List.getElem?_toArray, List.getElem?_cons_zero, List.getElem?_cons_succ]; done) | (simp only [List.getElem?_toArray, List.getElem?_cons_zero, List.getElem?_cons_succ]; exact rfl))
                case qc_13 => exact fun _ _ _ h => h
                case yc_13 => (refine Or.inl ⟨rfl, ?_⟩; intro w hSw; (try dsimp only at hSw); go_simp; (try with_reducible rfl))
                (try simp only [Act.put, List.setIfInBounds_toArray, List.set_cons_zero, List.set_cons_succ])
                refine wpAnyH_take (i := 14) (oi := ?oc_14) (v := .bool true) ?hc_14 (by kernel_rfl) (by kernel_rfl) (by kernel_rfl) ?qc_14 ?yc_14 (by assumption) ?_
                case hc_14 => (first | (simp only [List.getElem?_toArray, List.getElem?_cons_zero, List.getElem?_cons_succ]; done) | (simp only [List.getElem?_toArray, List.getElem?_cons_zero, List.getElem?_cons_succ]; exact rfl))
                case qc_14 => exact fun _ _ _ h => h
                case yc_14 => (refine Or.inl ⟨rfl, ?_⟩; intro w hSw; (try dsimp only at hSw); go_simp; (try with_reducible rfl))
                (try simp only [Act.put, List.setIfInBounds_toArray, List.set_cons_zero, List.set_cons_succ])
                refine wpAnyH_take (i := 15) (oi := ?oc_15) (v := .int .i64 B) ?hc_15 (by kernel_rfl) (by kernel_rfl) (by kernel_rfl) ?qc_15 ?yc_15 (by assumption) ?_
                case hc_15 => (first | (simp only [List.getElem?_toArray, List.getElem?_cons_zero, List.getElem?_cons_succ]; done) | (simp only [List.getElem?_toArray, List.getElem?_cons_zero, List.getElem?_cons_succ]; exact rfl))
                case qc_15 => exact fun _ _ _ h => h
                case yc_15 => (refine Or.inl ⟨rfl, ?_⟩; intro w hSw; (try dsimp only at hSw); go_simp; (try with_reducible rfl))
                (try simp only [Act.put, List.setIfInBounds_toArray, List.set_cons_zero, List.set_cons_succ])
                refine wpAnyH_take (i := 16) (oi := ?oc_16) (v := .bool true) ?hc_16 (by kernel_rfl) (by kernel_rfl) (by kernel_rfl) ?qc_16 ?yc_16 (by assumption) ?_
                case hc_16 => (first | (simp only [List.getElem?_toArray, List.getElem?_cons_zero, List.getElem?_cons_succ]; done) | (simp only [List.getElem?_toArray, List.getElem?_cons_zero, List.getElem?_cons_succ]; exact rfl))
                case qc_16 => exact fun _ _ _ h => h
                case yc_16 => (refine Or.inl ⟨rfl, ?_⟩; intro w hSw; (try dsimp only at hSw); go_simp; (try with_reducible rfl))
                (try simp only [Act.put, List.setIfInBounds_toArray, List.set_cons_zero, List.set_cons_succ])
                refine wpAnyH_take (i := 17) (oi := ?oc_17) (v := .bool true) ?hc_17 (by kernel_rfl) (by kernel_rfl) (by kernel_rfl) ?qc_17 ?yc_17 (by assumption) ?_
                case hc_17 => (first | (simp only [List.getElem?_toArray, List.getElem?_cons_zero, List.getElem?_cons_succ]; done) | (simp only [List.getElem?_toArray, List.getElem?_cons_zero, List.getElem?_cons_succ]; exact rfl))
                case qc_17 => exact fun _ _ _ h => h
                case yc_17 => (refine Or.inl ⟨rfl, ?_⟩; intro w hSw; (try dsimp only at hSw); go_simp; (try with_reducible rfl))
                (try simp only [Act.put, List.setIfInBounds_toArray, List.set_cons_zero, List.set_cons_succ])
                refine wpAnyH_take (i := 18) (oi := ?oc_18) (v := undef) ?hc_18 (by kernel_rfl) (by kernel_rfl) (by kernel_rfl) ?qc_18 ?yc_18 (by assumption) ?_
                case hc_18 => (first | (simp only [List.getElem?_toArray, List.getElem?_cons_zero, List.getElem?_cons_succ]; done) | (simp only [List.getElem?_toArray, List.getElem?_cons_zero, List.getElem?_cons_succ]; exact rfl))
                case qc_18 => exact fun _ _ _ h => h
                case yc_18 => exact Or.inr ⟨rfl, rfl⟩
                (try simp only [Act.put, List.setIfInBounds_toArray, List.set_cons_zero, List.set_cons_succ])
                refine wpAnyH_take (i := 19) (oi := ?oc_19) (v := undef) ?hc_19 (by kernel_rfl) (by kernel_rfl) (by kernel_rfl) ?qc_19 ?yc_19 (by assumption) ?_
                case hc_19 => (first | (simp only [List.getElem?_toArray, List.getElem?_cons_zero, List.getElem?_cons_succ]; done) | (simp only [List.getElem?_toArray, List.getElem?_cons_zero, List.getElem?_cons_succ]; exact rfl))
                case qc_19 => exact fun _ _ _ h => h
                case yc_19 => exact Or.inr ⟨rfl, rfl⟩
                (try simp only [Act.put, List.setIfInBounds_toArray, List.set_cons_zero, List.set_cons_succ])
                refine wpAnyH_take (i := 20) (oi := ?oc_20) (v := undef) ?hc_20 (by kernel_rfl) (by kernel_rfl) (by kernel_rfl) ?qc_20 ?yc_20 (by assumption) ?_
                case hc_20 => (first | (simp only [List.getElem?_toArray, List.getElem?_cons_zero, List.getElem?_cons_succ]; done) | (simp only [List.getElem?_toArray, List.getElem?_cons_zero, List.getElem?_cons_succ]; exact rfl))
                case qc_20 => exact fun _ _ _ h => h
                case yc_20 => exact Or.inr ⟨rfl, rfl⟩
                (try simp only [Act.put, List.setIfInBounds_toArray, List.set_cons_zero, List.set_cons_succ])
                refine wpAnyH_take (i := 21) (oi := ?oc_21) (v := undef) ?hc_21 (by kernel_rfl) (by kernel_rfl) (by kernel_rfl) ?qc_21 ?yc_21 (by assumption) ?_
                case hc_21 => (first | (simp only [List.getElem?_toArray, List.getElem?_cons_zero, List.getElem?_cons_succ]; done) | (simp only [List.getElem?_toArray, List.getElem?_cons_zero, List.getElem?_cons_succ]; exact rfl))
                case qc_21 => exact fun _ _ _ h => h
                case yc_21 => exact Or.inr ⟨rfl, rfl⟩
                (try simp only [Act.put, List.setIfInBounds_toArray, List.set_cons_zero, List.set_cons_succ])
                refine wpAnyH_take (i := 22) (oi := ?oc_22) (v := undef) ?hc_22 (by kernel_rfl) (by kernel_rfl) (by kernel_rfl) ?qc_22 ?yc_22 (by assumption) ?_
                case hc_22 => (first | (simp only [List.getElem?_toArray, List.getElem?_cons_zero, List.getElem?_cons_succ]; done) | (simp only [List.getElem?_toArray, List.getElem?_cons_zero, List.getElem?_cons_succ]; exact rfl))
                case qc_22 => exact fun _ _ _ h => h
                case yc_22 => exact Or.inr ⟨rfl, rfl⟩
                (try simp only [Act.put, List.setIfInBounds_toArray, List.set_cons_zero, List.set_cons_succ])
                refine wpAnyH_take (i := 23) (oi := ?oc_23) (v := undef) ?hc_23 (by kernel_rfl) (by kernel_rfl) (by kernel_rfl) ?qc_23 ?yc_23 (by assumption) ?_
                case hc_23 => (first | (simp only [List.getElem?_toArray, List.getElem?_cons_zero, List.getElem?_cons_succ]; done) | (simp only [List.getElem?_toArray, List.getElem?_cons_zero, List.getElem?_cons_succ]; exact rfl))
                case qc_23 => exact fun _ _ _ h => h
                case yc_23 => exact Or.inr ⟨rfl, rfl⟩
                (try simp only [Act.put, List.setIfInBounds_toArray, List.set_cons_zero, List.set_cons_succ])
                refine wpAnyH_take (i := 25) (oi := ?oc_25) (v := undef) ?hc_25 (by kernel_rfl) (by kernel_rfl) (by kernel_rfl) ?qc_25 ?yc_25 (by assumption) ?_
                case hc_25 => (first | (simp only [List.getElem?_toArray, List.getElem?_cons_zero, List.getElem?_cons_succ]; done) | (simp only [List.getElem?_toArray, List.getElem?_cons_zero, List.getElem?_cons_succ]; exact rfl))
                case qc_25 => exact fun _ _ _ h => h
                case yc_25 => exact Or.inr ⟨rfl, rfl⟩
                (try simp only [Act.put, List.setIfInBounds_toArray, List.set_cons_zero, List.set_cons_succ])
                refine wpAnyH_take (i := 26) (oi := ?oc_26) (v := undef) ?hc_26 (by kernel_rfl) (by kernel_rfl) (by kernel_rfl) ?qc_26 ?yc_26 (by assumption) ?_
                case hc_26 => (first | (simp only [List.getElem?_toArray, List.getElem?_cons_zero, List.getElem?_cons_succ]; done) | (simp only [List.getElem?_toArray, List.getElem?_cons_zero, List.getElem?_cons_succ]; exact rfl))
                case qc_26 => exact fun _ _ _ h => h
                case yc_26 => exact Or.inr ⟨rfl, rfl⟩
                (try simp only [Act.put, List.setIfInBounds_toArray, List.set_cons_zero, List.set_cons_succ])
                refine wpAnyH_take (i := 27) (oi := ?oc_27) (v := undef) ?hc_27 (by kernel_rfl) (by kernel_rfl) (by kernel_rfl) ?qc_27 ?yc_27 (by assumption) ?_
                case hc_27 => (first | (simp only [List.getElem?_toArray, List.getElem?_cons_zero, List.getElem?_cons_succ]; done) | (simp only [List.getElem?_toArray, List.getElem?_cons_zero, List.getElem?_cons_succ]; exact rfl))
                case qc_27 => exact fun _ _ _ h => h
                case yc_27 => exact Or.inr ⟨rfl, rfl⟩
                (try simp only [Act.put, List.setIfInBounds_toArray, List.set_cons_zero, List.set_cons_succ])
                refine wpAnyH_take (i := 28) (oi := ?oc_28) (v := undef) ?hc_28 (by kernel_rfl) (by kernel_rfl) (by kernel_rfl) ?qc_28 ?yc_28 (by assumption) ?_
                case hc_28 => (first | (simp only [List.getElem?_toArray, List.getElem?_cons_zero, List.getElem?_cons_succ]; done) | (simp only [List.getElem?_toArray, List.getElem?_cons_zero, List.getElem?_cons_succ]; exact rfl))
                case qc_28 => exact fun _ _ _ h => h
                case yc_28 => exact Or.inr ⟨rfl, rfl⟩
                (try simp only [Act.put, List.setIfInBounds_toArray, List.set_cons_zero, List.set_cons_succ])
                refine wpAnyH_take (i := 29) (oi := ?oc_29) (v := undef) ?hc_29 (by kernel_rfl) (by kernel_rfl) (by kernel_rfl) ?qc_29 ?yc_29 (by assumption) ?_
                case hc_29 => (first | (simp only [List.getElem?_toArray, List.getElem?_cons_zero, List.getElem?_cons_succ]; done) | (simp only [List.getElem?_toArray, List.getElem?_cons_zero, List.getElem?_cons_succ]; exact rfl))
                case qc_29 => exact fun _ _ _ h => h
                case yc_29 => exact Or.inr ⟨rfl, rfl⟩
                (try simp only [Act.put, List.setIfInBounds_toArray, List.set_cons_zero, List.set_cons_succ])
                refine wpAnyH_take (i := 30) (oi := ?oc_30) (v := undef) ?hc_30 (by kernel_rfl) (by kernel_rfl) (by kernel_rfl) ?qc_30 ?yc_30 (by assumption) ?_
                case hc_30 => (first | (simp only [List.getElem?_toArray, List.getElem?_cons_zero, List.getElem?_cons_succ]; done) | (simp only [List.getElem?_toArray, List.getElem?_cons_zero, List.getElem?_cons_succ]; exact rfl))
                case qc_30 => exact fun _ _ _ h => h
                case yc_30 => exact Or.inr ⟨rfl, rfl⟩
                (try simp only [Act.put, List.setIfInBounds_toArray, List.set_cons_zero, List.set_cons_succ])
                refine wpAnyH_take (i := 24) (oi := ?oc_24) (v := undef) ?hc_24 (by kernel_rfl) (by kernel_rfl) (by kernel_rfl) ?qc_24 ?yc_24 (by assumption) ?_
                case hc_24 => (first | (simp only [List.getElem?_toArray, List.getElem?_cons_zero, List.getElem?_cons_succ]; done) | (simp only [List.getElem?_toArray, List.getElem?_cons_zero, List.getElem?_cons_succ]; exact rfl))
                case qc_24 => exact fun _ _ _ h => h
                case yc_24 => exact Or.inr ⟨rfl, rfl⟩
                (try simp only [Act.put, List.setIfInBounds_toArray, List.set_cons_zero, List.set_cons_succ])
                refine wpAnyH_take (i := 31) (oi := ?oc_31) (v := undef) ?hc_31 (by kernel_rfl) (by kernel_rfl) (by kernel_rfl) ?qc_31 ?yc_31 (by assumption) ?_
                case hc_31 => (first | (simp only [List.getElem?_toArray, List.getElem?_cons_zero, List.getElem?_cons_succ]; done) | (simp only [List.getElem?_toArray, List.getElem?_cons_zero, List.getElem?_cons_succ]; exact rfl))
                case qc_31 => exact fun _ _ _ h => h
                case yc_31 => exact Or.inr ⟨rfl, rfl⟩
                (try simp only [Act.put, List.setIfInBounds_toArray, List.set_cons_zero, List.set_cons_succ])
                refine wpAnyH_take (i := 32) (oi := ?oc_32) (v := undef) ?hc_32 (by kernel_rfl) (by kernel_rfl) (by kernel_rfl) ?qc_32 ?yc_32 (by assumption) ?_
                case hc_32 => (first | (simp only [List.getElem?_toArray, List.getElem?_cons_zero, List.getElem?_cons_succ]; done) | (simp only [List.getElem?_toArray, List.getElem?_cons_zero, List.getElem?_cons_succ]; exact rfl))
                case qc_32 => exact fun _ _ _ h => h
                case yc_32 => exact Or.inr ⟨rfl, rfl⟩
                (try simp only [Act.put, List.setIfInBounds_toArray, List.set_cons_zero, List.set_cons_succ])
                refine wpAnyH_take (i := 33) (oi := ?oc_33) (v := .bool true) ?hc_33 (by kernel_rfl) (by kernel_rfl) (by kernel_rfl) ?qc_33 ?yc_33 (by assumption) ?_
                case hc_33 => (first | (simp only [List.getElem?_toArray, List.getElem?_cons_zero, List.getElem?_cons_succ]; done) | (simp only [List.getElem?_toArray, List.getElem?_cons_zero, List.getElem?_cons_succ]; exact rfl))
                case qc_33 => exact fun _ _ _ h => h
                case yc_33 => (refine Or.inl ⟨rfl, ?_⟩; intro w hSw; (try dsimp only at hSw); go_simp; (try with_reducible rfl))
                (try simp only [Act.put, List.setIfInBounds_toArray, List.set_cons_zero, List.set_cons_succ])
                refine wpAnyH_take (i := 34) (oi := ?oc_34) (v := .bool true) ?hc_34 (by kernel_rfl) (by kernel_rfl) (by kernel_rfl) ?qc_34 ?yc_34 (by assumption) ?_
                case hc_34 => (first | (simp only [List.getElem?_toArray, List.getElem?_cons_zero, List.getElem?_cons_succ]; done) | (simp only [List.getElem?_toArray, List.getElem?_cons_zero, List.getElem?_cons_succ]; exact rfl))
                case qc_34 => exact fun _ _ _ h => h
                case yc_34 => (refine Or.inl ⟨rfl, ?_⟩; intro w hSw; (try dsimp only at hSw); go_simp; (try with_reducible rfl))
                (try simp only [Act.put, List.setIfInBounds_toArray, List.set_cons_zero, List.set_cons_succ])
                refine wpAnyH_done (by kernel_rfl) ?_ _
                obtain ⟨hs2, _⟩ := hHeld
                have HS2 := Lib.hid hs2
                clear hs2 HRK HRD
                go_wp2_with fail
                go_roundw
                case rel => exact ⟨k + 1, by have := HJ.out; omega, by go_num, (k : Int), rfl, Lib.hid ⟨HN.out, HIK.out, HS8.out.trans HS2.out, keep_blk HS2.out HBC8.out, keep_blk HS2.out HBL8.out⟩⟩
                case measure => have := HJ.out; simp [intOf]; omega
              · have t1' : decide (B < 0) = false := decide_eq_false t1
                obtain ⟨q, hq, hq1, hq2⟩ : ∃ q : Nat, q < k ∧ (bl c f cw cs k).1 = (q : Int) ∧ (bl c f cw cs k).2 = coV c (cs q) f cw := by rcases bl_inv c f cw cs k with h | h; exact absurd (show B < 0 by rw [HB.out, h]; decide) t1; exact h
                have HQ1 := Lib.hid hq1
                have hBq : B = (q : Int) := HB.out.trans hq1
                have hq0 : (q : Int) < (len : Int) := by omega
                have p0 : w8.cell? ⟨b, off + q * 15, none⟩ = some (.int .i64 (cs q).ds) := keep_cell HS7.out (HCC.out q (by omega) 0 _ rfl)
                have p1 : w8.cell? ⟨b, off + q * 15 + 1, none⟩ = some (.int .i64 (cs q).da) := keep_cell HS7.out (HCC.out q (by omega) 1 _ rfl)
                have p2 : w8.cell? ⟨b, off + q * 15 + 2, none⟩ = some (.int .i64 (cs q).un) := keep_cell HS7.out (HCC.out q (by omega) 2 _ rfl)
                have p3 : w8.cell? ⟨b, off + q * 15 + 3, none⟩ = some (.int .i64 (cs q).wy) := keep_cell HS7.out (HCC.out q (by omega) 3 _ rfl)
                have p4 : w8.cell? ⟨b, off + q * 15 + 4, none⟩ = some (.int .i64 (cs q).ti) := keep_cell HS7.out (HCC.out q (by omega) 4 _ rfl)
                have p5 : w8.cell? ⟨b, off + q * 15 + 5, none⟩ = some (.int .i64 (cs q).ju) := keep_cell HS7.out (HCC.out q (by omega) 5 _ rfl)
                have p6 : w8.cell? ⟨b, off + q * 15 + 6, none⟩ = some (.int .i64 (cs q).lo) := keep_cell HS7.out (HCC.out q (by omega) 6 _ rfl)
                have p7 : w8.cell? ⟨b, off + q * 15 + 7, none⟩ = some (.bool (cs q).bl) := keep_cell HS7.out (HCC.out q (by omega) 7 _ rfl)
                have p8 : w8.cell? ⟨b, off + q * 15 + 8, none⟩ = some (.bool (cs q).br) := keep_cell HS7.out (HCC.out q (by omega) 8 _ rfl)
                have p9 : w8.cell? ⟨b, off + q * 15 + 9, none⟩ = some (.int .i64 (cs q).mo) := keep_cell HS7.out (HCC.out q (by omega) 9 _ rfl)
                have p10 : w8.cell? ⟨b, off + q * 15 + 10, none⟩ = some (.int .i64 (cs q).ta) := keep_cell HS7.out (HCC.out q (by omega) 10 _ rfl)
                have p11 : w8.cell? ⟨b, off + q * 15 + 11, none⟩ = some (.bool (cs q).ho) := keep_cell HS7.out (HCC.out q (by omega) 11 _ rfl)
                have p12 : w8.cell? ⟨b, off + q * 15 + 12, none⟩ = some (.int .u64 (cs q).sp) := keep_cell HS7.out (HCC.out q (by omega) 12 _ rfl)
                have p13 : w8.cell? ⟨b, off + q * 15 + 13, none⟩ = some (.int .u64 (cs q).su) := keep_cell HS7.out (HCC.out q (by omega) 13 _ rfl)
                have p14 : w8.cell? ⟨b, off + q * 15 + 14, none⟩ = some (.int .u64 (cs q).sd) := keep_cell HS7.out (HCC.out q (by omega) 14 _ rfl)
                have hwq := (wiB_iff _ _ _ _).1 (HIK.out q (by omega)); have HRq := Lib.hid (fit_R (HF.out q (by omega)))
                have HCQ := Lib.hid (fun W => costR c (cs q) f cw hwq.1 hwq.2.1 HG.out.1 HG.out.2 HK.out HRq.out.1 HRq.out.2.1 HRq.out.2.2 W); clear hwq
                have HQ2 := Lib.hid hq2; clear hq2
                by_cases t2 : coV c (cs k) f cw < coV c (cs q) f cw
                · have t2' : decide (coV c (cs k) f cw < coV c (cs q) f cw) = true := decide_eq_true t2
                  have HN := Lib.hid (show (k : Int) = (bl c f cw cs (k + 1)).1 by rw [bl, if_pos ⟨⟨HM.out, HBR.out⟩, .inr (by rw [HQ2.out]; exact t2)⟩])
                  clear t1 t2
                  have hrK : ∀ W W' : World, Since W W' → (Since w8 W ∧ W.cell? ⟨b, off + k * 15, none⟩ = some (.int .i64 (cs k).ds) ∧ W.cell? ⟨b, off + k * 15 + 1, none⟩ = some (.int .i64 (cs k).da) ∧ W.cell? ⟨b, off + k * 15 + 2, none⟩ = some (.int .i64 (cs k).un) ∧ W.cell? ⟨b, off + k * 15 + 3, none⟩ = some (.int .i64 (cs k).wy) ∧ W.cell? ⟨b, off + k * 15 + 4, none⟩ = some (.int .i64 (cs k).ti) ∧ W.cell? ⟨b, off + k * 15 + 5, none⟩ = some (.int .i64 (cs k).ju) ∧ W.cell? ⟨b, off + k * 15 + 6, none⟩ = some (.int .i64 (cs k).lo) ∧ W.cell? ⟨b, off + k * 15 + 7, none⟩ = some (.bool (cs k).bl) ∧ W.cell? ⟨b, off + k * 15 + 8, none⟩ = some (.bool false) ∧ W.cell? ⟨b, off + k * 15 + 9, none⟩ = some (.int .i64 (cs k).mo) ∧ W.cell? ⟨b, off + k * 15 + 10, none⟩ = some (.int .i64 (cs k).ta) ∧ W.cell? ⟨b, off + k * 15 + 11, none⟩ = some (.bool (cs k).ho) ∧ W.cell? ⟨b, off + k * 15 + 12, none⟩ = some (.int .u64 (cs k).sp) ∧ W.cell? ⟨b, off + k * 15 + 13, none⟩ = some (.int .u64 (cs k).su) ∧ W.cell? ⟨b, off + k * 15 + 14, none⟩ = some (.int .u64 (cs k).sd) ∧ W.cell? ⟨b, off + q * 15, none⟩ = some (.int .i64 (cs q).ds) ∧ W.cell? ⟨b, off + q * 15 + 1, none⟩ = some (.int .i64 (cs q).da) ∧ W.cell? ⟨b, off + q * 15 + 2, none⟩ = some (.int .i64 (cs q).un) ∧ W.cell? ⟨b, off + q * 15 + 3, none⟩ = some (.int .i64 (cs q).wy) ∧ W.cell? ⟨b, off + q * 15 + 4, none⟩ = some (.int .i64 (cs q).ti) ∧ W.cell? ⟨b, off + q * 15 + 5, none⟩ = some (.int .i64 (cs q).ju) ∧ W.cell? ⟨b, off + q * 15 + 6, none⟩ = some (.int .i64 (cs q).lo) ∧ W.cell? ⟨b, off + q * 15 + 7, none⟩ = some (.bool (cs q).bl) ∧ W.cell? ⟨b, off + q * 15 + 8, none⟩ = some (.bool (cs q).br) ∧ W.cell? ⟨b, off + q * 15 + 9, none⟩ = some (.int .i64 (cs q).mo) ∧ W.cell? ⟨b, off + q * 15 + 10, none⟩ = some (.int .i64 (cs q).ta) ∧ W.cell? ⟨b, off + q * 15 + 11, none⟩ = some (.bool (cs q).ho) ∧ W.cell? ⟨b, off + q * 15 + 12, none⟩ = some (.int .u64 (cs q).sp) ∧ W.cell? ⟨b, off + q * 15 + 13, none⟩ = some (.int .u64 (cs q).su) ∧ W.cell? ⟨b, off + q * 15 + 14, none⟩ = some (.int .u64 (cs q).sd) ∧ Blk W (w.heap.size) 23 #[.int .i64 c.ca, .int .i64 c.fl, .int .i64 c.ft, .int .i64 c.se, .int .i64 c.dr, .int .i64 c.dw, .int .i64 c.ho, .int .i64 c.re, .int .i64 c.yi, .int .i64 c.qu, .int .i64 c.qo, .int .i64 c.lo, .int .i64 c.sl, .int .i64 c.rt, .int .i64 c.cp, .int .i64 c.tr, .int .i64 c.de, .int .i64 c.wi] ∧ Blk W (w.heap.size + 1) 50 #[.int .i64 f, .int .i64 cw]) → (Since w8 W' ∧ W'.cell? ⟨b, off + k * 15, none⟩ = some (.int .i64 (cs k).ds) ∧ W'.cell? ⟨b, off + k * 15 + 1, none⟩ = some (.int .i64 (cs k).da) ∧ W'.cell? ⟨b, off + k * 15 + 2, none⟩ = some (.int .i64 (cs k).un) ∧ W'.cell? ⟨b, off + k * 15 + 3, none⟩ = some (.int .i64 (cs k).wy) ∧ W'.cell? ⟨b, off + k * 15 + 4, none⟩ = some (.int .i64 (cs k).ti) ∧ W'.cell? ⟨b, off + k * 15 + 5, none⟩ = some (.int .i64 (cs k).ju) ∧ W'.cell? ⟨b, off + k * 15 + 6, none⟩ = some (.int .i64 (cs k).lo) ∧ W'.cell? ⟨b, off + k * 15 + 7, none⟩ = some (.bool (cs k).bl) ∧ W'.cell? ⟨b, off + k * 15 + 8, none⟩ = some (.bool false) ∧ W'.cell? ⟨b, off + k * 15 + 9, none⟩ = some (.int .i64 (cs k).mo) ∧ W'.cell? ⟨b, off + k * 15 + 10, none⟩ = some (.int .i64 (cs k).ta) ∧ W'.cell? ⟨b, off + k * 15 + 11, none⟩ = some (.bool (cs k).ho) ∧ W'.cell? ⟨b, off + k * 15 + 12, none⟩ = some (.int .u64 (cs k).sp) ∧ W'.cell? ⟨b, off + k * 15 + 13, none⟩ = some (.int .u64 (cs k).su) ∧ W'.cell? ⟨b, off + k * 15 + 14, none⟩ = some (.int .u64 (cs k).sd) ∧ W'.cell? ⟨b, off + q * 15, none⟩ = some (.int .i64 (cs q).ds) ∧ W'.cell? ⟨b, off + q * 15 + 1, none⟩ = some (.int .i64 (cs q).da) ∧ W'.cell? ⟨b, off + q * 15 + 2, none⟩ = some (.int .i64 (cs q).un) ∧ W'.cell? ⟨b, off + q * 15 + 3, none⟩ = some (.int .i64 (cs q).wy) ∧ W'.cell? ⟨b, off + q * 15 + 4, none⟩ = some (.int .i64 (cs q).ti) ∧ W'.cell? ⟨b, off + q * 15 + 5, none⟩ = some (.int .i64 (cs q).ju) ∧ W'.cell? ⟨b, off + q * 15 + 6, none⟩ = some (.int .i64 (cs q).lo) ∧ W'.cell? ⟨b, off + q * 15 + 7, none⟩ = some (.bool (cs q).bl) ∧ W'.cell? ⟨b, off + q * 15 + 8, none⟩ = some (.bool (cs q).br) ∧ W'.cell? ⟨b, off + q * 15 + 9, none⟩ = some (.int .i64 (cs q).mo) ∧ W'.cell? ⟨b, off + q * 15 + 10, none⟩ = some (.int .i64 (cs q).ta) ∧ W'.cell? ⟨b, off + q * 15 + 11, none⟩ = some (.bool (cs q).ho) ∧ W'.cell? ⟨b, off + q * 15 + 12, none⟩ = some (.int .u64 (cs q).sp) ∧ W'.cell? ⟨b, off + q * 15 + 13, none⟩ = some (.int .u64 (cs q).su) ∧ W'.cell? ⟨b, off + q * 15 + 14, none⟩ = some (.int .u64 (cs q).sd) ∧ Blk W' (w.heap.size) 23 #[.int .i64 c.ca, .int .i64 c.fl, .int .i64 c.ft, .int .i64 c.se, .int .i64 c.dr, .int .i64 c.dw, .int .i64 c.ho, .int .i64 c.re, .int .i64 c.yi, .int .i64 c.qu, .int .i64 c.qo, .int .i64 c.lo, .int .i64 c.sl, .int .i64 c.rt, .int .i64 c.cp, .int .i64 c.tr, .int .i64 c.de, .int .i64 c.wi] ∧ Blk W' (w.heap.size + 1) 50 #[.int .i64 f, .int .i64 cw]) := fun W W' k ⟨h, h0, h1, h2, h3, h4, h5, h6, h7, h8, h9, h10, h11, h12, h13, h14, h15, h16, h17, h18, h19, h20, h21, h22, h23, h24, h25, h26, h27, h28, h29, h30, h31⟩ => ⟨h.trans k, keep_cell k h0, keep_cell k h1, keep_cell k h2, keep_cell k h3, keep_cell k h4, keep_cell k h5, keep_cell k h6, keep_cell k h7, keep_cell k h8, keep_cell k h9, keep_cell k h10, keep_cell k h11, keep_cell k h12, keep_cell k h13, keep_cell k h14, keep_cell k h15, keep_cell k h16, keep_cell k h17, keep_cell k h18, keep_cell k h19, keep_cell k h20, keep_cell k h21, keep_cell k h22, keep_cell k h23, keep_cell k h24, keep_cell k h25, keep_cell k h26, keep_cell k h27, keep_cell k h28, keep_cell k h29, keep_blk k h30, keep_blk k h31⟩
                  have hrS : (fun W : World => Since w8 W ∧ W.cell? ⟨b, off + k * 15, none⟩ = some (.int .i64 (cs k).ds) ∧ W.cell? ⟨b, off + k * 15 + 1, none⟩ = some (.int .i64 (cs k).da) ∧ W.cell? ⟨b, off + k * 15 + 2, none⟩ = some (.int .i64 (cs k).un) ∧ W.cell? ⟨b, off + k * 15 + 3, none⟩ = some (.int .i64 (cs k).wy) ∧ W.cell? ⟨b, off + k * 15 + 4, none⟩ = some (.int .i64 (cs k).ti) ∧ W.cell? ⟨b, off + k * 15 + 5, none⟩ = some (.int .i64 (cs k).ju) ∧ W.cell? ⟨b, off + k * 15 + 6, none⟩ = some (.int .i64 (cs k).lo) ∧ W.cell? ⟨b, off + k * 15 + 7, none⟩ = some (.bool (cs k).bl) ∧ W.cell? ⟨b, off + k * 15 + 8, none⟩ = some (.bool false) ∧ W.cell? ⟨b, off + k * 15 + 9, none⟩ = some (.int .i64 (cs k).mo) ∧ W.cell? ⟨b, off + k * 15 + 10, none⟩ = some (.int .i64 (cs k).ta) ∧ W.cell? ⟨b, off + k * 15 + 11, none⟩ = some (.bool (cs k).ho) ∧ W.cell? ⟨b, off + k * 15 + 12, none⟩ = some (.int .u64 (cs k).sp) ∧ W.cell? ⟨b, off + k * 15 + 13, none⟩ = some (.int .u64 (cs k).su) ∧ W.cell? ⟨b, off + k * 15 + 14, none⟩ = some (.int .u64 (cs k).sd) ∧ W.cell? ⟨b, off + q * 15, none⟩ = some (.int .i64 (cs q).ds) ∧ W.cell? ⟨b, off + q * 15 + 1, none⟩ = some (.int .i64 (cs q).da) ∧ W.cell? ⟨b, off + q * 15 + 2, none⟩ = some (.int .i64 (cs q).un) ∧ W.cell? ⟨b, off + q * 15 + 3, none⟩ = some (.int .i64 (cs q).wy) ∧ W.cell? ⟨b, off + q * 15 + 4, none⟩ = some (.int .i64 (cs q).ti) ∧ W.cell? ⟨b, off + q * 15 + 5, none⟩ = some (.int .i64 (cs q).ju) ∧ W.cell? ⟨b, off + q * 15 + 6, none⟩ = some (.int .i64 (cs q).lo) ∧ W.cell? ⟨b, off + q * 15 + 7, none⟩ = some (.bool (cs q).bl) ∧ W.cell? ⟨b, off + q * 15 + 8, none⟩ = some (.bool (cs q).br) ∧ W.cell? ⟨b, off + q * 15 + 9, none⟩ = some (.int .i64 (cs q).mo) ∧ W.cell? ⟨b, off + q * 15 + 10, none⟩ = some (.int .i64 (cs q).ta) ∧ W.cell? ⟨b, off + q * 15 + 11, none⟩ = some (.bool (cs q).ho) ∧ W.cell? ⟨b, off + q * 15 + 12, none⟩ = some (.int .u64 (cs q).sp) ∧ W.cell? ⟨b, off + q * 15 + 13, none⟩ = some (.int .u64 (cs q).su) ∧ W.cell? ⟨b, off + q * 15 + 14, none⟩ = some (.int .u64 (cs q).sd) ∧ Blk W (w.heap.size) 23 #[.int .i64 c.ca, .int .i64 c.fl, .int .i64 c.ft, .int .i64 c.se, .int .i64 c.dr, .int .i64 c.dw, .int .i64 c.ho, .int .i64 c.re, .int .i64 c.yi, .int .i64 c.qu, .int .i64 c.qo, .int .i64 c.lo, .int .i64 c.sl, .int .i64 c.rt, .int .i64 c.cp, .int .i64 c.tr, .int .i64 c.de, .int .i64 c.wi] ∧ Blk W (w.heap.size + 1) 50 #[.int .i64 f, .int .i64 cw]) (w8) := ⟨Since.refl _, by first | assumption | (simp; done), by first | assumption | (simp; done), by first | assumption | (simp; done), by first | assumption | (simp; done), by first | assumption | (simp; done), by first | assumption | (simp; done), by first | assumption | (simp; done), by first | assumption | (simp; done), by first | assumption | (simp; done), by first | assumption | (simp; done), by first | assumption | (simp; done), by first | assumption | (simp; done), by first | assumption | (simp; done), by first | assumption | (simp; done), by first | assumption | (simp; done), by first | assumption | (simp; done), by first | assumption | (simp; done), by first | assumption | (simp; done), by first | assumption | (simp; done), by first | assumption | (simp; done), by first | assumption | (simp; done), by first | assumption | (simp; done), by first | assumption | (simp; done), by first | assumption | (simp; done), by first | assumption | (simp; done), by first | assumption | (simp; done), by first | assumption | (simp; done), by first | assumption | (simp; done), by first | assumption | (simp; done), by first | assumption | (simp; done), by first | assumption | (simp; done), by first | assumption | (simp; done)⟩
                  have HRK := Lib.hid hrK
                  have HRD := Lib.hid (show (fun W : World => Since w8 W ∧ W.cell? ⟨b, off + k * 15, none⟩ = some (.int .i64 (cs k).ds) ∧ W.cell? ⟨b, off + k * 15 + 1, none⟩ = some (.int .i64 (cs k).da) ∧ W.cell? ⟨b, off + k * 15 + 2, none⟩ = some (.int .i64 (cs k).un) ∧ W.cell? ⟨b, off + k * 15 + 3, none⟩ = some (.int .i64 (cs k).wy) ∧ W.cell? ⟨b, off + k * 15 + 4, none⟩ = some (.int .i64 (cs k).ti) ∧ W.cell? ⟨b, off + k * 15 + 5, none⟩ = some (.int .i64 (cs k).ju) ∧ W.cell? ⟨b, off + k * 15 + 6, none⟩ = some (.int .i64 (cs k).lo) ∧ W.cell? ⟨b, off + k * 15 + 7, none⟩ = some (.bool (cs k).bl) ∧ W.cell? ⟨b, off + k * 15 + 8, none⟩ = some (.bool false) ∧ W.cell? ⟨b, off + k * 15 + 9, none⟩ = some (.int .i64 (cs k).mo) ∧ W.cell? ⟨b, off + k * 15 + 10, none⟩ = some (.int .i64 (cs k).ta) ∧ W.cell? ⟨b, off + k * 15 + 11, none⟩ = some (.bool (cs k).ho) ∧ W.cell? ⟨b, off + k * 15 + 12, none⟩ = some (.int .u64 (cs k).sp) ∧ W.cell? ⟨b, off + k * 15 + 13, none⟩ = some (.int .u64 (cs k).su) ∧ W.cell? ⟨b, off + k * 15 + 14, none⟩ = some (.int .u64 (cs k).sd) ∧ W.cell? ⟨b, off + q * 15, none⟩ = some (.int .i64 (cs q).ds) ∧ W.cell? ⟨b, off + q * 15 + 1, none⟩ = some (.int .i64 (cs q).da) ∧ W.cell? ⟨b, off + q * 15 + 2, none⟩ = some (.int .i64 (cs q).un) ∧ W.cell? ⟨b, off + q * 15 + 3, none⟩ = some (.int .i64 (cs q).wy) ∧ W.cell? ⟨b, off + q * 15 + 4, none⟩ = some (.int .i64 (cs q).ti) ∧ W.cell? ⟨b, off + q * 15 + 5, none⟩ = some (.int .i64 (cs q).ju) ∧ W.cell? ⟨b, off + q * 15 + 6, none⟩ = some (.int .i64 (cs q).lo) ∧ W.cell? ⟨b, off + q * 15 + 7, none⟩ = some (.bool (cs q).bl) ∧ W.cell? ⟨b, off + q * 15 + 8, none⟩ = some (.bool (cs q).br) ∧ W.cell? ⟨b, off + q * 15 + 9, none⟩ = some (.int .i64 (cs q).mo) ∧ W.cell? ⟨b, off + q * 15 + 10, none⟩ = some (.int .i64 (cs q).ta) ∧ W.cell? ⟨b, off + q * 15 + 11, none⟩ = some (.bool (cs q).ho) ∧ W.cell? ⟨b, off + q * 15 + 12, none⟩ = some (.int .u64 (cs q).sp) ∧ W.cell? ⟨b, off + q * 15 + 13, none⟩ = some (.int .u64 (cs q).su) ∧ W.cell? ⟨b, off + q * 15 + 14, none⟩ = some (.int .u64 (cs q).sd) ∧ Blk W (w.heap.size) 23 #[.int .i64 c.ca, .int .i64 c.fl, .int .i64 c.ft, .int .i64 c.se, .int .i64 c.dr, .int .i64 c.dw, .int .i64 c.ho, .int .i64 c.re, .int .i64 c.yi, .int .i64 c.qu, .int .i64 c.qo, .int .i64 c.lo, .int .i64 c.sl, .int .i64 c.rt, .int .i64 c.cp, .int .i64 c.tr, .int .i64 c.de, .int .i64 c.wi] ∧ Blk W (w.heap.size + 1) 50 #[.int .i64 f, .int .i64 cw]) (World.drew (w8)) from ⟨(Since.refl _).drew, hrS.2⟩)
                  clear hrK hrS
                  refine wp_region_held_drew (S := fun W : World => Since w8 W ∧ W.cell? ⟨b, off + k * 15, none⟩ = some (.int .i64 (cs k).ds) ∧ W.cell? ⟨b, off + k * 15 + 1, none⟩ = some (.int .i64 (cs k).da) ∧ W.cell? ⟨b, off + k * 15 + 2, none⟩ = some (.int .i64 (cs k).un) ∧ W.cell? ⟨b, off + k * 15 + 3, none⟩ = some (.int .i64 (cs k).wy) ∧ W.cell? ⟨b, off + k * 15 + 4, none⟩ = some (.int .i64 (cs k).ti) ∧ W.cell? ⟨b, off + k * 15 + 5, none⟩ = some (.int .i64 (cs k).ju) ∧ W.cell? ⟨b, off + k * 15 + 6, none⟩ = some (.int .i64 (cs k).lo) ∧ W.cell? ⟨b, off + k * 15 + 7, none⟩ = some (.bool (cs k).bl) ∧ W.cell? ⟨b, off + k * 15 + 8, none⟩ = some (.bool false) ∧ W.cell? ⟨b, off + k * 15 + 9, none⟩ = some (.int .i64 (cs k).mo) ∧ W.cell? ⟨b, off + k * 15 + 10, none⟩ = some (.int .i64 (cs k).ta) ∧ W.cell? ⟨b, off + k * 15 + 11, none⟩ = some (.bool (cs k).ho) ∧ W.cell? ⟨b, off + k * 15 + 12, none⟩ = some (.int .u64 (cs k).sp) ∧ W.cell? ⟨b, off + k * 15 + 13, none⟩ = some (.int .u64 (cs k).su) ∧ W.cell? ⟨b, off + k * 15 + 14, none⟩ = some (.int .u64 (cs k).sd) ∧ W.cell? ⟨b, off + q * 15, none⟩ = some (.int .i64 (cs q).ds) ∧ W.cell? ⟨b, off + q * 15 + 1, none⟩ = some (.int .i64 (cs q).da) ∧ W.cell? ⟨b, off + q * 15 + 2, none⟩ = some (.int .i64 (cs q).un) ∧ W.cell? ⟨b, off + q * 15 + 3, none⟩ = some (.int .i64 (cs q).wy) ∧ W.cell? ⟨b, off + q * 15 + 4, none⟩ = some (.int .i64 (cs q).ti) ∧ W.cell? ⟨b, off + q * 15 + 5, none⟩ = some (.int .i64 (cs q).ju) ∧ W.cell? ⟨b, off + q * 15 + 6, none⟩ = some (.int .i64 (cs q).lo) ∧ W.cell? ⟨b, off + q * 15 + 7, none⟩ = some (.bool (cs q).bl) ∧ W.cell? ⟨b, off + q * 15 + 8, none⟩ = some (.bool (cs q).br) ∧ W.cell? ⟨b, off + q * 15 + 9, none⟩ = some (.int .i64 (cs q).mo) ∧ W.cell? ⟨b, off + q * 15 + 10, none⟩ = some (.int .i64 (cs q).ta) ∧ W.cell? ⟨b, off + q * 15 + 11, none⟩ = some (.bool (cs q).ho) ∧ W.cell? ⟨b, off + q * 15 + 12, none⟩ = some (.int .u64 (cs q).sp) ∧ W.cell? ⟨b, off + q * 15 + 13, none⟩ = some (.int .u64 (cs q).su) ∧ W.cell? ⟨b, off + q * 15 + 14, none⟩ = some (.int .u64 (cs q).sd) ∧ Blk W (w.heap.size) 23 #[.int .i64 c.ca, .int .i64 c.fl, .int .i64 c.ft, .int .i64 c.se, .int .i64 c.dr, .int .i64 c.dw, .int .i64 c.ho, .int .i64 c.re, .int .i64 c.yi, .int .i64 c.qu, .int .i64 c.qo, .int .i64 c.lo, .int .i64 c.sl, .int .i64 c.rt, .int .i64 c.cp, .int .i64 c.tr, .int .i64 c.de, .int .i64 c.wi] ∧ Blk W (w.heap.size + 1) 50 #[.int .i64 f, .int .i64 cw]) (by kernel_rfl) HRD.out (fun hHeld => ?_)
                  refine wpAnyH_take (i := 0) (oi := ?oc_0) (v := .slice (some ⟨b, off, none⟩) len cap) ?hc_0 (by kernel_rfl) (by kernel_rfl) (by kernel_rfl) ?qc_0 ?yc_0 (by assumption) ?_
                  case hc_0 => (first | (simp only [List.getElem?_toArray, List.getElem?_cons_zero, List.getElem?_cons_succ]; done) | (simp only [List.getElem?_toArray, List.getElem?_cons_zero, List.getElem?_cons_succ]; exact rfl))
                  case qc_0 => exact fun _ _ _ h => h
                  case yc_0 => (refine Or.inl ⟨rfl, ?_⟩; intro w hSw; (try dsimp only at hSw); go_simp; (try with_reducible rfl))
                  (try simp only [Act.put, List.setIfInBounds_toArray, List.set_cons_zero, List.set_cons_succ])
                  refine wpAnyH_take (i := 1) (oi := ?oc_1) (v := .int .i64 k) ?hc_1 (by kernel_rfl) (by kernel_rfl) (by kernel_rfl) ?qc_1 ?yc_1 (by assumption) ?_
                  case hc_1 => (first | (simp only [List.getElem?_toArray, List.getElem?_cons_zero, List.getElem?_cons_succ]; done) | (simp only [List.getElem?_toArray, List.getElem?_cons_zero, List.getElem?_cons_succ]; exact rfl))
                  case qc_1 => exact fun _ _ _ h => h
                  case yc_1 => (refine Or.inl ⟨rfl, ?_⟩; intro w hSw; (try dsimp only at hSw); go_simp; (try with_reducible rfl))
                  (try simp only [Act.put, List.setIfInBounds_toArray, List.set_cons_zero, List.set_cons_succ])
                  refine wpAnyH_take (i := 2) (oi := ?oc_2) (v := .pointer (some ⟨b, off + k * 15, none⟩)) ?hc_2 (by kernel_rfl) (by kernel_rfl) (by kernel_rfl) ?qc_2 ?yc_2 (by assumption) ?_
                  case hc_2 => (first | (simp only [List.getElem?_toArray, List.getElem?_cons_zero, List.getElem?_cons_succ]; done) | (simp only [List.getElem?_toArray, List.getElem?_cons_zero, List.getElem?_cons_succ]; exact rfl))
                  case qc_2 => exact fun _ _ _ h => h
                  case yc_2 => (refine Or.inl ⟨rfl, ?_⟩; intro w hSw; (try dsimp only at hSw); go_simp; (try with_reducible rfl))
                  (try simp only [Act.put, List.setIfInBounds_toArray, List.set_cons_zero, List.set_cons_succ])
                  refine wpAnyH_take (i := 3) (oi := ?oc_3) (v := ?vc_3) ?hc_3 (by kernel_rfl) (by kernel_rfl) (by kernel_rfl) ?qc_3 ?yc_3 (by assumption) ?_
                  case hc_3 => (first | (simp only [List.getElem?_toArray, List.getElem?_cons_zero, List.getElem?_cons_succ]; done) | (simp only [List.getElem?_toArray, List.getElem?_cons_zero, List.getElem?_cons_succ]; exact rfl))
                  case qc_3 => exact fun _ _ _ h => h
                  case yc_3 => (refine Or.inl ⟨rfl, ?_⟩; intro w hSw; (try dsimp only at hSw); go_simp; (try with_reducible rfl))
                  (try simp only [Act.put, List.setIfInBounds_toArray, List.set_cons_zero, List.set_cons_succ])
                  refine wpAnyH_take (i := 4) (oi := ?oc_4) (v := .int .i64 (cs k).mo) ?hc_4 (by kernel_rfl) (by kernel_rfl) (by kernel_rfl) ?qc_4 ?yc_4 (by assumption) ?_
                  case hc_4 => (first | (simp only [List.getElem?_toArray, List.getElem?_cons_zero, List.getElem?_cons_succ]; done) | (simp only [List.getElem?_toArray, List.getElem?_cons_zero, List.getElem?_cons_succ]; exact rfl))
                  case qc_4 => exact fun _ _ _ h => h
                  case yc_4 => (refine Or.inl ⟨rfl, ?_⟩; intro w hSw; (try dsimp only at hSw); go_simp; (try with_reducible rfl))
                  (try simp only [Act.put, List.setIfInBounds_toArray, List.set_cons_zero, List.set_cons_succ])
                  refine wpAnyH_take (i := 5) (oi := ?oc_5) (v := .bool true) ?hc_5 (by kernel_rfl) (by kernel_rfl) (by kernel_rfl) ?qc_5 ?yc_5 (by assumption) ?_
                  case hc_5 => (first | (simp only [List.getElem?_toArray, List.getElem?_cons_zero, List.getElem?_cons_succ]; done) | (simp only [List.getElem?_toArray, List.getElem?_cons_zero, List.getElem?_cons_succ]; exact rfl))
                  case qc_5 => exact fun _ _ _ h => h
                  case yc_5 => (refine Or.inl ⟨rfl, ?_⟩; intro w hSw; (try dsimp only at hSw); go_simp; (try with_reducible rfl))
                  (try simp only [Act.put, List.setIfInBounds_toArray, List.set_cons_zero, List.set_cons_succ])
                  refine wpAnyH_take (i := 6) (oi := ?oc_6) (v := .bool true) ?hc_6 (by kernel_rfl) (by kernel_rfl) (by kernel_rfl) ?qc_6 ?yc_6 (by assumption) ?_
                  case hc_6 => (first | (simp only [List.getElem?_toArray, List.getElem?_cons_zero, List.getElem?_cons_succ]; done) | (simp only [List.getElem?_toArray, List.getElem?_cons_zero, List.getElem?_cons_succ]; exact rfl))
                  case qc_6 => exact fun _ _ _ h => h
                  case yc_6 => (refine Or.inl ⟨rfl, ?_⟩; intro w hSw; (try dsimp only at hSw); go_simp; (try with_reducible rfl))
                  (try simp only [Act.put, List.setIfInBounds_toArray, List.set_cons_zero, List.set_cons_succ])
                  refine wpAnyH_take (i := 7) (oi := ?oc_7) (v := .slice (some ⟨b, off, none⟩) len cap) ?hc_7 (by kernel_rfl) (by kernel_rfl) (by kernel_rfl) ?qc_7 ?yc_7 (by assumption) ?_
                  case hc_7 => (first | (simp only [List.getElem?_toArray, List.getElem?_cons_zero, List.getElem?_cons_succ]; done) | (simp only [List.getElem?_toArray, List.getElem?_cons_zero, List.getElem?_cons_succ]; exact rfl))
                  case qc_7 => exact fun _ _ _ h => h
                  case yc_7 => (refine Or.inl ⟨rfl, ?_⟩; intro w hSw; (try dsimp only at hSw); go_simp; (try with_reducible rfl))
                  (try simp only [Act.put, List.setIfInBounds_toArray, List.set_cons_zero, List.set_cons_succ])
                  refine wpAnyH_take (i := 8) (oi := ?oc_8) (v := .int .i64 k) ?hc_8 (by kernel_rfl) (by kernel_rfl) (by kernel_rfl) ?qc_8 ?yc_8 (by assumption) ?_
                  case hc_8 => (first | (simp only [List.getElem?_toArray, List.getElem?_cons_zero, List.getElem?_cons_succ]; done) | (simp only [List.getElem?_toArray, List.getElem?_cons_zero, List.getElem?_cons_succ]; exact rfl))
                  case qc_8 => exact fun _ _ _ h => h
                  case yc_8 => (refine Or.inl ⟨rfl, ?_⟩; intro w hSw; (try dsimp only at hSw); go_simp; (try with_reducible rfl))
                  (try simp only [Act.put, List.setIfInBounds_toArray, List.set_cons_zero, List.set_cons_succ])
                  refine wpAnyH_take (i := 9) (oi := ?oc_9) (v := .pointer (some ⟨b, off + k * 15, none⟩)) ?hc_9 (by kernel_rfl) (by kernel_rfl) (by kernel_rfl) ?qc_9 ?yc_9 (by assumption) ?_
                  case hc_9 => (first | (simp only [List.getElem?_toArray, List.getElem?_cons_zero, List.getElem?_cons_succ]; done) | (simp only [List.getElem?_toArray, List.getElem?_cons_zero, List.getElem?_cons_succ]; exact rfl))
                  case qc_9 => exact fun _ _ _ h => h
                  case yc_9 => (refine Or.inl ⟨rfl, ?_⟩; intro w hSw; (try dsimp only at hSw); go_simp; (try with_reducible rfl))
                  (try simp only [Act.put, List.setIfInBounds_toArray, List.set_cons_zero, List.set_cons_succ])
                  refine wpAnyH_take (i := 10) (oi := ?oc_10) (v := ?vc_10) ?hc_10 (by kernel_rfl) (by kernel_rfl) (by kernel_rfl) ?qc_10 ?yc_10 (by assumption) ?_
                  case hc_10 => (first | (simp only [List.getElem?_toArray, List.getElem?_cons_zero, List.getElem?_cons_succ]; done) | (simp only [List.getElem?_toArray, List.getElem?_cons_zero, List.getElem?_cons_succ]; exact rfl))
                  case qc_10 => exact fun _ _ _ h => h
                  case yc_10 => (refine Or.inl ⟨rfl, ?_⟩; intro w hSw; (try dsimp only at hSw); go_simp; (try with_reducible rfl))
                  (try simp only [Act.put, List.setIfInBounds_toArray, List.set_cons_zero, List.set_cons_succ])
                  refine wpAnyH_take (i := 11) (oi := ?oc_11) (v := .bool false) ?hc_11 (by kernel_rfl) (by kernel_rfl) (by kernel_rfl) ?qc_11 ?yc_11 (by assumption) ?_
                  case hc_11 => (first | (simp only [List.getElem?_toArray, List.getElem?_cons_zero, List.getElem?_cons_succ]; done) | (simp only [List.getElem?_toArray, List.getElem?_cons_zero, List.getElem?_cons_succ]; exact rfl))
                  case qc_11 => exact fun _ _ _ h => h
                  case yc_11 => (refine Or.inl ⟨rfl, ?_⟩; intro w hSw; (try dsimp only at hSw); go_simp; (try with_reducible rfl))
                  (try simp only [Act.put, List.setIfInBounds_toArray, List.set_cons_zero, List.set_cons_succ])
                  refine wpAnyH_take (i := 12) (oi := ?oc_12) (v := .bool true) ?hc_12 (by kernel_rfl) (by kernel_rfl) (by kernel_rfl) ?qc_12 ?yc_12 (by assumption) ?_
                  case hc_12 => (first | (simp only [List.getElem?_toArray, List.getElem?_cons_zero, List.getElem?_cons_succ]; done) | (simp only [List.getElem?_toArray, List.getElem?_cons_zero, List.getElem?_cons_succ]; exact rfl))
                  case qc_12 => exact fun _ _ _ h => h
                  case yc_12 => (refine Or.inl ⟨rfl, ?_⟩; intro w hSw; (try dsimp only at hSw); go_simp; (try with_reducible rfl))
                  (try simp only [Act.put, List.setIfInBounds_toArray, List.set_cons_zero, List.set_cons_succ])
                  refine wpAnyH_take (i := 13) (oi := ?oc_13) (v := .bool true) ?hc_13 (by kernel_rfl) (by kernel_rfl) (by kernel_rfl) ?qc_13 ?yc_13 (by assumption) ?_
                  case hc_13 => (first | (simp only [List.getElem?_toArray, List.getElem?_cons_zero, List.getElem?_cons_succ]; done) | (simp only [List.getElem?_toArray, List.getElem?_cons_zero, List.getElem?_cons_succ]; exact rfl))
                  case qc_13 => exact fun _ _ _ h => h
                  case yc_13 => (refine Or.inl ⟨rfl, ?_⟩; intro w hSw; (try dsimp only at hSw); go_simp; (try with_reducible rfl))
                  (try simp only [Act.put, List.setIfInBounds_toArray, List.set_cons_zero, List.set_cons_succ])
                  refine wpAnyH_take (i := 14) (oi := ?oc_14) (v := .bool true) ?hc_14 (by kernel_rfl) (by kernel_rfl) (by kernel_rfl) ?qc_14 ?yc_14 (by assumption) ?_
                  case hc_14 => (first | (simp only [List.getElem?_toArray, List.getElem?_cons_zero, List.getElem?_cons_succ]; done) | (simp only [List.getElem?_toArray, List.getElem?_cons_zero, List.getElem?_cons_succ]; exact rfl))
                  case qc_14 => exact fun _ _ _ h => h
                  case yc_14 => (refine Or.inl ⟨rfl, ?_⟩; intro w hSw; (try dsimp only at hSw); go_simp; (try with_reducible rfl))
                  (try simp only [Act.put, List.setIfInBounds_toArray, List.set_cons_zero, List.set_cons_succ])
                  refine wpAnyH_take (i := 15) (oi := ?oc_15) (v := .int .i64 B) ?hc_15 (by kernel_rfl) (by kernel_rfl) (by kernel_rfl) ?qc_15 ?yc_15 (by assumption) ?_
                  case hc_15 => (first | (simp only [List.getElem?_toArray, List.getElem?_cons_zero, List.getElem?_cons_succ]; done) | (simp only [List.getElem?_toArray, List.getElem?_cons_zero, List.getElem?_cons_succ]; exact rfl))
                  case qc_15 => exact fun _ _ _ h => h
                  case yc_15 => (refine Or.inl ⟨rfl, ?_⟩; intro w hSw; (try dsimp only at hSw); go_simp; (try with_reducible rfl))
                  (try simp only [Act.put, List.setIfInBounds_toArray, List.set_cons_zero, List.set_cons_succ])
                  refine wpAnyH_take (i := 16) (oi := ?oc_16) (v := .bool false) ?hc_16 (by kernel_rfl) (by kernel_rfl) (by kernel_rfl) ?qc_16 ?yc_16 (by assumption) ?_
                  case hc_16 => (first | (simp only [List.getElem?_toArray, List.getElem?_cons_zero, List.getElem?_cons_succ]; done) | (simp only [List.getElem?_toArray, List.getElem?_cons_zero, List.getElem?_cons_succ]; exact rfl))
                  case qc_16 => exact fun _ _ _ h => h
                  case yc_16 => (refine Or.inl ⟨rfl, ?_⟩; intro w hSw; (try dsimp only at hSw); go_simp; (try with_reducible rfl))
                  (try simp only [Act.put, List.setIfInBounds_toArray, List.set_cons_zero, List.set_cons_succ])
                  refine wpAnyH_take (i := 17) (oi := ?oc_17) (v := .bool false) ?hc_17 (by kernel_rfl) (by kernel_rfl) (by kernel_rfl) ?qc_17 ?yc_17 (by assumption) ?_
                  case hc_17 => (first | (simp only [List.getElem?_toArray, List.getElem?_cons_zero, List.getElem?_cons_succ]; done) | (simp only [List.getElem?_toArray, List.getElem?_cons_zero, List.getElem?_cons_succ]; exact rfl))
                  case qc_17 => exact fun _ _ _ h => h
                  case yc_17 => (refine Or.inl ⟨rfl, ?_⟩; intro w hSw; (try dsimp only at hSw); go_simp; (try with_reducible rfl))
                  (try simp only [Act.put, List.setIfInBounds_toArray, List.set_cons_zero, List.set_cons_succ])
                  refine wpAnyH_take (i := 18) (oi := ?oc_18) (v := .agg #[.int .i64 c.ca, .int .i64 c.fl, .int .i64 c.ft, .int .i64 c.se, .int .i64 c.dr, .int .i64 c.dw, .int .i64 c.ho, .int .i64 c.re, .int .i64 c.yi, .int .i64 c.qu, .int .i64 c.qo, .int .i64 c.lo, .int .i64 c.sl, .int .i64 c.rt, .int .i64 c.cp, .int .i64 c.tr, .int .i64 c.de, .int .i64 c.wi]) ?hc_18 (by kernel_rfl) (by kernel_rfl) (by kernel_rfl) ?qc_18 ?yc_18 (by assumption) ?_
                  case hc_18 => (first | (simp only [List.getElem?_toArray, List.getElem?_cons_zero, List.getElem?_cons_succ]; done) | (simp only [List.getElem?_toArray, List.getElem?_cons_zero, List.getElem?_cons_succ]; exact rfl))
                  case qc_18 => exact fun _ _ _ h => h
                  case yc_18 => exact Or.inl ⟨rfl, fun w hSw => exec_load_row 23 (.tmp 3) _ hSw.2.2.2.2.2.2.2.2.2.2.2.2.2.2.2.2.2.2.2.2.2.2.2.2.2.2.2.2.2.2.2.1 rfl rfl Try.underlying23 rfl (by kernel_rfl)⟩
                  (try simp only [Act.put, List.setIfInBounds_toArray, List.set_cons_zero, List.set_cons_succ])
                  refine wpAnyH_take (i := 19) (oi := ?oc_19) (v := .slice (some ⟨b, off, none⟩) len cap) ?hc_19 (by kernel_rfl) (by kernel_rfl) (by kernel_rfl) ?qc_19 ?yc_19 (by assumption) ?_
                  case hc_19 => (first | (simp only [List.getElem?_toArray, List.getElem?_cons_zero, List.getElem?_cons_succ]; done) | (simp only [List.getElem?_toArray, List.getElem?_cons_zero, List.getElem?_cons_succ]; exact rfl))
                  case qc_19 => exact fun _ _ _ h => h
                  case yc_19 => (refine Or.inl ⟨rfl, ?_⟩; intro w hSw; (try dsimp only at hSw); go_simp; (try with_reducible rfl))
                  (try simp only [Act.put, List.setIfInBounds_toArray, List.set_cons_zero, List.set_cons_succ])
                  refine wpAnyH_take (i := 20) (oi := ?oc_20) (v := .int .i64 k) ?hc_20 (by kernel_rfl) (by kernel_rfl) (by kernel_rfl) ?qc_20 ?yc_20 (by assumption) ?_
                  case hc_20 => (first | (simp only [List.getElem?_toArray, List.getElem?_cons_zero, List.getElem?_cons_succ]; done) | (simp only [List.getElem?_toArray, List.getElem?_cons_zero, List.getElem?_cons_succ]; exact rfl))
                  case qc_20 => exact fun _ _ _ h => h
                  case yc_20 => (refine Or.inl ⟨rfl, ?_⟩; intro w hSw; (try dsimp only at hSw); go_simp; (try with_reducible rfl))
                  (try simp only [Act.put, List.setIfInBounds_toArray, List.set_cons_zero, List.set_cons_succ])
                  refine wpAnyH_take (i := 21) (oi := ?oc_21) (v := .pointer (some ⟨b, off + k * 15, none⟩)) ?hc_21 (by kernel_rfl) (by kernel_rfl) (by kernel_rfl) ?qc_21 ?yc_21 (by assumption) ?_
                  case hc_21 => (first | (simp only [List.getElem?_toArray, List.getElem?_cons_zero, List.getElem?_cons_succ]; done) | (simp only [List.getElem?_toArray, List.getElem?_cons_zero, List.getElem?_cons_succ]; exact rfl))
                  case qc_21 => exact fun _ _ _ h => h
                  case yc_21 => (refine Or.inl ⟨rfl, ?_⟩; intro w hSw; (try dsimp only at hSw); go_simp; (try with_reducible rfl))
                  (try simp only [Act.put, List.setIfInBounds_toArray, List.set_cons_zero, List.set_cons_succ])
                  refine wpAnyH_take (i := 22) (oi := ?oc_22) (v := .agg #[.int .i64 (cs k).ds, .int .i64 (cs k).da, .int .i64 (cs k).un, .int .i64 (cs k).wy, .int .i64 (cs k).ti, .int .i64 (cs k).ju, .int .i64 (cs k).lo, .bool (cs k).bl, .bool false, .int .i64 (cs k).mo, .int .i64 (cs k).ta, .bool (cs k).ho, .int .u64 (cs k).sp, .int .u64 (cs k).su, .int .u64 (cs k).sd]) ?hc_22 (by kernel_rfl) (by kernel_rfl) (by kernel_rfl) ?qc_22 ?yc_22 (by assumption) ?_
                  case hc_22 => (first | (simp only [List.getElem?_toArray, List.getElem?_cons_zero, List.getElem?_cons_succ]; done) | (simp only [List.getElem?_toArray, List.getElem?_cons_zero, List.getElem?_cons_succ]; exact rfl))
                  case qc_22 => exact fun _ _ _ h => h
                  case yc_22 => (refine Or.inl ⟨rfl, ?_⟩; intro w hSw; (try dsimp only at hSw); go_simp; (try with_reducible rfl))
                  (try simp only [Act.put, List.setIfInBounds_toArray, List.set_cons_zero, List.set_cons_succ])
                  refine wpAnyH_take (i := 23) (oi := ?oc_23) (v := .agg #[.int .i64 f, .int .i64 cw]) ?hc_23 (by kernel_rfl) (by kernel_rfl) (by kernel_rfl) ?qc_23 ?yc_23 (by assumption) ?_
                  case hc_23 => (first | (simp only [List.getElem?_toArray, List.getElem?_cons_zero, List.getElem?_cons_succ]; done) | (simp only [List.getElem?_toArray, List.getElem?_cons_zero, List.getElem?_cons_succ]; exact rfl))
                  case qc_23 => exact fun _ _ _ h => h
                  case yc_23 => exact Or.inl ⟨rfl, fun w hSw => exec_load_row 50 (.tmp 5) _ hSw.2.2.2.2.2.2.2.2.2.2.2.2.2.2.2.2.2.2.2.2.2.2.2.2.2.2.2.2.2.2.2.2 rfl rfl Try.underlying50 rfl (by kernel_rfl)⟩
                  (try simp only [Act.put, List.setIfInBounds_toArray, List.set_cons_zero, List.set_cons_succ])
                  refine wpAnyH_take (i := 25) (oi := ?oc_25) (v := .agg #[.int .i64 c.ca, .int .i64 c.fl, .int .i64 c.ft, .int .i64 c.se, .int .i64 c.dr, .int .i64 c.dw, .int .i64 c.ho, .int .i64 c.re, .int .i64 c.yi, .int .i64 c.qu, .int .i64 c.qo, .int .i64 c.lo, .int .i64 c.sl, .int .i64 c.rt, .int .i64 c.cp, .int .i64 c.tr, .int .i64 c.de, .int .i64 c.wi]) ?hc_25 (by kernel_rfl) (by kernel_rfl) (by kernel_rfl) ?qc_25 ?yc_25 (by assumption) ?_
                  case hc_25 => (first | (simp only [List.getElem?_toArray, List.getElem?_cons_zero, List.getElem?_cons_succ]; done) | (simp only [List.getElem?_toArray, List.getElem?_cons_zero, List.getElem?_cons_succ]; exact rfl))
                  case qc_25 => exact fun _ _ _ h => h
                  case yc_25 => exact Or.inl ⟨rfl, fun w hSw => exec_load_row 23 (.tmp 3) _ hSw.2.2.2.2.2.2.2.2.2.2.2.2.2.2.2.2.2.2.2.2.2.2.2.2.2.2.2.2.2.2.2.1 rfl rfl Try.underlying23 rfl (by kernel_rfl)⟩
                  (try simp only [Act.put, List.setIfInBounds_toArray, List.set_cons_zero, List.set_cons_succ])
                  refine wpAnyH_take (i := 26) (oi := ?oc_26) (v := .slice (some ⟨b, off, none⟩) len cap) ?hc_26 (by kernel_rfl) (by kernel_rfl) (by kernel_rfl) ?qc_26 ?yc_26 (by assumption) ?_
                  case hc_26 => (first | (simp only [List.getElem?_toArray, List.getElem?_cons_zero, List.getElem?_cons_succ]; done) | (simp only [List.getElem?_toArray, List.getElem?_cons_zero, List.getElem?_cons_succ]; exact rfl))
                  case qc_26 => exact fun _ _ _ h => h
                  case yc_26 => (refine Or.inl ⟨rfl, ?_⟩; intro w hSw; (try dsimp only at hSw); go_simp; (try with_reducible rfl))
                  (try simp only [Act.put, List.setIfInBounds_toArray, List.set_cons_zero, List.set_cons_succ])
                  refine wpAnyH_take (i := 27) (oi := ?oc_27) (v := .int .i64 B) ?hc_27 (by kernel_rfl) (by kernel_rfl) (by kernel_rfl) ?qc_27 ?yc_27 (by assumption) ?_
                  case hc_27 => (first | (simp only [List.getElem?_toArray, List.getElem?_cons_zero, List.getElem?_cons_succ]; done) | (simp only [List.getElem?_toArray, List.getElem?_cons_zero, List.getElem?_cons_succ]; exact rfl))
                  case qc_27 => exact fun _ _ _ h => h
                  case yc_27 => (refine Or.inl ⟨rfl, ?_⟩; intro w hSw; (try dsimp only at hSw); go_simp; (try with_reducible rfl))
                  (try simp only [Act.put, List.setIfInBounds_toArray, List.set_cons_zero, List.set_cons_succ])
                  refine wpAnyH_take (i := 28) (oi := ?oc_28) (v := .pointer (some ⟨b, off + q * 15, none⟩)) ?hc_28 (by kernel_rfl) (by kernel_rfl) (by kernel_rfl) ?qc_28 ?yc_28 (by assumption) ?_
                  case hc_28 => (first | (simp only [List.getElem?_toArray, List.getElem?_cons_zero, List.getElem?_cons_succ]; done) | (simp only [List.getElem?_toArray, List.getElem?_cons_zero, List.getElem?_cons_succ]; exact rfl))
                  case qc_28 => exact fun _ _ _ h => h
                  case yc_28 => (refine Or.inl ⟨rfl, ?_⟩; intro w hSw; (try dsimp only at hSw); go_simp; (try with_reducible rfl))
                  (try simp only [Act.put, List.setIfInBounds_toArray, List.set_cons_zero, List.set_cons_succ])
                  refine wpAnyH_take (i := 29) (oi := ?oc_29) (v := .agg #[.int .i64 (cs q).ds, .int .i64 (cs q).da, .int .i64 (cs q).un, .int .i64 (cs q).wy, .int .i64 (cs q).ti, .int .i64 (cs q).ju, .int .i64 (cs q).lo, .bool (cs q).bl, .bool (cs q).br, .int .i64 (cs q).mo, .int .i64 (cs q).ta, .bool (cs q).ho, .int .u64 (cs q).sp, .int .u64 (cs q).su, .int .u64 (cs q).sd]) ?hc_29 (by kernel_rfl) (by kernel_rfl) (by kernel_rfl) ?qc_29 ?yc_29 (by assumption) ?_
                  case hc_29 => (first | (simp only [List.getElem?_toArray, List.getElem?_cons_zero, List.getElem?_cons_succ]; done) | (simp only [List.getElem?_toArray, List.getElem?_cons_zero, List.getElem?_cons_succ]; exact rfl))
                  case qc_29 => exact fun _ _ _ h => h
                  case yc_29 => (refine Or.inl ⟨rfl, ?_⟩; intro w hSw; (try dsimp only at hSw); go_simp; (try with_reducible rfl))
                  (try simp only [Act.put, List.setIfInBounds_toArray, List.set_cons_zero, List.set_cons_succ])
                  refine wpAnyH_take (i := 30) (oi := ?oc_30) (v := .agg #[.int .i64 f, .int .i64 cw]) ?hc_30 (by kernel_rfl) (by kernel_rfl) (by kernel_rfl) ?qc_30 ?yc_30 (by assumption) ?_
                  case hc_30 => (first | (simp only [List.getElem?_toArray, List.getElem?_cons_zero, List.getElem?_cons_succ]; done) | (simp only [List.getElem?_toArray, List.getElem?_cons_zero, List.getElem?_cons_succ]; exact rfl))
                  case qc_30 => exact fun _ _ _ h => h
                  case yc_30 => exact Or.inl ⟨rfl, fun w hSw => exec_load_row 50 (.tmp 5) _ hSw.2.2.2.2.2.2.2.2.2.2.2.2.2.2.2.2.2.2.2.2.2.2.2.2.2.2.2.2.2.2.2.2 rfl rfl Try.underlying50 rfl (by kernel_rfl)⟩
                  (try simp only [Act.put, List.setIfInBounds_toArray, List.set_cons_zero, List.set_cons_succ])
                  refine wpAnyH_ready (rs := [24]) (by kernel_rfl) (by simp) ?_
                  refine AllReadyH.cons (o := ?oc_24) ?hc_24 (fun K hK => ?_) AllReadyH.nil
                  case hc_24 => (first | (simp only [List.getElem?_toArray, List.getElem?_cons_zero, List.getElem?_cons_succ]; done) | (simp only [List.getElem?_toArray, List.getElem?_cons_zero, List.getElem?_cons_succ]; exact rfl))
                  (try go_simp)
                  (go_at_call 43; refine (HCR.out _).mono ?_; rintro e w9 ⟨rfl, hb9⟩)
                  (try go_wp2_with fail)
                  refine hK.out _ _ ?_ (fun hHeld2 => ?_)
                  · first | exact HRD.out | exact hHeld | (apply HRK.out; assumption; assumption)
                  clear hK K hHeld
                  have hHeld := hHeld2
                  clear hHeld2
                  (try simp only [Act.put, List.setIfInBounds_toArray, List.set_cons_zero, List.set_cons_succ])
                  refine wpAnyH_ready (rs := [31]) (by kernel_rfl) (by simp) ?_
                  refine AllReadyH.cons (o := ?oc_31) ?hc_31 (fun K hK => ?_) AllReadyH.nil
                  case hc_31 => (first | (simp only [List.getElem?_toArray, List.getElem?_cons_zero, List.getElem?_cons_succ]; done) | (simp only [List.getElem?_toArray, List.getElem?_cons_zero, List.getElem?_cons_succ]; exact rfl))
                  (try go_simp)
                  (go_at_call 43; refine (HCQ.out _).mono ?_; rintro e w9 ⟨rfl, hb9⟩)
                  (try go_wp2_with fail)
                  refine hK.out _ _ ?_ (fun hHeld2 => ?_)
                  · first | exact HRD.out | exact hHeld | (apply HRK.out; assumption; assumption)
                  clear hK K hHeld
                  have hHeld := hHeld2
                  clear hHeld2
                  (try simp only [Act.put, List.setIfInBounds_toArray, List.set_cons_zero, List.set_cons_succ])
                  refine wpAnyH_take (i := 32) (oi := ?oc_32) (v := .bool true) ?hc_32 (by kernel_rfl) (by kernel_rfl) (by kernel_rfl) ?qc_32 ?yc_32 (by assumption) ?_
                  case hc_32 => (first | (simp only [List.getElem?_toArray, List.getElem?_cons_zero, List.getElem?_cons_succ]; done) | (simp only [List.getElem?_toArray, List.getElem?_cons_zero, List.getElem?_cons_succ]; exact rfl))
                  case qc_32 => exact fun _ _ _ h => h
                  case yc_32 => (refine Or.inl ⟨rfl, ?_⟩; intro w hSw; (try dsimp only at hSw); go_simp; (try with_reducible rfl))
                  (try simp only [Act.put, List.setIfInBounds_toArray, List.set_cons_zero, List.set_cons_succ])
                  refine wpAnyH_take (i := 33) (oi := ?oc_33) (v := .bool true) ?hc_33 (by kernel_rfl) (by kernel_rfl) (by kernel_rfl) ?qc_33 ?yc_33 (by assumption) ?_
                  case hc_33 => (first | (simp only [List.getElem?_toArray, List.getElem?_cons_zero, List.getElem?_cons_succ]; done) | (simp only [List.getElem?_toArray, List.getElem?_cons_zero, List.getElem?_cons_succ]; exact rfl))
                  case qc_33 => exact fun _ _ _ h => h
                  case yc_33 => (refine Or.inl ⟨rfl, ?_⟩; intro w hSw; (try dsimp only at hSw); go_simp; (try with_reducible rfl))
                  (try simp only [Act.put, List.setIfInBounds_toArray, List.set_cons_zero, List.set_cons_succ])
                  refine wpAnyH_take (i := 34) (oi := ?oc_34) (v := .bool true) ?hc_34 (by kernel_rfl) (by kernel_rfl) (by kernel_rfl) ?qc_34 ?yc_34 (by assumption) ?_
                  case hc_34 => (first | (simp only [List.getElem?_toArray, List.getElem?_cons_zero, List.getElem?_cons_succ]; done) | (simp only [List.getElem?_toArray, List.getElem?_cons_zero, List.getElem?_cons_succ]; exact rfl))
                  case qc_34 => exact fun _ _ _ h => h
                  case yc_34 => (refine Or.inl ⟨rfl, ?_⟩; intro w hSw; (try dsimp only at hSw); go_simp; (try with_reducible rfl))
                  (try simp only [Act.put, List.setIfInBounds_toArray, List.set_cons_zero, List.set_cons_succ])
                  refine wpAnyH_done (by kernel_rfl) ?_ _
                  obtain ⟨hs2, _⟩ := hHeld
                  have HS2 := Lib.hid hs2
                  clear hs2 HRK HRD
                  go_wp2_with fail
                  go_roundw
                  case rel => exact ⟨k + 1, by have := HJ.out; omega, by go_num, (k : Int), rfl, Lib.hid ⟨HN.out, HIK.out, HS8.out.trans HS2.out, keep_blk HS2.out HBC8.out, keep_blk HS2.out HBL8.out⟩⟩
                  case measure => have := HJ.out; simp [intOf]; omega
                · have t2' : decide (coV c (cs k) f cw < coV c (cs q) f cw) = false := decide_eq_false t2
                  have HN := Lib.hid (show (q : Int) = (bl c f cw cs (k + 1)).1 by rw [bl, if_neg (by rw [← HB.out, HQ2.out]; intro h; rcases h.2 with h | h; exact t1 h; exact t2 h)]; exact HQ1.out.symm)
                  clear t1 t2
                  have hrK : ∀ W W' : World, Since W W' → (Since w8 W ∧ W.cell? ⟨b, off + k * 15, none⟩ = some (.int .i64 (cs k).ds) ∧ W.cell? ⟨b, off + k * 15 + 1, none⟩ = some (.int .i64 (cs k).da) ∧ W.cell? ⟨b, off + k * 15 + 2, none⟩ = some (.int .i64 (cs k).un) ∧ W.cell? ⟨b, off + k * 15 + 3, none⟩ = some (.int .i64 (cs k).wy) ∧ W.cell? ⟨b, off + k * 15 + 4, none⟩ = some (.int .i64 (cs k).ti) ∧ W.cell? ⟨b, off + k * 15 + 5, none⟩ = some (.int .i64 (cs k).ju) ∧ W.cell? ⟨b, off + k * 15 + 6, none⟩ = some (.int .i64 (cs k).lo) ∧ W.cell? ⟨b, off + k * 15 + 7, none⟩ = some (.bool (cs k).bl) ∧ W.cell? ⟨b, off + k * 15 + 8, none⟩ = some (.bool false) ∧ W.cell? ⟨b, off + k * 15 + 9, none⟩ = some (.int .i64 (cs k).mo) ∧ W.cell? ⟨b, off + k * 15 + 10, none⟩ = some (.int .i64 (cs k).ta) ∧ W.cell? ⟨b, off + k * 15 + 11, none⟩ = some (.bool (cs k).ho) ∧ W.cell? ⟨b, off + k * 15 + 12, none⟩ = some (.int .u64 (cs k).sp) ∧ W.cell? ⟨b, off + k * 15 + 13, none⟩ = some (.int .u64 (cs k).su) ∧ W.cell? ⟨b, off + k * 15 + 14, none⟩ = some (.int .u64 (cs k).sd) ∧ W.cell? ⟨b, off + q * 15, none⟩ = some (.int .i64 (cs q).ds) ∧ W.cell? ⟨b, off + q * 15 + 1, none⟩ = some (.int .i64 (cs q).da) ∧ W.cell? ⟨b, off + q * 15 + 2, none⟩ = some (.int .i64 (cs q).un) ∧ W.cell? ⟨b, off + q * 15 + 3, none⟩ = some (.int .i64 (cs q).wy) ∧ W.cell? ⟨b, off + q * 15 + 4, none⟩ = some (.int .i64 (cs q).ti) ∧ W.cell? ⟨b, off + q * 15 + 5, none⟩ = some (.int .i64 (cs q).ju) ∧ W.cell? ⟨b, off + q * 15 + 6, none⟩ = some (.int .i64 (cs q).lo) ∧ W.cell? ⟨b, off + q * 15 + 7, none⟩ = some (.bool (cs q).bl) ∧ W.cell? ⟨b, off + q * 15 + 8, none⟩ = some (.bool (cs q).br) ∧ W.cell? ⟨b, off + q * 15 + 9, none⟩ = some (.int .i64 (cs q).mo) ∧ W.cell? ⟨b, off + q * 15 + 10, none⟩ = some (.int .i64 (cs q).ta) ∧ W.cell? ⟨b, off + q * 15 + 11, none⟩ = some (.bool (cs q).ho) ∧ W.cell? ⟨b, off + q * 15 + 12, none⟩ = some (.int .u64 (cs q).sp) ∧ W.cell? ⟨b, off + q * 15 + 13, none⟩ = some (.int .u64 (cs q).su) ∧ W.cell? ⟨b, off + q * 15 + 14, none⟩ = some (.int .u64 (cs q).sd) ∧ Blk W (w.heap.size) 23 #[.int .i64 c.ca, .int .i64 c.fl, .int .i64 c.ft, .int .i64 c.se, .int .i64 c.dr, .int .i64 c.dw, .int .i64 c.ho, .int .i64 c.re, .int .i64 c.yi, .int .i64 c.qu, .int .i64 c.qo, .int .i64 c.lo, .int .i64 c.sl, .int .i64 c.rt, .int .i64 c.cp, .int .i64 c.tr, .int .i64 c.de, .int .i64 c.wi] ∧ Blk W (w.heap.size + 1) 50 #[.int .i64 f, .int .i64 cw]) → (Since w8 W' ∧ W'.cell? ⟨b, off + k * 15, none⟩ = some (.int .i64 (cs k).ds) ∧ W'.cell? ⟨b, off + k * 15 + 1, none⟩ = some (.int .i64 (cs k).da) ∧ W'.cell? ⟨b, off + k * 15 + 2, none⟩ = some (.int .i64 (cs k).un) ∧ W'.cell? ⟨b, off + k * 15 + 3, none⟩ = some (.int .i64 (cs k).wy) ∧ W'.cell? ⟨b, off + k * 15 + 4, none⟩ = some (.int .i64 (cs k).ti) ∧ W'.cell? ⟨b, off + k * 15 + 5, none⟩ = some (.int .i64 (cs k).ju) ∧ W'.cell? ⟨b, off + k * 15 + 6, none⟩ = some (.int .i64 (cs k).lo) ∧ W'.cell? ⟨b, off + k * 15 + 7, none⟩ = some (.bool (cs k).bl) ∧ W'.cell? ⟨b, off + k * 15 + 8, none⟩ = some (.bool false) ∧ W'.cell? ⟨b, off + k * 15 + 9, none⟩ = some (.int .i64 (cs k).mo) ∧ W'.cell? ⟨b, off + k * 15 + 10, none⟩ = some (.int .i64 (cs k).ta) ∧ W'.cell? ⟨b, off + k * 15 + 11, none⟩ = some (.bool (cs k).ho) ∧ W'.cell? ⟨b, off + k * 15 + 12, none⟩ = some (.int .u64 (cs k).sp) ∧ W'.cell? ⟨b, off + k * 15 + 13, none⟩ = some (.int .u64 (cs k).su) ∧ W'.cell? ⟨b, off + k * 15 + 14, none⟩ = some (.int .u64 (cs k).sd) ∧ W'.cell? ⟨b, off + q * 15, none⟩ = some (.int .i64 (cs q).ds) ∧ W'.cell? ⟨b, off + q * 15 + 1, none⟩ = some (.int .i64 (cs q).da) ∧ W'.cell? ⟨b, off + q * 15 + 2, none⟩ = some (.int .i64 (cs q).un) ∧ W'.cell? ⟨b, off + q * 15 + 3, none⟩ = some (.int .i64 (cs q).wy) ∧ W'.cell? ⟨b, off + q * 15 + 4, none⟩ = some (.int .i64 (cs q).ti) ∧ W'.cell? ⟨b, off + q * 15 + 5, none⟩ = some (.int .i64 (cs q).ju) ∧ W'.cell? ⟨b, off + q * 15 + 6, none⟩ = some (.int .i64 (cs q).lo) ∧ W'.cell? ⟨b, off + q * 15 + 7, none⟩ = some (.bool (cs q).bl) ∧ W'.cell? ⟨b, off + q * 15 + 8, none⟩ = some (.bool (cs q).br) ∧ W'.cell? ⟨b, off + q * 15 + 9, none⟩ = some (.int .i64 (cs q).mo) ∧ W'.cell? ⟨b, off + q * 15 + 10, none⟩ = some (.int .i64 (cs q).ta) ∧ W'.cell? ⟨b, off + q * 15 + 11, none⟩ = some (.bool (cs q).ho) ∧ W'.cell? ⟨b, off + q * 15 + 12, none⟩ = some (.int .u64 (cs q).sp) ∧ W'.cell? ⟨b, off + q * 15 + 13, none⟩ = some (.int .u64 (cs q).su) ∧ W'.cell? ⟨b, off + q * 15 + 14, none⟩ = some (.int .u64 (cs q).sd) ∧ Blk W' (w.heap.size) 23 #[.int .i64 c.ca, .int .i64 c.fl, .int .i64 c.ft, .int .i64 c.se, .int .i64 c.dr, .int .i64 c.dw, .int .i64 c.ho, .int .i64 c.re, .int .i64 c.yi, .int .i64 c.qu, .int .i64 c.qo, .int .i64 c.lo, .int .i64 c.sl, .int .i64 c.rt, .int .i64 c.cp, .int .i64 c.tr, .int .i64 c.de, .int .i64 c.wi] ∧ Blk W' (w.heap.size + 1) 50 #[.int .i64 f, .int .i64 cw]) := fun W W' k ⟨h, h0, h1, h2, h3, h4, h5, h6, h7, h8, h9, h10, h11, h12, h13, h14, h15, h16, h17, h18, h19, h20, h21, h22, h23, h24, h25, h26, h27, h28, h29, h30, h31⟩ => ⟨h.trans k, keep_cell k h0, keep_cell k h1, keep_cell k h2, keep_cell k h3, keep_cell k h4, keep_cell k h5, keep_cell k h6, keep_cell k h7, keep_cell k h8, keep_cell k h9, keep_cell k h10, keep_cell k h11, keep_cell k h12, keep_cell k h13, keep_cell k h14, keep_cell k h15, keep_cell k h16, keep_cell k h17, keep_cell k h18, keep_cell k h19, keep_cell k h20, keep_cell k h21, keep_cell k h22, keep_cell k h23, keep_cell k h24, keep_cell k h25, keep_cell k h26, keep_cell k h27, keep_cell k h28, keep_cell k h29, keep_blk k h30, keep_blk k h31⟩
                  have hrS : (fun W : World => Since w8 W ∧ W.cell? ⟨b, off + k * 15, none⟩ = some (.int .i64 (cs k).ds) ∧ W.cell? ⟨b, off + k * 15 + 1, none⟩ = some (.int .i64 (cs k).da) ∧ W.cell? ⟨b, off + k * 15 + 2, none⟩ = some (.int .i64 (cs k).un) ∧ W.cell? ⟨b, off + k * 15 + 3, none⟩ = some (.int .i64 (cs k).wy) ∧ W.cell? ⟨b, off + k * 15 + 4, none⟩ = some (.int .i64 (cs k).ti) ∧ W.cell? ⟨b, off + k * 15 + 5, none⟩ = some (.int .i64 (cs k).ju) ∧ W.cell? ⟨b, off + k * 15 + 6, none⟩ = some (.int .i64 (cs k).lo) ∧ W.cell? ⟨b, off + k * 15 + 7, none⟩ = some (.bool (cs k).bl) ∧ W.cell? ⟨b, off + k * 15 + 8, none⟩ = some (.bool false) ∧ W.cell? ⟨b, off + k * 15 + 9, none⟩ = some (.int .i64 (cs k).mo) ∧ W.cell? ⟨b, off + k * 15 + 10, none⟩ = some (.int .i64 (cs k).ta) ∧ W.cell? ⟨b, off + k * 15 + 11, none⟩ = some (.bool (cs k).ho) ∧ W.cell? ⟨b, off + k * 15 + 12, none⟩ = some (.int .u64 (cs k).sp) ∧ W.cell? ⟨b, off + k * 15 + 13, none⟩ = some (.int .u64 (cs k).su) ∧ W.cell? ⟨b, off + k * 15 + 14, none⟩ = some (.int .u64 (cs k).sd) ∧ W.cell? ⟨b, off + q * 15, none⟩ = some (.int .i64 (cs q).ds) ∧ W.cell? ⟨b, off + q * 15 + 1, none⟩ = some (.int .i64 (cs q).da) ∧ W.cell? ⟨b, off + q * 15 + 2, none⟩ = some (.int .i64 (cs q).un) ∧ W.cell? ⟨b, off + q * 15 + 3, none⟩ = some (.int .i64 (cs q).wy) ∧ W.cell? ⟨b, off + q * 15 + 4, none⟩ = some (.int .i64 (cs q).ti) ∧ W.cell? ⟨b, off + q * 15 + 5, none⟩ = some (.int .i64 (cs q).ju) ∧ W.cell? ⟨b, off + q * 15 + 6, none⟩ = some (.int .i64 (cs q).lo) ∧ W.cell? ⟨b, off + q * 15 + 7, none⟩ = some (.bool (cs q).bl) ∧ W.cell? ⟨b, off + q * 15 + 8, none⟩ = some (.bool (cs q).br) ∧ W.cell? ⟨b, off + q * 15 + 9, none⟩ = some (.int .i64 (cs q).mo) ∧ W.cell? ⟨b, off + q * 15 + 10, none⟩ = some (.int .i64 (cs q).ta) ∧ W.cell? ⟨b, off + q * 15 + 11, none⟩ = some (.bool (cs q).ho) ∧ W.cell? ⟨b, off + q * 15 + 12, none⟩ = some (.int .u64 (cs q).sp) ∧ W.cell? ⟨b, off + q * 15 + 13, none⟩ = some (.int .u64 (cs q).su) ∧ W.cell? ⟨b, off + q * 15 + 14, none⟩ = some (.int .u64 (cs q).sd) ∧ Blk W (w.heap.size) 23 #[.int .i64 c.ca, .int .i64 c.fl, .int .i64 c.ft, .int .i64 c.se, .int .i64 c.dr, .int .i64 c.dw, .int .i64 c.ho, .int .i64 c.re, .int .i64 c.yi, .int .i64 c.qu, .int .i64 c.qo, .int .i64 c.lo, .int .i64 c.sl, .int .i64 c.rt, .int .i64 c.cp, .int .i64 c.tr, .int .i64 c.de, .int .i64 c.wi] ∧ Blk W (w.heap.size + 1) 50 #[.int .i64 f, .int .i64 cw]) (w8) := ⟨Since.refl _, by first | assumption | (simp; done), by first | assumption | (simp; done), by first | assumption | (simp; done), by first | assumption | (simp; done), by first | assumption | (simp; done), by first | assumption | (simp; done), by first | assumption | (simp; done), by first | assumption | (simp; done), by first | assumption | (simp; done), by first | assumption | (simp; done), by first | assumption | (simp; done), by first | assumption | (simp; done), by first | assumption | (simp; done), by first | assumption | (simp; done), by first | assumption | (simp; done), by first | assumption | (simp; done), by first | assumption | (simp; done), by first | assumption | (simp; done), by first | assumption | (simp; done), by first | assumption | (simp; done), by first | assumption | (simp; done), by first | assumption | (simp; done), by first | assumption | (simp; done), by first | assumption | (simp; done), by first | assumption | (simp; done), by first | assumption | (simp; done), by first | assumption | (simp; done), by first | assumption | (simp; done), by first | assumption | (simp; done), by first | assumption | (simp; done), by first | assumption | (simp; done), by first | assumption | (simp; done)⟩
                  have HRK := Lib.hid hrK
                  have HRD := Lib.hid (show (fun W : World => Since w8 W ∧ W.cell? ⟨b, off + k * 15, none⟩ = some (.int .i64 (cs k).ds) ∧ W.cell? ⟨b, off + k * 15 + 1, none⟩ = some (.int .i64 (cs k).da) ∧ W.cell? ⟨b, off + k * 15 + 2, none⟩ = some (.int .i64 (cs k).un) ∧ W.cell? ⟨b, off + k * 15 + 3, none⟩ = some (.int .i64 (cs k).wy) ∧ W.cell? ⟨b, off + k * 15 + 4, none⟩ = some (.int .i64 (cs k).ti) ∧ W.cell? ⟨b, off + k * 15 + 5, none⟩ = some (.int .i64 (cs k).ju) ∧ W.cell? ⟨b, off + k * 15 + 6, none⟩ = some (.int .i64 (cs k).lo) ∧ W.cell? ⟨b, off + k * 15 + 7, none⟩ = some (.bool (cs k).bl) ∧ W.cell? ⟨b, off + k * 15 + 8, none⟩ = some (.bool false) ∧ W.cell? ⟨b, off + k * 15 + 9, none⟩ = some (.int .i64 (cs k).mo) ∧ W.cell? ⟨b, off + k * 15 + 10, none⟩ = some (.int .i64 (cs k).ta) ∧ W.cell? ⟨b, off + k * 15 + 11, none⟩ = some (.bool (cs k).ho) ∧ W.cell? ⟨b, off + k * 15 + 12, none⟩ = some (.int .u64 (cs k).sp) ∧ W.cell? ⟨b, off + k * 15 + 13, none⟩ = some (.int .u64 (cs k).su) ∧ W.cell? ⟨b, off + k * 15 + 14, none⟩ = some (.int .u64 (cs k).sd) ∧ W.cell? ⟨b, off + q * 15, none⟩ = some (.int .i64 (cs q).ds) ∧ W.cell? ⟨b, off + q * 15 + 1, none⟩ = some (.int .i64 (cs q).da) ∧ W.cell? ⟨b, off + q * 15 + 2, none⟩ = some (.int .i64 (cs q).un) ∧ W.cell? ⟨b, off + q * 15 + 3, none⟩ = some (.int .i64 (cs q).wy) ∧ W.cell? ⟨b, off + q * 15 + 4, none⟩ = some (.int .i64 (cs q).ti) ∧ W.cell? ⟨b, off + q * 15 + 5, none⟩ = some (.int .i64 (cs q).ju) ∧ W.cell? ⟨b, off + q * 15 + 6, none⟩ = some (.int .i64 (cs q).lo) ∧ W.cell? ⟨b, off + q * 15 + 7, none⟩ = some (.bool (cs q).bl) ∧ W.cell? ⟨b, off + q * 15 + 8, none⟩ = some (.bool (cs q).br) ∧ W.cell? ⟨b, off + q * 15 + 9, none⟩ = some (.int .i64 (cs q).mo) ∧ W.cell? ⟨b, off + q * 15 + 10, none⟩ = some (.int .i64 (cs q).ta) ∧ W.cell? ⟨b, off + q * 15 + 11, none⟩ = some (.bool (cs q).ho) ∧ W.cell? ⟨b, off + q * 15 + 12, none⟩ = some (.int .u64 (cs q).sp) ∧ W.cell? ⟨b, off + q * 15 + 13, none⟩ = some (.int .u64 (cs q).su) ∧ W.cell? ⟨b, off + q * 15 + 14, none⟩ = some (.int .u64 (cs q).sd) ∧ Blk W (w.heap.size) 23 #[.int .i64 c.ca, .int .i64 c.fl, .int .i64 c.ft, .int .i64 c.se, .int .i64 c.dr, .int .i64 c.dw, .int .i64 c.ho, .int .i64 c.re, .int .i64 c.yi, .int .i64 c.qu, .int .i64 c.qo, .int .i64 c.lo, .int .i64 c.sl, .int .i64 c.rt, .int .i64 c.cp, .int .i64 c.tr, .int .i64 c.de, .int .i64 c.wi] ∧ Blk W (w.heap.size + 1) 50 #[.int .i64 f, .int .i64 cw]) (World.drew (w8)) from ⟨(Since.refl _).drew, hrS.2⟩)
                  clear hrK hrS
                  refine wp_region_held_drew (S := fun W : World => Since w8 W ∧ W.cell? ⟨b, off + k * 15, none⟩ = some (.int .i64 (cs k).ds) ∧ W.cell? ⟨b, off + k * 15 + 1, none⟩ = some (.int .i64 (cs k).da) ∧ W.cell? ⟨b, off + k * 15 + 2, none⟩ = some (.int .i64 (cs k).un) ∧ W.cell? ⟨b, off + k * 15 + 3, none⟩ = some (.int .i64 (cs k).wy) ∧ W.cell? ⟨b, off + k * 15 + 4, none⟩ = some (.int .i64 (cs k).ti) ∧ W.cell? ⟨b, off + k * 15 + 5, none⟩ = some (.int .i64 (cs k).ju) ∧ W.cell? ⟨b, off + k * 15 + 6, none⟩ = some (.int .i64 (cs k).lo) ∧ W.cell? ⟨b, off + k * 15 + 7, none⟩ = some (.bool (cs k).bl) ∧ W.cell? ⟨b, off + k * 15 + 8, none⟩ = some (.bool false) ∧ W.cell? ⟨b, off + k * 15 + 9, none⟩ = some (.int .i64 (cs k).mo) ∧ W.cell? ⟨b, off + k * 15 + 10, none⟩ = some (.int .i64 (cs k).ta) ∧ W.cell? ⟨b, off + k * 15 + 11, none⟩ = some (.bool (cs k).ho) ∧ W.cell? ⟨b, off + k * 15 + 12, none⟩ = some (.int .u64 (cs k).sp) ∧ W.cell? ⟨b, off + k * 15 + 13, none⟩ = some (.int .u64 (cs k).su) ∧ W.cell? ⟨b, off + k * 15 + 14, none⟩ = some (.int .u64 (cs k).sd) ∧ W.cell? ⟨b, off + q * 15, none⟩ = some (.int .i64 (cs q).ds) ∧ W.cell? ⟨b, off + q * 15 + 1, none⟩ = some (.int .i64 (cs q).da) ∧ W.cell? ⟨b, off + q * 15 + 2, none⟩ = some (.int .i64 (cs q).un) ∧ W.cell? ⟨b, off + q * 15 + 3, none⟩ = some (.int .i64 (cs q).wy) ∧ W.cell? ⟨b, off + q * 15 + 4, none⟩ = some (.int .i64 (cs q).ti) ∧ W.cell? ⟨b, off + q * 15 + 5, none⟩ = some (.int .i64 (cs q).ju) ∧ W.cell? ⟨b, off + q * 15 + 6, none⟩ = some (.int .i64 (cs q).lo) ∧ W.cell? ⟨b, off + q * 15 + 7, none⟩ = some (.bool (cs q).bl) ∧ W.cell? ⟨b, off + q * 15 + 8, none⟩ = some (.bool (cs q).br) ∧ W.cell? ⟨b, off + q * 15 + 9, none⟩ = some (.int .i64 (cs q).mo) ∧ W.cell? ⟨b, off + q * 15 + 10, none⟩ = some (.int .i64 (cs q).ta) ∧ W.cell? ⟨b, off + q * 15 + 11, none⟩ = some (.bool (cs q).ho) ∧ W.cell? ⟨b, off + q * 15 + 12, none⟩ = some (.int .u64 (cs q).sp) ∧ W.cell? ⟨b, off + q * 15 + 13, none⟩ = some (.int .u64 (cs q).su) ∧ W.cell? ⟨b, off + q * 15 + 14, none⟩ = some (.int .u64 (cs q).sd) ∧ Blk W (w.heap.size) 23 #[.int .i64 c.ca, .int .i64 c.fl, .int .i64 c.ft, .int .i64 c.se, .int .i64 c.dr, .int .i64 c.dw, .int .i64 c.ho, .int .i64 c.re, .int .i64 c.yi, .int .i64 c.qu, .int .i64 c.qo, .int .i64 c.lo, .int .i64 c.sl, .int .i64 c.rt, .int .i64 c.cp, .int .i64 c.tr, .int .i64 c.de, .int .i64 c.wi] ∧ Blk W (w.heap.size + 1) 50 #[.int .i64 f, .int .i64 cw]) (by kernel_rfl) HRD.out (fun hHeld => ?_)
                  refine wpAnyH_take (i := 0) (oi := ?oc_0) (v := .slice (some ⟨b, off, none⟩) len cap) ?hc_0 (by kernel_rfl) (by kernel_rfl) (by kernel_rfl) ?qc_0 ?yc_0 (by assumption) ?_
                  case hc_0 => (first | (simp only [List.getElem?_toArray, List.getElem?_cons_zero, List.getElem?_cons_succ]; done) | (simp only [List.getElem?_toArray, List.getElem?_cons_zero, List.getElem?_cons_succ]; exact rfl))
                  case qc_0 => exact fun _ _ _ h => h
                  case yc_0 => (refine Or.inl ⟨rfl, ?_⟩; intro w hSw; (try dsimp only at hSw); go_simp; (try with_reducible rfl))
                  (try simp only [Act.put, List.setIfInBounds_toArray, List.set_cons_zero, List.set_cons_succ])
                  refine wpAnyH_take (i := 1) (oi := ?oc_1) (v := .int .i64 k) ?hc_1 (by kernel_rfl) (by kernel_rfl) (by kernel_rfl) ?qc_1 ?yc_1 (by assumption) ?_
                  case hc_1 => (first | (simp only [List.getElem?_toArray, List.getElem?_cons_zero, List.getElem?_cons_succ]; done) | (simp only [List.getElem?_toArray, List.getElem?_cons_zero, List.getElem?_cons_succ]; exact rfl))
                  case qc_1 => exact fun _ _ _ h => h
                  case yc_1 => (refine Or.inl ⟨rfl, ?_⟩; intro w hSw; (try dsimp only at hSw); go_simp; (try with_reducible rfl))
                  (try simp only [Act.put, List.setIfInBounds_toArray, List.set_cons_zero, List.set_cons_succ])
                  refine wpAnyH_take (i := 2) (oi := ?oc_2) (v := .pointer (some ⟨b, off + k * 15, none⟩)) ?hc_2 (by kernel_rfl) (by kernel_rfl) (by kernel_rfl) ?qc_2 ?yc_2 (by assumption) ?_
                  case hc_2 => (first | (simp only [List.getElem?_toArray, List.getElem?_cons_zero, List.getElem?_cons_succ]; done) | (simp only [List.getElem?_toArray, List.getElem?_cons_zero, List.getElem?_cons_succ]; exact rfl))
                  case qc_2 => exact fun _ _ _ h => h
                  case yc_2 => (refine Or.inl ⟨rfl, ?_⟩; intro w hSw; (try dsimp only at hSw); go_simp; (try with_reducible rfl))
                  (try simp only [Act.put, List.setIfInBounds_toArray, List.set_cons_zero, List.set_cons_succ])
                  refine wpAnyH_take (i := 3) (oi := ?oc_3) (v := ?vc_3) ?hc_3 (by kernel_rfl) (by kernel_rfl) (by kernel_rfl) ?qc_3 ?yc_3 (by assumption) ?_
                  case hc_3 => (first | (simp only [List.getElem?_toArray, List.getElem?_cons_zero, List.getElem?_cons_succ]; done) | (simp only [List.getElem?_toArray, List.getElem?_cons_zero, List.getElem?_cons_succ]; exact rfl))
                  case qc_3 => exact fun _ _ _ h => h
                  case yc_3 => (refine Or.inl ⟨rfl, ?_⟩; intro w hSw; (try dsimp only at hSw); go_simp; (try with_reducible rfl))
                  (try simp only [Act.put, List.setIfInBounds_toArray, List.set_cons_zero, List.set_cons_succ])
                  refine wpAnyH_take (i := 4) (oi := ?oc_4) (v := .int .i64 (cs k).mo) ?hc_4 (by kernel_rfl) (by kernel_rfl) (by kernel_rfl) ?qc_4 ?yc_4 (by assumption) ?_
                  case hc_4 => (first | (simp only [List.getElem?_toArray, List.getElem?_cons_zero, List.getElem?_cons_succ]; done) | (simp only [List.getElem?_toArray, List.getElem?_cons_zero, List.getElem?_cons_succ]; exact rfl))
                  case qc_4 => exact fun _ _ _ h => h
                  case yc_4 => (refine Or.inl ⟨rfl, ?_⟩; intro w hSw; (try dsimp only at hSw); go_simp; (try with_reducible rfl))
                  (try simp only [Act.put, List.setIfInBounds_toArray, List.set_cons_zero, List.set_cons_succ])
                  refine wpAnyH_take (i := 5) (oi := ?oc_5) (v := .bool true) ?hc_5 (by kernel_rfl) (by kernel_rfl) (by kernel_rfl) ?qc_5 ?yc_5 (by assumption) ?_
                  case hc_5 => (first | (simp only [List.getElem?_toArray, List.getElem?_cons_zero, List.getElem?_cons_succ]; done) | (simp only [List.getElem?_toArray, List.getElem?_cons_zero, List.getElem?_cons_succ]; exact rfl))
                  case qc_5 => exact fun _ _ _ h => h
                  case yc_5 => (refine Or.inl ⟨rfl, ?_⟩; intro w hSw; (try dsimp only at hSw); go_simp; (try with_reducible rfl))
                  (try simp only [Act.put, List.setIfInBounds_toArray, List.set_cons_zero, List.set_cons_succ])
                  refine wpAnyH_take (i := 6) (oi := ?oc_6) (v := .bool true) ?hc_6 (by kernel_rfl) (by kernel_rfl) (by kernel_rfl) ?qc_6 ?yc_6 (by assumption) ?_
                  case hc_6 => (first | (simp only [List.getElem?_toArray, List.getElem?_cons_zero, List.getElem?_cons_succ]; done) | (simp only [List.getElem?_toArray, List.getElem?_cons_zero, List.getElem?_cons_succ]; exact rfl))
                  case qc_6 => exact fun _ _ _ h => h
                  case yc_6 => (refine Or.inl ⟨rfl, ?_⟩; intro w hSw; (try dsimp only at hSw); go_simp; (try with_reducible rfl))
                  (try simp only [Act.put, List.setIfInBounds_toArray, List.set_cons_zero, List.set_cons_succ])
                  refine wpAnyH_take (i := 7) (oi := ?oc_7) (v := .slice (some ⟨b, off, none⟩) len cap) ?hc_7 (by kernel_rfl) (by kernel_rfl) (by kernel_rfl) ?qc_7 ?yc_7 (by assumption) ?_
                  case hc_7 => (first | (simp only [List.getElem?_toArray, List.getElem?_cons_zero, List.getElem?_cons_succ]; done) | (simp only [List.getElem?_toArray, List.getElem?_cons_zero, List.getElem?_cons_succ]; exact rfl))
                  case qc_7 => exact fun _ _ _ h => h
                  case yc_7 => (refine Or.inl ⟨rfl, ?_⟩; intro w hSw; (try dsimp only at hSw); go_simp; (try with_reducible rfl))
                  (try simp only [Act.put, List.setIfInBounds_toArray, List.set_cons_zero, List.set_cons_succ])
                  refine wpAnyH_take (i := 8) (oi := ?oc_8) (v := .int .i64 k) ?hc_8 (by kernel_rfl) (by kernel_rfl) (by kernel_rfl) ?qc_8 ?yc_8 (by assumption) ?_
                  case hc_8 => (first | (simp only [List.getElem?_toArray, List.getElem?_cons_zero, List.getElem?_cons_succ]; done) | (simp only [List.getElem?_toArray, List.getElem?_cons_zero, List.getElem?_cons_succ]; exact rfl))
                  case qc_8 => exact fun _ _ _ h => h
                  case yc_8 => (refine Or.inl ⟨rfl, ?_⟩; intro w hSw; (try dsimp only at hSw); go_simp; (try with_reducible rfl))
                  (try simp only [Act.put, List.setIfInBounds_toArray, List.set_cons_zero, List.set_cons_succ])
                  refine wpAnyH_take (i := 9) (oi := ?oc_9) (v := .pointer (some ⟨b, off + k * 15, none⟩)) ?hc_9 (by kernel_rfl) (by kernel_rfl) (by kernel_rfl) ?qc_9 ?yc_9 (by assumption) ?_
                  case hc_9 => (first | (simp only [List.getElem?_toArray, List.getElem?_cons_zero, List.getElem?_cons_succ]; done) | (simp only [List.getElem?_toArray, List.getElem?_cons_zero, List.getElem?_cons_succ]; exact rfl))
                  case qc_9 => exact fun _ _ _ h => h
                  case yc_9 => (refine Or.inl ⟨rfl, ?_⟩; intro w hSw; (try dsimp only at hSw); go_simp; (try with_reducible rfl))
                  (try simp only [Act.put, List.setIfInBounds_toArray, List.set_cons_zero, List.set_cons_succ])
                  refine wpAnyH_take (i := 10) (oi := ?oc_10) (v := ?vc_10) ?hc_10 (by kernel_rfl) (by kernel_rfl) (by kernel_rfl) ?qc_10 ?yc_10 (by assumption) ?_
                  case hc_10 => (first | (simp only [List.getElem?_toArray, List.getElem?_cons_zero, List.getElem?_cons_succ]; done) | (simp only [List.getElem?_toArray, List.getElem?_cons_zero, List.getElem?_cons_succ]; exact rfl))
                  case qc_10 => exact fun _ _ _ h => h
                  case yc_10 => (refine Or.inl ⟨rfl, ?_⟩; intro w hSw; (try dsimp only at hSw); go_simp; (try with_reducible rfl))
                  (try simp only [Act.put, List.setIfInBounds_toArray, List.set_cons_zero, List.set_cons_succ])
                  refine wpAnyH_take (i := 11) (oi := ?oc_11) (v := .bool false) ?hc_11 (by kernel_rfl) (by kernel_rfl) (by kernel_rfl) ?qc_11 ?yc_11 (by assumption) ?_
                  case hc_11 => (first | (simp only [List.getElem?_toArray, List.getElem?_cons_zero, List.getElem?_cons_succ]; done) | (simp only [List.getElem?_toArray, List.getElem?_cons_zero, List.getElem?_cons_succ]; exact rfl))
                  case qc_11 => exact fun _ _ _ h => h
                  case yc_11 => (refine Or.inl ⟨rfl, ?_⟩; intro w hSw; (try dsimp only at hSw); go_simp; (try with_reducible rfl))
                  (try simp only [Act.put, List.setIfInBounds_toArray, List.set_cons_zero, List.set_cons_succ])
                  refine wpAnyH_take (i := 12) (oi := ?oc_12) (v := .bool true) ?hc_12 (by kernel_rfl) (by kernel_rfl) (by kernel_rfl) ?qc_12 ?yc_12 (by assumption) ?_
                  case hc_12 => (first | (simp only [List.getElem?_toArray, List.getElem?_cons_zero, List.getElem?_cons_succ]; done) | (simp only [List.getElem?_toArray, List.getElem?_cons_zero, List.getElem?_cons_succ]; exact rfl))
                  case qc_12 => exact fun _ _ _ h => h
                  case yc_12 => (refine Or.inl ⟨rfl, ?_⟩; intro w hSw; (try dsimp only at hSw); go_simp; (try with_reducible rfl))
                  (try simp only [Act.put, List.setIfInBounds_toArray, List.set_cons_zero, List.set_cons_succ])
                  refine wpAnyH_take (i := 13) (oi := ?oc_13) (v := .bool true) ?hc_13 (by kernel_rfl) (by kernel_rfl) (by kernel_rfl) ?qc_13 ?yc_13 (by assumption) ?_
                  case hc_13 => (first | (simp only [List.getElem?_toArray, List.getElem?_cons_zero, List.getElem?_cons_succ]; done) | (simp only [List.getElem?_toArray, List.getElem?_cons_zero, List.getElem?_cons_succ]; exact rfl))
                  case qc_13 => exact fun _ _ _ h => h
                  case yc_13 => (refine Or.inl ⟨rfl, ?_⟩; intro w hSw; (try dsimp only at hSw); go_simp; (try with_reducible rfl))
                  (try simp only [Act.put, List.setIfInBounds_toArray, List.set_cons_zero, List.set_cons_succ])
                  refine wpAnyH_take (i := 14) (oi := ?oc_14) (v := .bool true) ?hc_14 (by kernel_rfl) (by kernel_rfl) (by kernel_rfl) ?qc_14 ?yc_14 (by assumption) ?_
                  case hc_14 => (first | (simp only [List.getElem?_toArray, List.getElem?_cons_zero, List.getElem?_cons_succ]; done) | (simp only [List.getElem?_toArray, List.getElem?_cons_zero, List.getElem?_cons_succ]; exact rfl))
                  case qc_14 => exact fun _ _ _ h => h
                  case yc_14 => (refine Or.inl ⟨rfl, ?_⟩; intro w hSw; (try dsimp only at hSw); go_simp; (try with_reducible rfl))
                  (try simp only [Act.put, List.setIfInBounds_toArray, List.set_cons_zero, List.set_cons_succ])
                  refine wpAnyH_take (i := 15) (oi := ?oc_15) (v := .int .i64 B) ?hc_15 (by kernel_rfl) (by kernel_rfl) (by kernel_rfl) ?qc_15 ?yc_15 (by assumption) ?_
                  case hc_15 => (first | (simp only [List.getElem?_toArray, List.getElem?_cons_zero, List.getElem?_cons_succ]; done) | (simp only [List.getElem?_toArray, List.getElem?_cons_zero, List.getElem?_cons_succ]; exact rfl))
                  case qc_15 => exact fun _ _ _ h => h
                  case yc_15 => (refine Or.inl ⟨rfl, ?_⟩; intro w hSw; (try dsimp only at hSw); go_simp; (try with_reducible rfl))
                  (try simp only [Act.put, List.setIfInBounds_toArray, List.set_cons_zero, List.set_cons_succ])
                  refine wpAnyH_take (i := 16) (oi := ?oc_16) (v := .bool false) ?hc_16 (by kernel_rfl) (by kernel_rfl) (by kernel_rfl) ?qc_16 ?yc_16 (by assumption) ?_
                  case hc_16 => (first | (simp only [List.getElem?_toArray, List.getElem?_cons_zero, List.getElem?_cons_succ]; done) | (simp only [List.getElem?_toArray, List.getElem?_cons_zero, List.getElem?_cons_succ]; exact rfl))
                  case qc_16 => exact fun _ _ _ h => h
                  case yc_16 => (refine Or.inl ⟨rfl, ?_⟩; intro w hSw; (try dsimp only at hSw); go_simp; (try with_reducible rfl))
                  (try simp only [Act.put, List.setIfInBounds_toArray, List.set_cons_zero, List.set_cons_succ])
                  refine wpAnyH_take (i := 17) (oi := ?oc_17) (v := .bool false) ?hc_17 (by kernel_rfl) (by kernel_rfl) (by kernel_rfl) ?qc_17 ?yc_17 (by assumption) ?_
                  case hc_17 => (first | (simp only [List.getElem?_toArray, List.getElem?_cons_zero, List.getElem?_cons_succ]; done) | (simp only [List.getElem?_toArray, List.getElem?_cons_zero, List.getElem?_cons_succ]; exact rfl))
                  case qc_17 => exact fun _ _ _ h => h
                  case yc_17 => (refine Or.inl ⟨rfl, ?_⟩; intro w hSw; (try dsimp only at hSw); go_simp; (try with_reducible rfl))
                  (try simp only [Act.put, List.setIfInBounds_toArray, List.set_cons_zero, List.set_cons_succ])
                  refine wpAnyH_take (i := 18) (oi := ?oc_18) (v := .agg #[.int .i64 c.ca, .int .i64 c.fl, .int .i64 c.ft, .int .i64 c.se, .int .i64 c.dr, .int .i64 c.dw, .int .i64 c.ho, .int .i64 c.re, .int .i64 c.yi, .int .i64 c.qu, .int .i64 c.qo, .int .i64 c.lo, .int .i64 c.sl, .int .i64 c.rt, .int .i64 c.cp, .int .i64 c.tr, .int .i64 c.de, .int .i64 c.wi]) ?hc_18 (by kernel_rfl) (by kernel_rfl) (by kernel_rfl) ?qc_18 ?yc_18 (by assumption) ?_
                  case hc_18 => (first | (simp only [List.getElem?_toArray, List.getElem?_cons_zero, List.getElem?_cons_succ]; done) | (simp only [List.getElem?_toArray, List.getElem?_cons_zero, List.getElem?_cons_succ]; exact rfl))
                  case qc_18 => exact fun _ _ _ h => h
                  case yc_18 => exact Or.inl ⟨rfl, fun w hSw => exec_load_row 23 (.tmp 3) _ hSw.2.2.2.2.2.2.2.2.2.2.2.2.2.2.2.2.2.2.2.2.2.2.2.2.2.2.2.2.2.2.2.1 rfl rfl Try.underlying23 rfl (by kernel_rfl)⟩
                  (try simp only [Act.put, List.setIfInBounds_toArray, List.set_cons_zero, List.set_cons_succ])
                  refine wpAnyH_take (i := 19) (oi := ?oc_19) (v := .slice (some ⟨b, off, none⟩) len cap) ?hc_19 (by kernel_rfl) (by kernel_rfl) (by kernel_rfl) ?qc_19 ?yc_19 (by assumption) ?_
                  case hc_19 => (first | (simp only [List.getElem?_toArray, List.getElem?_cons_zero, List.getElem?_cons_succ]; done) | (simp only [List.getElem?_toArray, List.getElem?_cons_zero, List.getElem?_cons_succ]; exact rfl))
                  case qc_19 => exact fun _ _ _ h => h
                  case yc_19 => (refine Or.inl ⟨rfl, ?_⟩; intro w hSw; (try dsimp only at hSw); go_simp; (try with_reducible rfl))
                  (try simp only [Act.put, List.setIfInBounds_toArray, List.set_cons_zero, List.set_cons_succ])
                  refine wpAnyH_take (i := 20) (oi := ?oc_20) (v := .int .i64 k) ?hc_20 (by kernel_rfl) (by kernel_rfl) (by kernel_rfl) ?qc_20 ?yc_20 (by assumption) ?_
                  case hc_20 => (first | (simp only [List.getElem?_toArray, List.getElem?_cons_zero, List.getElem?_cons_succ]; done) | (simp only [List.getElem?_toArray, List.getElem?_cons_zero, List.getElem?_cons_succ]; exact rfl))
                  case qc_20 => exact fun _ _ _ h => h
                  case yc_20 => (refine Or.inl ⟨rfl, ?_⟩; intro w hSw; (try dsimp only at hSw); go_simp; (try with_reducible rfl))
                  (try simp only [Act.put, List.setIfInBounds_toArray, List.set_cons_zero, List.set_cons_succ])
                  refine wpAnyH_take (i := 21) (oi := ?oc_21) (v := .pointer (some ⟨b, off + k * 15, none⟩)) ?hc_21 (by kernel_rfl) (by kernel_rfl) (by kernel_rfl) ?qc_21 ?yc_21 (by assumption) ?_
                  case hc_21 => (first | (simp only [List.getElem?_toArray, List.getElem?_cons_zero, List.getElem?_cons_succ]; done) | (simp only [List.getElem?_toArray, List.getElem?_cons_zero, List.getElem?_cons_succ]; exact rfl))
                  case qc_21 => exact fun _ _ _ h => h
                  case yc_21 => (refine Or.inl ⟨rfl, ?_⟩; intro w hSw; (try dsimp only at hSw); go_simp; (try with_reducible rfl))
                  (try simp only [Act.put, List.setIfInBounds_toArray, List.set_cons_zero, List.set_cons_succ])
                  refine wpAnyH_take (i := 22) (oi := ?oc_22) (v := .agg #[.int .i64 (cs k).ds, .int .i64 (cs k).da, .int .i64 (cs k).un, .int .i64 (cs k).wy, .int .i64 (cs k).ti, .int .i64 (cs k).ju, .int .i64 (cs k).lo, .bool (cs k).bl, .bool false, .int .i64 (cs k).mo, .int .i64 (cs k).ta, .bool (cs k).ho, .int .u64 (cs k).sp, .int .u64 (cs k).su, .int .u64 (cs k).sd]) ?hc_22 (by kernel_rfl) (by kernel_rfl) (by kernel_rfl) ?qc_22 ?yc_22 (by assumption) ?_
                  case hc_22 => (first | (simp only [List.getElem?_toArray, List.getElem?_cons_zero, List.getElem?_cons_succ]; done) | (simp only [List.getElem?_toArray, List.getElem?_cons_zero, List.getElem?_cons_succ]; exact rfl))
                  case qc_22 => exact fun _ _ _ h => h
                  case yc_22 => (refine Or.inl ⟨rfl, ?_⟩; intro w hSw; (try dsimp only at hSw); go_simp; (try with_reducible rfl))
                  (try simp only [Act.put, List.setIfInBounds_toArray, List.set_cons_zero, List.set_cons_succ])
                  refine wpAnyH_take (i := 23) (oi := ?oc_23) (v := .agg #[.int .i64 f, .int .i64 cw]) ?hc_23 (by kernel_rfl) (by kernel_rfl) (by kernel_rfl) ?qc_23 ?yc_23 (by assumption) ?_
                  case hc_23 => (first | (simp only [List.getElem?_toArray, List.getElem?_cons_zero, List.getElem?_cons_succ]; done) | (simp only [List.getElem?_toArray, List.getElem?_cons_zero, List.getElem?_cons_succ]; exact rfl))
                  case qc_23 => exact fun _ _ _ h => h
                  case yc_23 => exact Or.inl ⟨rfl, fun w hSw => exec_load_row 50 (.tmp 5) _ hSw.2.2.2.2.2.2.2.2.2.2.2.2.2.2.2.2.2.2.2.2.2.2.2.2.2.2.2.2.2.2.2.2 rfl rfl Try.underlying50 rfl (by kernel_rfl)⟩
                  (try simp only [Act.put, List.setIfInBounds_toArray, List.set_cons_zero, List.set_cons_succ])
                  refine wpAnyH_take (i := 25) (oi := ?oc_25) (v := .agg #[.int .i64 c.ca, .int .i64 c.fl, .int .i64 c.ft, .int .i64 c.se, .int .i64 c.dr, .int .i64 c.dw, .int .i64 c.ho, .int .i64 c.re, .int .i64 c.yi, .int .i64 c.qu, .int .i64 c.qo, .int .i64 c.lo, .int .i64 c.sl, .int .i64 c.rt, .int .i64 c.cp, .int .i64 c.tr, .int .i64 c.de, .int .i64 c.wi]) ?hc_25 (by kernel_rfl) (by kernel_rfl) (by kernel_rfl) ?qc_25 ?yc_25 (by assumption) ?_
                  case hc_25 => (first | (simp only [List.getElem?_toArray, List.getElem?_cons_zero, List.getElem?_cons_succ]; done) | (simp only [List.getElem?_toArray, List.getElem?_cons_zero, List.getElem?_cons_succ]; exact rfl))
                  case qc_25 => exact fun _ _ _ h => h
                  case yc_25 => exact Or.inl ⟨rfl, fun w hSw => exec_load_row 23 (.tmp 3) _ hSw.2.2.2.2.2.2.2.2.2.2.2.2.2.2.2.2.2.2.2.2.2.2.2.2.2.2.2.2.2.2.2.1 rfl rfl Try.underlying23 rfl (by kernel_rfl)⟩
                  (try simp only [Act.put, List.setIfInBounds_toArray, List.set_cons_zero, List.set_cons_succ])
                  refine wpAnyH_take (i := 26) (oi := ?oc_26) (v := .slice (some ⟨b, off, none⟩) len cap) ?hc_26 (by kernel_rfl) (by kernel_rfl) (by kernel_rfl) ?qc_26 ?yc_26 (by assumption) ?_
                  case hc_26 => (first | (simp only [List.getElem?_toArray, List.getElem?_cons_zero, List.getElem?_cons_succ]; done) | (simp only [List.getElem?_toArray, List.getElem?_cons_zero, List.getElem?_cons_succ]; exact rfl))
                  case qc_26 => exact fun _ _ _ h => h
                  case yc_26 => (refine Or.inl ⟨rfl, ?_⟩; intro w hSw; (try dsimp only at hSw); go_simp; (try with_reducible rfl))
                  (try simp only [Act.put, List.setIfInBounds_toArray, List.set_cons_zero, List.set_cons_succ])
                  refine wpAnyH_take (i := 27) (oi := ?oc_27) (v := .int .i64 B) ?hc_27 (by kernel_rfl) (by kernel_rfl) (by kernel_rfl) ?qc_27 ?yc_27 (by assumption) ?_
                  case hc_27 => (first | (simp only [List.getElem?_toArray, List.getElem?_cons_zero, List.getElem?_cons_succ]; done) | (simp only [List.getElem?_toArray, List.getElem?_cons_zero, List.getElem?_cons_succ]; exact rfl))
                  case qc_27 => exact fun _ _ _ h => h
                  case yc_27 => (refine Or.inl ⟨rfl, ?_⟩; intro w hSw; (try dsimp only at hSw); go_simp; (try with_reducible rfl))
                  (try simp only [Act.put, List.setIfInBounds_toArray, List.set_cons_zero, List.set_cons_succ])
                  refine wpAnyH_take (i := 28) (oi := ?oc_28) (v := .pointer (some ⟨b, off + q * 15, none⟩)) ?hc_28 (by kernel_rfl) (by kernel_rfl) (by kernel_rfl) ?qc_28 ?yc_28 (by assumption) ?_
                  case hc_28 => (first | (simp only [List.getElem?_toArray, List.getElem?_cons_zero, List.getElem?_cons_succ]; done) | (simp only [List.getElem?_toArray, List.getElem?_cons_zero, List.getElem?_cons_succ]; exact rfl))
                  case qc_28 => exact fun _ _ _ h => h
                  case yc_28 => (refine Or.inl ⟨rfl, ?_⟩; intro w hSw; (try dsimp only at hSw); go_simp; (try with_reducible rfl))
                  (try simp only [Act.put, List.setIfInBounds_toArray, List.set_cons_zero, List.set_cons_succ])
                  refine wpAnyH_take (i := 29) (oi := ?oc_29) (v := .agg #[.int .i64 (cs q).ds, .int .i64 (cs q).da, .int .i64 (cs q).un, .int .i64 (cs q).wy, .int .i64 (cs q).ti, .int .i64 (cs q).ju, .int .i64 (cs q).lo, .bool (cs q).bl, .bool (cs q).br, .int .i64 (cs q).mo, .int .i64 (cs q).ta, .bool (cs q).ho, .int .u64 (cs q).sp, .int .u64 (cs q).su, .int .u64 (cs q).sd]) ?hc_29 (by kernel_rfl) (by kernel_rfl) (by kernel_rfl) ?qc_29 ?yc_29 (by assumption) ?_
                  case hc_29 => (first | (simp only [List.getElem?_toArray, List.getElem?_cons_zero, List.getElem?_cons_succ]; done) | (simp only [List.getElem?_toArray, List.getElem?_cons_zero, List.getElem?_cons_succ]; exact rfl))
                  case qc_29 => exact fun _ _ _ h => h
                  case yc_29 => (refine Or.inl ⟨rfl, ?_⟩; intro w hSw; (try dsimp only at hSw); go_simp; (try with_reducible rfl))
                  (try simp only [Act.put, List.setIfInBounds_toArray, List.set_cons_zero, List.set_cons_succ])
                  refine wpAnyH_take (i := 30) (oi := ?oc_30) (v := .agg #[.int .i64 f, .int .i64 cw]) ?hc_30 (by kernel_rfl) (by kernel_rfl) (by kernel_rfl) ?qc_30 ?yc_30 (by assumption) ?_
                  case hc_30 => (first | (simp only [List.getElem?_toArray, List.getElem?_cons_zero, List.getElem?_cons_succ]; done) | (simp only [List.getElem?_toArray, List.getElem?_cons_zero, List.getElem?_cons_succ]; exact rfl))
                  case qc_30 => exact fun _ _ _ h => h
                  case yc_30 => exact Or.inl ⟨rfl, fun w hSw => exec_load_row 50 (.tmp 5) _ hSw.2.2.2.2.2.2.2.2.2.2.2.2.2.2.2.2.2.2.2.2.2.2.2.2.2.2.2.2.2.2.2.2 rfl rfl Try.underlying50 rfl (by kernel_rfl)⟩
                  (try simp only [Act.put, List.setIfInBounds_toArray, List.set_cons_zero, List.set_cons_succ])
                  refine wpAnyH_ready (rs := [24]) (by kernel_rfl) (by simp) ?_
                  refine AllReadyH.cons (o := ?oc_24) ?hc_24 (fun K hK => ?_) AllReadyH.nil
                  case hc_24 => (first | (simp only [List.getElem?_toArray, List.getElem?_cons_zero, List.getElem?_cons_succ]; done) | (simp only [List.getElem?_toArray, List.getElem?_cons_zero, List.getElem?_cons_succ]; exact rfl))
                  (try go_simp)
                  (go_at_call 43; refine (HCR.out _).mono ?_; rintro e w9 ⟨rfl, hb9⟩)
                  (try go_wp2_with fail)
                  refine hK.out _ _ ?_ (fun hHeld2 => ?_)
                  · first | exact HRD.out | exact hHeld | (apply HRK.out; assumption; assumption)
                  clear hK K hHeld
                  have hHeld := hHeld2
                  clear hHeld2
                  (try simp only [Act.put, List.setIfInBounds_toArray, List.set_cons_zero, List.set_cons_succ])
                  refine wpAnyH_ready (rs := [31]) (by kernel_rfl) (by simp) ?_
                  refine AllReadyH.cons (o := ?oc_31) ?hc_31 (fun K hK => ?_) AllReadyH.nil
                  case hc_31 => (first | (simp only [List.getElem?_toArray, List.getElem?_cons_zero, List.getElem?_cons_succ]; done) | (simp only [List.getElem?_toArray, List.getElem?_cons_zero, List.getElem?_cons_succ]; exact rfl))
                  (try go_simp)
                  (go_at_call 43; refine (HCQ.out _).mono ?_; rintro e w9 ⟨rfl, hb9⟩)
                  (try go_wp2_with fail)
                  refine hK.out _ _ ?_ (fun hHeld2 => ?_)
                  · first | exact HRD.out | exact hHeld | (apply HRK.out; assumption; assumption)
                  clear hK K hHeld
                  have hHeld := hHeld2
                  clear hHeld2
                  (try simp only [Act.put, List.setIfInBounds_toArray, List.set_cons_zero, List.set_cons_succ])
                  refine wpAnyH_take (i := 32) (oi := ?oc_32) (v := .bool false) ?hc_32 (by kernel_rfl) (by kernel_rfl) (by kernel_rfl) ?qc_32 ?yc_32 (by assumption) ?_
                  case hc_32 => (first | (simp only [List.getElem?_toArray, List.getElem?_cons_zero, List.getElem?_cons_succ]; done) | (simp only [List.getElem?_toArray, List.getElem?_cons_zero, List.getElem?_cons_succ]; exact rfl))
                  case qc_32 => exact fun _ _ _ h => h
                  case yc_32 => (refine Or.inl ⟨rfl, ?_⟩; intro w hSw; (try dsimp only at hSw); go_simp; (try with_reducible rfl))
                  (try simp only [Act.put, List.setIfInBounds_toArray, List.set_cons_zero, List.set_cons_succ])
                  refine wpAnyH_take (i := 33) (oi := ?oc_33) (v := .bool false) ?hc_33 (by kernel_rfl) (by kernel_rfl) (by kernel_rfl) ?qc_33 ?yc_33 (by assumption) ?_
                  case hc_33 => (first | (simp only [List.getElem?_toArray, List.getElem?_cons_zero, List.getElem?_cons_succ]; done) | (simp only [List.getElem?_toArray, List.getElem?_cons_zero, List.getElem?_cons_succ]; exact rfl))
                  case qc_33 => exact fun _ _ _ h => h
                  case yc_33 => (refine Or.inl ⟨rfl, ?_⟩; intro w hSw; (try dsimp only at hSw); go_simp; (try with_reducible rfl))
                  (try simp only [Act.put, List.setIfInBounds_toArray, List.set_cons_zero, List.set_cons_succ])
                  refine wpAnyH_take (i := 34) (oi := ?oc_34) (v := .bool false) ?hc_34 (by kernel_rfl) (by kernel_rfl) (by kernel_rfl) ?qc_34 ?yc_34 (by assumption) ?_
                  case hc_34 => (first | (simp only [List.getElem?_toArray, List.getElem?_cons_zero, List.getElem?_cons_succ]; done) | (simp only [List.getElem?_toArray, List.getElem?_cons_zero, List.getElem?_cons_succ]; exact rfl))
                  case qc_34 => exact fun _ _ _ h => h
                  case yc_34 => (refine Or.inl ⟨rfl, ?_⟩; intro w hSw; (try dsimp only at hSw); go_simp; (try with_reducible rfl))
                  (try simp only [Act.put, List.setIfInBounds_toArray, List.set_cons_zero, List.set_cons_succ])
                  refine wpAnyH_done (by kernel_rfl) ?_ _
                  obtain ⟨hs2, _⟩ := hHeld
                  have HS2 := Lib.hid hs2
                  clear hs2 HRK HRD
                  go_wp2_with fail
                  go_roundw
                  case rel => exact ⟨k + 1, by have := HJ.out; omega, by go_num, (q : Int), rfl, Lib.hid ⟨HN.out, HIK.out, HS8.out.trans HS2.out, keep_blk HS2.out HBC8.out, keep_blk HS2.out HBL8.out⟩⟩
                  case measure => have := HJ.out; simp [intOf]; omega
            · rw [hbr] at l8
              have HN := Lib.hid (show B = (bl c f cw cs (k + 1)).1 by rw [bl, if_neg (by intro h; rw [hbr] at h; exact absurd h.1.2 (by decide))]; exact HB.out)
              clear hbr
              have hrK : ∀ W W' : World, Since W W' → (Since w8 W ∧ W.cell? ⟨b, off + k * 15, none⟩ = some (.int .i64 (cs k).ds) ∧ W.cell? ⟨b, off + k * 15 + 1, none⟩ = some (.int .i64 (cs k).da) ∧ W.cell? ⟨b, off + k * 15 + 2, none⟩ = some (.int .i64 (cs k).un) ∧ W.cell? ⟨b, off + k * 15 + 3, none⟩ = some (.int .i64 (cs k).wy) ∧ W.cell? ⟨b, off + k * 15 + 4, none⟩ = some (.int .i64 (cs k).ti) ∧ W.cell? ⟨b, off + k * 15 + 5, none⟩ = some (.int .i64 (cs k).ju) ∧ W.cell? ⟨b, off + k * 15 + 6, none⟩ = some (.int .i64 (cs k).lo) ∧ W.cell? ⟨b, off + k * 15 + 7, none⟩ = some (.bool (cs k).bl) ∧ W.cell? ⟨b, off + k * 15 + 8, none⟩ = some (.bool true) ∧ W.cell? ⟨b, off + k * 15 + 9, none⟩ = some (.int .i64 (cs k).mo) ∧ W.cell? ⟨b, off + k * 15 + 10, none⟩ = some (.int .i64 (cs k).ta) ∧ W.cell? ⟨b, off + k * 15 + 11, none⟩ = some (.bool (cs k).ho) ∧ W.cell? ⟨b, off + k * 15 + 12, none⟩ = some (.int .u64 (cs k).sp) ∧ W.cell? ⟨b, off + k * 15 + 13, none⟩ = some (.int .u64 (cs k).su) ∧ W.cell? ⟨b, off + k * 15 + 14, none⟩ = some (.int .u64 (cs k).sd) ∧ Blk W (w.heap.size) 23 #[.int .i64 c.ca, .int .i64 c.fl, .int .i64 c.ft, .int .i64 c.se, .int .i64 c.dr, .int .i64 c.dw, .int .i64 c.ho, .int .i64 c.re, .int .i64 c.yi, .int .i64 c.qu, .int .i64 c.qo, .int .i64 c.lo, .int .i64 c.sl, .int .i64 c.rt, .int .i64 c.cp, .int .i64 c.tr, .int .i64 c.de, .int .i64 c.wi] ∧ Blk W (w.heap.size + 1) 50 #[.int .i64 f, .int .i64 cw]) → (Since w8 W' ∧ W'.cell? ⟨b, off + k * 15, none⟩ = some (.int .i64 (cs k).ds) ∧ W'.cell? ⟨b, off + k * 15 + 1, none⟩ = some (.int .i64 (cs k).da) ∧ W'.cell? ⟨b, off + k * 15 + 2, none⟩ = some (.int .i64 (cs k).un) ∧ W'.cell? ⟨b, off + k * 15 + 3, none⟩ = some (.int .i64 (cs k).wy) ∧ W'.cell? ⟨b, off + k * 15 + 4, none⟩ = some (.int .i64 (cs k).ti) ∧ W'.cell? ⟨b, off + k * 15 + 5, none⟩ = some (.int .i64 (cs k).ju) ∧ W'.cell? ⟨b, off + k * 15 + 6, none⟩ = some (.int .i64 (cs k).lo) ∧ W'.cell? ⟨b, off + k * 15 + 7, none⟩ = some (.bool (cs k).bl) ∧ W'.cell? ⟨b, off + k * 15 + 8, none⟩ = some (.bool true) ∧ W'.cell? ⟨b, off + k * 15 + 9, none⟩ = some (.int .i64 (cs k).mo) ∧ W'.cell? ⟨b, off + k * 15 + 10, none⟩ = some (.int .i64 (cs k).ta) ∧ W'.cell? ⟨b, off + k * 15 + 11, none⟩ = some (.bool (cs k).ho) ∧ W'.cell? ⟨b, off + k * 15 + 12, none⟩ = some (.int .u64 (cs k).sp) ∧ W'.cell? ⟨b, off + k * 15 + 13, none⟩ = some (.int .u64 (cs k).su) ∧ W'.cell? ⟨b, off + k * 15 + 14, none⟩ = some (.int .u64 (cs k).sd) ∧ Blk W' (w.heap.size) 23 #[.int .i64 c.ca, .int .i64 c.fl, .int .i64 c.ft, .int .i64 c.se, .int .i64 c.dr, .int .i64 c.dw, .int .i64 c.ho, .int .i64 c.re, .int .i64 c.yi, .int .i64 c.qu, .int .i64 c.qo, .int .i64 c.lo, .int .i64 c.sl, .int .i64 c.rt, .int .i64 c.cp, .int .i64 c.tr, .int .i64 c.de, .int .i64 c.wi] ∧ Blk W' (w.heap.size + 1) 50 #[.int .i64 f, .int .i64 cw]) := fun W W' k ⟨h, h0, h1, h2, h3, h4, h5, h6, h7, h8, h9, h10, h11, h12, h13, h14, h15, h16⟩ => ⟨h.trans k, keep_cell k h0, keep_cell k h1, keep_cell k h2, keep_cell k h3, keep_cell k h4, keep_cell k h5, keep_cell k h6, keep_cell k h7, keep_cell k h8, keep_cell k h9, keep_cell k h10, keep_cell k h11, keep_cell k h12, keep_cell k h13, keep_cell k h14, keep_blk k h15, keep_blk k h16⟩
              have hrS : (fun W : World => Since w8 W ∧ W.cell? ⟨b, off + k * 15, none⟩ = some (.int .i64 (cs k).ds) ∧ W.cell? ⟨b, off + k * 15 + 1, none⟩ = some (.int .i64 (cs k).da) ∧ W.cell? ⟨b, off + k * 15 + 2, none⟩ = some (.int .i64 (cs k).un) ∧ W.cell? ⟨b, off + k * 15 + 3, none⟩ = some (.int .i64 (cs k).wy) ∧ W.cell? ⟨b, off + k * 15 + 4, none⟩ = some (.int .i64 (cs k).ti) ∧ W.cell? ⟨b, off + k * 15 + 5, none⟩ = some (.int .i64 (cs k).ju) ∧ W.cell? ⟨b, off + k * 15 + 6, none⟩ = some (.int .i64 (cs k).lo) ∧ W.cell? ⟨b, off + k * 15 + 7, none⟩ = some (.bool (cs k).bl) ∧ W.cell? ⟨b, off + k * 15 + 8, none⟩ = some (.bool true) ∧ W.cell? ⟨b, off + k * 15 + 9, none⟩ = some (.int .i64 (cs k).mo) ∧ W.cell? ⟨b, off + k * 15 + 10, none⟩ = some (.int .i64 (cs k).ta) ∧ W.cell? ⟨b, off + k * 15 + 11, none⟩ = some (.bool (cs k).ho) ∧ W.cell? ⟨b, off + k * 15 + 12, none⟩ = some (.int .u64 (cs k).sp) ∧ W.cell? ⟨b, off + k * 15 + 13, none⟩ = some (.int .u64 (cs k).su) ∧ W.cell? ⟨b, off + k * 15 + 14, none⟩ = some (.int .u64 (cs k).sd) ∧ Blk W (w.heap.size) 23 #[.int .i64 c.ca, .int .i64 c.fl, .int .i64 c.ft, .int .i64 c.se, .int .i64 c.dr, .int .i64 c.dw, .int .i64 c.ho, .int .i64 c.re, .int .i64 c.yi, .int .i64 c.qu, .int .i64 c.qo, .int .i64 c.lo, .int .i64 c.sl, .int .i64 c.rt, .int .i64 c.cp, .int .i64 c.tr, .int .i64 c.de, .int .i64 c.wi] ∧ Blk W (w.heap.size + 1) 50 #[.int .i64 f, .int .i64 cw]) (w8) := ⟨Since.refl _, by first | assumption | (simp; done), by first | assumption | (simp; done), by first | assumption | (simp; done), by first | assumption | (simp; done), by first | assumption | (simp; done), by first | assumption | (simp; done), by first | assumption | (simp; done), by first | assumption | (simp; done), by first | assumption | (simp; done), by first | assumption | (simp; done), by first | assumption | (simp; done), by first | assumption | (simp; done), by first | assumption | (simp; done), by first | assumption | (simp; done), by first | assumption | (simp; done), by first | assumption | (simp; done), by first | assumption | (simp; done)⟩
              have HRK := Lib.hid hrK
              have HRD := Lib.hid (show (fun W : World => Since w8 W ∧ W.cell? ⟨b, off + k * 15, none⟩ = some (.int .i64 (cs k).ds) ∧ W.cell? ⟨b, off + k * 15 + 1, none⟩ = some (.int .i64 (cs k).da) ∧ W.cell? ⟨b, off + k * 15 + 2, none⟩ = some (.int .i64 (cs k).un) ∧ W.cell? ⟨b, off + k * 15 + 3, none⟩ = some (.int .i64 (cs k).wy) ∧ W.cell? ⟨b, off + k * 15 + 4, none⟩ = some (.int .i64 (cs k).ti) ∧ W.cell? ⟨b, off + k * 15 + 5, none⟩ = some (.int .i64 (cs k).ju) ∧ W.cell? ⟨b, off + k * 15 + 6, none⟩ = some (.int .i64 (cs k).lo) ∧ W.cell? ⟨b, off + k * 15 + 7, none⟩ = some (.bool (cs k).bl) ∧ W.cell? ⟨b, off + k * 15 + 8, none⟩ = some (.bool true) ∧ W.cell? ⟨b, off + k * 15 + 9, none⟩ = some (.int .i64 (cs k).mo) ∧ W.cell? ⟨b, off + k * 15 + 10, none⟩ = some (.int .i64 (cs k).ta) ∧ W.cell? ⟨b, off + k * 15 + 11, none⟩ = some (.bool (cs k).ho) ∧ W.cell? ⟨b, off + k * 15 + 12, none⟩ = some (.int .u64 (cs k).sp) ∧ W.cell? ⟨b, off + k * 15 + 13, none⟩ = some (.int .u64 (cs k).su) ∧ W.cell? ⟨b, off + k * 15 + 14, none⟩ = some (.int .u64 (cs k).sd) ∧ Blk W (w.heap.size) 23 #[.int .i64 c.ca, .int .i64 c.fl, .int .i64 c.ft, .int .i64 c.se, .int .i64 c.dr, .int .i64 c.dw, .int .i64 c.ho, .int .i64 c.re, .int .i64 c.yi, .int .i64 c.qu, .int .i64 c.qo, .int .i64 c.lo, .int .i64 c.sl, .int .i64 c.rt, .int .i64 c.cp, .int .i64 c.tr, .int .i64 c.de, .int .i64 c.wi] ∧ Blk W (w.heap.size + 1) 50 #[.int .i64 f, .int .i64 cw]) (World.drew (w8)) from ⟨(Since.refl _).drew, hrS.2⟩)
              clear hrK hrS
              refine wp_region_held_drew (S := fun W : World => Since w8 W ∧ W.cell? ⟨b, off + k * 15, none⟩ = some (.int .i64 (cs k).ds) ∧ W.cell? ⟨b, off + k * 15 + 1, none⟩ = some (.int .i64 (cs k).da) ∧ W.cell? ⟨b, off + k * 15 + 2, none⟩ = some (.int .i64 (cs k).un) ∧ W.cell? ⟨b, off + k * 15 + 3, none⟩ = some (.int .i64 (cs k).wy) ∧ W.cell? ⟨b, off + k * 15 + 4, none⟩ = some (.int .i64 (cs k).ti) ∧ W.cell? ⟨b, off + k * 15 + 5, none⟩ = some (.int .i64 (cs k).ju) ∧ W.cell? ⟨b, off + k * 15 + 6, none⟩ = some (.int .i64 (cs k).lo) ∧ W.cell? ⟨b, off + k * 15 + 7, none⟩ = some (.bool (cs k).bl) ∧ W.cell? ⟨b, off + k * 15 + 8, none⟩ = some (.bool true) ∧ W.cell? ⟨b, off + k * 15 + 9, none⟩ = some (.int .i64 (cs k).mo) ∧ W.cell? ⟨b, off + k * 15 + 10, none⟩ = some (.int .i64 (cs k).ta) ∧ W.cell? ⟨b, off + k * 15 + 11, none⟩ = some (.bool (cs k).ho) ∧ W.cell? ⟨b, off + k * 15 + 12, none⟩ = some (.int .u64 (cs k).sp) ∧ W.cell? ⟨b, off + k * 15 + 13, none⟩ = some (.int .u64 (cs k).su) ∧ W.cell? ⟨b, off + k * 15 + 14, none⟩ = some (.int .u64 (cs k).sd) ∧ Blk W (w.heap.size) 23 #[.int .i64 c.ca, .int .i64 c.fl, .int .i64 c.ft, .int .i64 c.se, .int .i64 c.dr, .int .i64 c.dw, .int .i64 c.ho, .int .i64 c.re, .int .i64 c.yi, .int .i64 c.qu, .int .i64 c.qo, .int .i64 c.lo, .int .i64 c.sl, .int .i64 c.rt, .int .i64 c.cp, .int .i64 c.tr, .int .i64 c.de, .int .i64 c.wi] ∧ Blk W (w.heap.size + 1) 50 #[.int .i64 f, .int .i64 cw]) (by kernel_rfl) HRD.out (fun hHeld => ?_)
              refine wpAnyH_take (i := 0) (oi := ?oc_0) (v := .slice (some ⟨b, off, none⟩) len cap) ?hc_0 (by kernel_rfl) (by kernel_rfl) (by kernel_rfl) ?qc_0 ?yc_0 (by assumption) ?_
              case hc_0 => (first | (simp only [List.getElem?_toArray, List.getElem?_cons_zero, List.getElem?_cons_succ]; done) | (simp only [List.getElem?_toArray, List.getElem?_cons_zero, List.getElem?_cons_succ]; exact rfl))
              case qc_0 => exact fun _ _ _ h => h
              case yc_0 => (refine Or.inl ⟨rfl, ?_⟩; intro w hSw; (try dsimp only at hSw); go_simp; (try with_reducible rfl))
              (try simp only [Act.put, List.setIfInBounds_toArray, List.set_cons_zero, List.set_cons_succ])
              refine wpAnyH_take (i := 1) (oi := ?oc_1) (v := .int .i64 k) ?hc_1 (by kernel_rfl) (by kernel_rfl) (by kernel_rfl) ?qc_1 ?yc_1 (by assumption) ?_
              case hc_1 => (first | (simp only [List.getElem?_toArray, List.getElem?_cons_zero, List.getElem?_cons_succ]; done) | (simp only [List.getElem?_toArray, List.getElem?_cons_zero, List.getElem?_cons_succ]; exact rfl))
              case qc_1 => exact fun _ _ _ h => h
              case yc_1 => (refine Or.inl ⟨rfl, ?_⟩; intro w hSw; (try dsimp only at hSw); go_simp; (try with_reducible rfl))
              (try simp only [Act.put, List.setIfInBounds_toArray, List.set_cons_zero, List.set_cons_succ])
              refine wpAnyH_take (i := 2) (oi := ?oc_2) (v := .pointer (some ⟨b, off + k * 15, none⟩)) ?hc_2 (by kernel_rfl) (by kernel_rfl) (by kernel_rfl) ?qc_2 ?yc_2 (by assumption) ?_
              case hc_2 => (first | (simp only [List.getElem?_toArray, List.getElem?_cons_zero, List.getElem?_cons_succ]; done) | (simp only [List.getElem?_toArray, List.getElem?_cons_zero, List.getElem?_cons_succ]; exact rfl))
              case qc_2 => exact fun _ _ _ h => h
              case yc_2 => (refine Or.inl ⟨rfl, ?_⟩; intro w hSw; (try dsimp only at hSw); go_simp; (try with_reducible rfl))
              (try simp only [Act.put, List.setIfInBounds_toArray, List.set_cons_zero, List.set_cons_succ])
              refine wpAnyH_take (i := 3) (oi := ?oc_3) (v := ?vc_3) ?hc_3 (by kernel_rfl) (by kernel_rfl) (by kernel_rfl) ?qc_3 ?yc_3 (by assumption) ?_
              case hc_3 => (first | (simp only [List.getElem?_toArray, List.getElem?_cons_zero, List.getElem?_cons_succ]; done) | (simp only [List.getElem?_toArray, List.getElem?_cons_zero, List.getElem?_cons_succ]; exact rfl))
              case qc_3 => exact fun _ _ _ h => h
              case yc_3 => (refine Or.inl ⟨rfl, ?_⟩; intro w hSw; (try dsimp only at hSw); go_simp; (try with_reducible rfl))
              (try simp only [Act.put, List.setIfInBounds_toArray, List.set_cons_zero, List.set_cons_succ])
              refine wpAnyH_take (i := 4) (oi := ?oc_4) (v := .int .i64 (cs k).mo) ?hc_4 (by kernel_rfl) (by kernel_rfl) (by kernel_rfl) ?qc_4 ?yc_4 (by assumption) ?_
              case hc_4 => (first | (simp only [List.getElem?_toArray, List.getElem?_cons_zero, List.getElem?_cons_succ]; done) | (simp only [List.getElem?_toArray, List.getElem?_cons_zero, List.getElem?_cons_succ]; exact rfl))
              case qc_4 => exact fun _ _ _ h => h
              case yc_4 => (refine Or.inl ⟨rfl, ?_⟩; intro w hSw; (try dsimp only at hSw); go_simp; (try with_reducible rfl))
              (try simp only [Act.put, List.setIfInBounds_toArray, List.set_cons_zero, List.set_cons_succ])
              refine wpAnyH_take (i := 5) (oi := ?oc_5) (v := .bool true) ?hc_5 (by kernel_rfl) (by kernel_rfl) (by kernel_rfl) ?qc_5 ?yc_5 (by assumption) ?_
              case hc_5 => (first | (simp only [List.getElem?_toArray, List.getElem?_cons_zero, List.getElem?_cons_succ]; done) | (simp only [List.getElem?_toArray, List.getElem?_cons_zero, List.getElem?_cons_succ]; exact rfl))
              case qc_5 => exact fun _ _ _ h => h
              case yc_5 => (refine Or.inl ⟨rfl, ?_⟩; intro w hSw; (try dsimp only at hSw); go_simp; (try with_reducible rfl))
              (try simp only [Act.put, List.setIfInBounds_toArray, List.set_cons_zero, List.set_cons_succ])
              refine wpAnyH_take (i := 6) (oi := ?oc_6) (v := .bool true) ?hc_6 (by kernel_rfl) (by kernel_rfl) (by kernel_rfl) ?qc_6 ?yc_6 (by assumption) ?_
              case hc_6 => (first | (simp only [List.getElem?_toArray, List.getElem?_cons_zero, List.getElem?_cons_succ]; done) | (simp only [List.getElem?_toArray, List.getElem?_cons_zero, List.getElem?_cons_succ]; exact rfl))
              case qc_6 => exact fun _ _ _ h => h
              case yc_6 => (refine Or.inl ⟨rfl, ?_⟩; intro w hSw; (try dsimp only at hSw); go_simp; (try with_reducible rfl))
              (try simp only [Act.put, List.setIfInBounds_toArray, List.set_cons_zero, List.set_cons_succ])
              refine wpAnyH_take (i := 7) (oi := ?oc_7) (v := .slice (some ⟨b, off, none⟩) len cap) ?hc_7 (by kernel_rfl) (by kernel_rfl) (by kernel_rfl) ?qc_7 ?yc_7 (by assumption) ?_
              case hc_7 => (first | (simp only [List.getElem?_toArray, List.getElem?_cons_zero, List.getElem?_cons_succ]; done) | (simp only [List.getElem?_toArray, List.getElem?_cons_zero, List.getElem?_cons_succ]; exact rfl))
              case qc_7 => exact fun _ _ _ h => h
              case yc_7 => (refine Or.inl ⟨rfl, ?_⟩; intro w hSw; (try dsimp only at hSw); go_simp; (try with_reducible rfl))
              (try simp only [Act.put, List.setIfInBounds_toArray, List.set_cons_zero, List.set_cons_succ])
              refine wpAnyH_take (i := 8) (oi := ?oc_8) (v := .int .i64 k) ?hc_8 (by kernel_rfl) (by kernel_rfl) (by kernel_rfl) ?qc_8 ?yc_8 (by assumption) ?_
              case hc_8 => (first | (simp only [List.getElem?_toArray, List.getElem?_cons_zero, List.getElem?_cons_succ]; done) | (simp only [List.getElem?_toArray, List.getElem?_cons_zero, List.getElem?_cons_succ]; exact rfl))
              case qc_8 => exact fun _ _ _ h => h
              case yc_8 => (refine Or.inl ⟨rfl, ?_⟩; intro w hSw; (try dsimp only at hSw); go_simp; (try with_reducible rfl))
              (try simp only [Act.put, List.setIfInBounds_toArray, List.set_cons_zero, List.set_cons_succ])
              refine wpAnyH_take (i := 9) (oi := ?oc_9) (v := .pointer (some ⟨b, off + k * 15, none⟩)) ?hc_9 (by kernel_rfl) (by kernel_rfl) (by kernel_rfl) ?qc_9 ?yc_9 (by assumption) ?_
              case hc_9 => (first | (simp only [List.getElem?_toArray, List.getElem?_cons_zero, List.getElem?_cons_succ]; done) | (simp only [List.getElem?_toArray, List.getElem?_cons_zero, List.getElem?_cons_succ]; exact rfl))
              case qc_9 => exact fun _ _ _ h => h
              case yc_9 => (refine Or.inl ⟨rfl, ?_⟩; intro w hSw; (try dsimp only at hSw); go_simp; (try with_reducible rfl))
              (try simp only [Act.put, List.setIfInBounds_toArray, List.set_cons_zero, List.set_cons_succ])
              refine wpAnyH_take (i := 10) (oi := ?oc_10) (v := ?vc_10) ?hc_10 (by kernel_rfl) (by kernel_rfl) (by kernel_rfl) ?qc_10 ?yc_10 (by assumption) ?_
              case hc_10 => (first | (simp only [List.getElem?_toArray, List.getElem?_cons_zero, List.getElem?_cons_succ]; done) | (simp only [List.getElem?_toArray, List.getElem?_cons_zero, List.getElem?_cons_succ]; exact rfl))
              case qc_10 => exact fun _ _ _ h => h
              case yc_10 => (refine Or.inl ⟨rfl, ?_⟩; intro w hSw; (try dsimp only at hSw); go_simp; (try with_reducible rfl))
              (try simp only [Act.put, List.setIfInBounds_toArray, List.set_cons_zero, List.set_cons_succ])
              refine wpAnyH_take (i := 11) (oi := ?oc_11) (v := .bool true) ?hc_11 (by kernel_rfl) (by kernel_rfl) (by kernel_rfl) ?qc_11 ?yc_11 (by assumption) ?_
              case hc_11 => (first | (simp only [List.getElem?_toArray, List.getElem?_cons_zero, List.getElem?_cons_succ]; done) | (simp only [List.getElem?_toArray, List.getElem?_cons_zero, List.getElem?_cons_succ]; exact rfl))
              case qc_11 => exact fun _ _ _ h => h
              case yc_11 => (refine Or.inl ⟨rfl, ?_⟩; intro w hSw; (try dsimp only at hSw); go_simp; (try with_reducible rfl))
              (try simp only [Act.put, List.setIfInBounds_toArray, List.set_cons_zero, List.set_cons_succ])
              refine wpAnyH_take (i := 12) (oi := ?oc_12) (v := .bool false) ?hc_12 (by kernel_rfl) (by kernel_rfl) (by kernel_rfl) ?qc_12 ?yc_12 (by assumption) ?_
              case hc_12 => (first | (simp only [List.getElem?_toArray, List.getElem?_cons_zero, List.getElem?_cons_succ]; done) | (simp only [List.getElem?_toArray, List.getElem?_cons_zero, List.getElem?_cons_succ]; exact rfl))
              case qc_12 => exact fun _ _ _ h => h
              case yc_12 => (refine Or.inl ⟨rfl, ?_⟩; intro w hSw; (try dsimp only at hSw); go_simp; (try with_reducible rfl))
              (try simp only [Act.put, List.setIfInBounds_toArray, List.set_cons_zero, List.set_cons_succ])
              refine wpAnyH_take (i := 13) (oi := ?oc_13) (v := .bool false) ?hc_13 (by kernel_rfl) (by kernel_rfl) (by kernel_rfl) ?qc_13 ?yc_13 (by assumption) ?_
              case hc_13 => (first | (simp only [List.getElem?_toArray, List.getElem?_cons_zero, List.getElem?_cons_succ]; done) | (simp only [List.getElem?_toArray, List.getElem?_cons_zero, List.getElem?_cons_succ]; exact rfl))
              case qc_13 => exact fun _ _ _ h => h
              case yc_13 => (refine Or.inl ⟨rfl, ?_⟩; intro w hSw; (try dsimp only at hSw); go_simp; (try with_reducible rfl))
              (try simp only [Act.put, List.setIfInBounds_toArray, List.set_cons_zero, List.set_cons_succ])
              refine wpAnyH_take (i := 14) (oi := ?oc_14) (v := .bool false) ?hc_14 (by kernel_rfl) (by kernel_rfl) (by kernel_rfl) ?qc_14 ?yc_14 (by assumption) ?_
              case hc_14 => (first | (simp only [List.getElem?_toArray, List.getElem?_cons_zero, List.getElem?_cons_succ]; done) | (simp only [List.getElem?_toArray, List.getElem?_cons_zero, List.getElem?_cons_succ]; exact rfl))
              case qc_14 => exact fun _ _ _ h => h
              case yc_14 => (refine Or.inl ⟨rfl, ?_⟩; intro w hSw; (try dsimp only at hSw); go_simp; (try with_reducible rfl))
              (try simp only [Act.put, List.setIfInBounds_toArray, List.set_cons_zero, List.set_cons_succ])
              refine wpAnyH_take (i := 15) (oi := ?oc_15) (v := undef) ?hc_15 (by kernel_rfl) (by kernel_rfl) (by kernel_rfl) ?qc_15 ?yc_15 (by assumption) ?_
              case hc_15 => (first | (simp only [List.getElem?_toArray, List.getElem?_cons_zero, List.getElem?_cons_succ]; done) | (simp only [List.getElem?_toArray, List.getElem?_cons_zero, List.getElem?_cons_succ]; exact rfl))
              case qc_15 => exact fun _ _ _ h => h
              case yc_15 => exact Or.inr ⟨rfl, rfl⟩
              (try simp only [Act.put, List.setIfInBounds_toArray, List.set_cons_zero, List.set_cons_succ])
              refine wpAnyH_take (i := 16) (oi := ?oc_16) (v := undef) ?hc_16 (by kernel_rfl) (by kernel_rfl) (by kernel_rfl) ?qc_16 ?yc_16 (by assumption) ?_
              case hc_16 => (first | (simp only [List.getElem?_toArray, List.getElem?_cons_zero, List.getElem?_cons_succ]; done) | (simp only [List.getElem?_toArray, List.getElem?_cons_zero, List.getElem?_cons_succ]; exact rfl))
              case qc_16 => exact fun _ _ _ h => h
              case yc_16 => exact Or.inr ⟨rfl, rfl⟩
              (try simp only [Act.put, List.setIfInBounds_toArray, List.set_cons_zero, List.set_cons_succ])
              refine wpAnyH_take (i := 17) (oi := ?oc_17) (v := undef) ?hc_17 (by kernel_rfl) (by kernel_rfl) (by kernel_rfl) ?qc_17 ?yc_17 (by assumption) ?_
              case hc_17 => (first | (simp only [List.getElem?_toArray, List.getElem?_cons_zero, List.getElem?_cons_succ]; done) | (simp only [List.getElem?_toArray, List.getElem?_cons_zero, List.getElem?_cons_succ]; exact rfl))
              case qc_17 => exact fun _ _ _ h => h
              case yc_17 => exact Or.inr ⟨rfl, rfl⟩
              (try simp only [Act.put, List.setIfInBounds_toArray, List.set_cons_zero, List.set_cons_succ])
              refine wpAnyH_take (i := 18) (oi := ?oc_18) (v := undef) ?hc_18 (by kernel_rfl) (by kernel_rfl) (by kernel_rfl) ?qc_18 ?yc_18 (by assumption) ?_
              case hc_18 => (first | (simp only [List.getElem?_toArray, List.getElem?_cons_zero, List.getElem?_cons_succ]; done) | (simp only [List.getElem?_toArray, List.getElem?_cons_zero, List.getElem?_cons_succ]; exact rfl))
              case qc_18 => exact fun _ _ _ h => h
              case yc_18 => exact Or.inr ⟨rfl, rfl⟩
              (try simp only [Act.put, List.setIfInBounds_toArray, List.set_cons_zero, List.set_cons_succ])
              refine wpAnyH_take (i := 19) (oi := ?oc_19) (v := undef) ?hc_19 (by kernel_rfl) (by kernel_rfl) (by kernel_rfl) ?qc_19 ?yc_19 (by assumption) ?_
              case hc_19 => (first | (simp only [List.getElem?_toArray, List.getElem?_cons_zero, List.getElem?_cons_succ]; done) | (simp only [List.getElem?_toArray, List.getElem?_cons_zero, List.getElem?_cons_succ]; exact rfl))
              case qc_19 => exact fun _ _ _ h => h
              case yc_19 => exact Or.inr ⟨rfl, rfl⟩
              (try simp only [Act.put, List.setIfInBounds_toArray, List.set_cons_zero, List.set_cons_succ])
              refine wpAnyH_take (i := 20) (oi := ?oc_20) (v := undef) ?hc_20 (by kernel_rfl) (by kernel_rfl) (by kernel_rfl) ?qc_20 ?yc_20 (by assumption) ?_
              case hc_20 => (first | (simp only [List.getElem?_toArray, List.getElem?_cons_zero, List.getElem?_cons_succ]; done) | (simp only [List.getElem?_toArray, List.getElem?_cons_zero, List.getElem?_cons_succ]; exact rfl))
              case qc_20 => exact fun _ _ _ h => h
              case yc_20 => exact Or.inr ⟨rfl, rfl⟩
              (try simp only [Act.put, List.setIfInBounds_toArray, List.set_cons_zero, List.set_cons_succ])
              refine wpAnyH_take (i := 21) (oi := ?oc_21) (v := undef) ?hc_21 (by kernel_rfl) (by kernel_rfl) (by kernel_rfl) ?qc_21 ?yc_21 (by assumption) ?_
              case hc_21 => (first | (simp only [List.getElem?_toArray, List.getElem?_cons_zero, List.getElem?_cons_succ]; done) | (simp only [List.getElem?_toArray, List.getElem?_cons_zero, List.getElem?_cons_succ]; exact rfl))
              case qc_21 => exact fun _ _ _ h => h
              case yc_21 => exact Or.inr ⟨rfl, rfl⟩
              (try simp only [Act.put, List.setIfInBounds_toArray, List.set_cons_zero, List.set_cons_succ])
              refine wpAnyH_take (i := 22) (oi := ?oc_22) (v := undef) ?hc_22 (by kernel_rfl) (by kernel_rfl) (by kernel_rfl) ?qc_22 ?yc_22 (by assumption) ?_
              case hc_22 => (first | (simp only [List.getElem?_toArray, List.getElem?_cons_zero, List.getElem?_cons_succ]; done) | (simp only [List.getElem?_toArray, List.getElem?_cons_zero, List.getElem?_cons_succ]; exact rfl))
              case qc_22 => exact fun _ _ _ h => h
              case yc_22 => exact Or.inr ⟨rfl, rfl⟩
              (try simp only [Act.put, List.setIfInBounds_toArray, List.set_cons_zero, List.set_cons_succ])
              refine wpAnyH_take (i := 23) (oi := ?oc_23) (v := undef) ?hc_23 (by kernel_rfl) (by kernel_rfl) (by kernel_rfl) ?qc_23 ?yc_23 (by assumption) ?_
              case hc_23 => (first | (simp only [List.getElem?_toArray, List.getElem?_cons_zero, List.getElem?_cons_succ]; done) | (simp only [List.getElem?_toArray, List.getElem?_cons_zero, List.getElem?_cons_succ]; exact rfl))
              case qc_23 => exact fun _ _ _ h => h
              case yc_23 => exact Or.inr ⟨rfl, rfl⟩
              (try simp only [Act.put, List.setIfInBounds_toArray, List.set_cons_zero, List.set_cons_succ])
              refine wpAnyH_take (i := 25) (oi := ?oc_25) (v := undef) ?hc_25 (by kernel_rfl) (by kernel_rfl) (by kernel_rfl) ?qc_25 ?yc_25 (by assumption) ?_
              case hc_25 => (first | (simp only [List.getElem?_toArray, List.getElem?_cons_zero, List.getElem?_cons_succ]; done) | (simp only [List.getElem?_toArray, List.getElem?_cons_zero, List.getElem?_cons_succ]; exact rfl))
              case qc_25 => exact fun _ _ _ h => h
              case yc_25 => exact Or.inr ⟨rfl, rfl⟩
              (try simp only [Act.put, List.setIfInBounds_toArray, List.set_cons_zero, List.set_cons_succ])
              refine wpAnyH_take (i := 26) (oi := ?oc_26) (v := undef) ?hc_26 (by kernel_rfl) (by kernel_rfl) (by kernel_rfl) ?qc_26 ?yc_26 (by assumption) ?_
              case hc_26 => (first | (simp only [List.getElem?_toArray, List.getElem?_cons_zero, List.getElem?_cons_succ]; done) | (simp only [List.getElem?_toArray, List.getElem?_cons_zero, List.getElem?_cons_succ]; exact rfl))
              case qc_26 => exact fun _ _ _ h => h
              case yc_26 => exact Or.inr ⟨rfl, rfl⟩
              (try simp only [Act.put, List.setIfInBounds_toArray, List.set_cons_zero, List.set_cons_succ])
              refine wpAnyH_take (i := 27) (oi := ?oc_27) (v := undef) ?hc_27 (by kernel_rfl) (by kernel_rfl) (by kernel_rfl) ?qc_27 ?yc_27 (by assumption) ?_
              case hc_27 => (first | (simp only [List.getElem?_toArray, List.getElem?_cons_zero, List.getElem?_cons_succ]; done) | (simp only [List.getElem?_toArray, List.getElem?_cons_zero, List.getElem?_cons_succ]; exact rfl))
              case qc_27 => exact fun _ _ _ h => h
              case yc_27 => exact Or.inr ⟨rfl, rfl⟩
              (try simp only [Act.put, List.setIfInBounds_toArray, List.set_cons_zero, List.set_cons_succ])
              refine wpAnyH_take (i := 28) (oi := ?oc_28) (v := undef) ?hc_28 (by kernel_rfl) (by kernel_rfl) (by kernel_rfl) ?qc_28 ?yc_28 (by assumption) ?_
              case hc_28 => (first | (simp only [List.getElem?_toArray, List.getElem?_cons_zero, List.getElem?_cons_succ]; done) | (simp only [List.getElem?_toArray, List.getElem?_cons_zero, List.getElem?_cons_succ]; exact rfl))
              case qc_28 => exact fun _ _ _ h => h
              case yc_28 => exact Or.inr ⟨rfl, rfl⟩
              (try simp only [Act.put, List.setIfInBounds_toArray, List.set_cons_zero, List.set_cons_succ])
              refine wpAnyH_take (i := 29) (oi := ?oc_29) (v := undef) ?hc_29 (by kernel_rfl) (by kernel_rfl) (by kernel_rfl) ?qc_29 ?yc_29 (by assumption) ?_
              case hc_29 => (first | (simp only [List.getElem?_toArray, List.getElem?_cons_zero, List.getElem?_cons_succ]; done) | (simp only [List.getElem?_toArray, List.getElem?_cons_zero, List.getElem?_cons_succ]; exact rfl))
              case qc_29 => exact fun _ _ _ h => h
              case yc_29 => exact Or.inr ⟨rfl, rfl⟩
              (try simp only [Act.put, List.setIfInBounds_toArray, List.set_cons_zero, List.set_cons_succ])
              refine wpAnyH_take (i := 30) (oi := ?oc_30) (v := undef) ?hc_30 (by kernel_rfl) (by kernel_rfl) (by kernel_rfl) ?qc_30 ?yc_30 (by assumption) ?_
              case hc_30 => (first | (simp only [List.getElem?_toArray, List.getElem?_cons_zero, List.getElem?_cons_succ]; done) | (simp only [List.getElem?_toArray, List.getElem?_cons_zero, List.getElem?_cons_succ]; exact rfl))
              case qc_30 => exact fun _ _ _ h => h
              case yc_30 => exact Or.inr ⟨rfl, rfl⟩
              (try simp only [Act.put, List.setIfInBounds_toArray, List.set_cons_zero, List.set_cons_succ])
              refine wpAnyH_take (i := 24) (oi := ?oc_24) (v := undef) ?hc_24 (by kernel_rfl) (by kernel_rfl) (by kernel_rfl) ?qc_24 ?yc_24 (by assumption) ?_
              case hc_24 => (first | (simp only [List.getElem?_toArray, List.getElem?_cons_zero, List.getElem?_cons_succ]; done) | (simp only [List.getElem?_toArray, List.getElem?_cons_zero, List.getElem?_cons_succ]; exact rfl))
              case qc_24 => exact fun _ _ _ h => h
              case yc_24 => exact Or.inr ⟨rfl, rfl⟩
              (try simp only [Act.put, List.setIfInBounds_toArray, List.set_cons_zero, List.set_cons_succ])
              refine wpAnyH_take (i := 31) (oi := ?oc_31) (v := undef) ?hc_31 (by kernel_rfl) (by kernel_rfl) (by kernel_rfl) ?qc_31 ?yc_31 (by assumption) ?_
              case hc_31 => (first | (simp only [List.getElem?_toArray, List.getElem?_cons_zero, List.getElem?_cons_succ]; done) | (simp only [List.getElem?_toArray, List.getElem?_cons_zero, List.getElem?_cons_succ]; exact rfl))
              case qc_31 => exact fun _ _ _ h => h
              case yc_31 => exact Or.inr ⟨rfl, rfl⟩
              (try simp only [Act.put, List.setIfInBounds_toArray, List.set_cons_zero, List.set_cons_succ])
              refine wpAnyH_take (i := 32) (oi := ?oc_32) (v := undef) ?hc_32 (by kernel_rfl) (by kernel_rfl) (by kernel_rfl) ?qc_32 ?yc_32 (by assumption) ?_
              case hc_32 => (first | (simp only [List.getElem?_toArray, List.getElem?_cons_zero, List.getElem?_cons_succ]; done) | (simp only [List.getElem?_toArray, List.getElem?_cons_zero, List.getElem?_cons_succ]; exact rfl))
              case qc_32 => exact fun _ _ _ h => h
              case yc_32 => exact Or.inr ⟨rfl, rfl⟩
              (try simp only [Act.put, List.setIfInBounds_toArray, List.set_cons_zero, List.set_cons_succ])
              refine wpAnyH_take (i := 33) (oi := ?oc_33) (v := undef) ?hc_33 (by kernel_rfl) (by kernel_rfl) (by kernel_rfl) ?qc_33 ?yc_33 (by assumption) ?_
              case hc_33 => (first | (simp only [List.getElem?_toArray, List.getElem?_cons_zero, List.getElem?_cons_succ]; done) | (simp only [List.getElem?_toArray, List.getElem?_cons_zero, List.getElem?_cons_succ]; exact rfl))
              case qc_33 => exact fun _ _ _ h => h
              case yc_33 => exact Or.inr ⟨rfl, rfl⟩
              (try simp only [Act.put, List.setIfInBounds_toArray, List.set_cons_zero, List.set_cons_succ])
              refine wpAnyH_take (i := 34) (oi := ?oc_34) (v := .bool false) ?hc_34 (by kernel_rfl) (by kernel_rfl) (by kernel_rfl) ?qc_34 ?yc_34 (by assumption) ?_
              case hc_34 => (first | (simp only [List.getElem?_toArray, List.getElem?_cons_zero, List.getElem?_cons_succ]; done) | (simp only [List.getElem?_toArray, List.getElem?_cons_zero, List.getElem?_cons_succ]; exact rfl))
              case qc_34 => exact fun _ _ _ h => h
              case yc_34 => (refine Or.inl ⟨rfl, ?_⟩; intro w hSw; (try dsimp only at hSw); go_simp; (try with_reducible rfl))
              (try simp only [Act.put, List.setIfInBounds_toArray, List.set_cons_zero, List.set_cons_succ])
              refine wpAnyH_done (by kernel_rfl) ?_ _
              obtain ⟨hs2, _⟩ := hHeld
              have HS2 := Lib.hid hs2
              clear hs2 HRK HRD
              go_wp2_with fail
              go_roundw
              case rel => exact ⟨k + 1, by have := HJ.out; omega, by go_num, B, rfl, Lib.hid ⟨HN.out, HIK.out, HS8.out.trans HS2.out, keep_blk HS2.out HBC8.out, keep_blk HS2.out HBL8.out⟩⟩
              case measure => have := HJ.out; simp [intOf]; omega
          · have m1 : ((cs k).mo == 0) = false := by simpa using hm
            have HN := Lib.hid (show B = (bl c f cw cs (k + 1)).1 by rw [bl, if_neg (by intro h; exact hm h.1.1)]; exact HB.out)
            clear hm
            have hrK : ∀ W W' : World, Since W W' → (Since w8 W ∧ W.cell? ⟨b, off + k * 15, none⟩ = some (.int .i64 (cs k).ds) ∧ W.cell? ⟨b, off + k * 15 + 1, none⟩ = some (.int .i64 (cs k).da) ∧ W.cell? ⟨b, off + k * 15 + 2, none⟩ = some (.int .i64 (cs k).un) ∧ W.cell? ⟨b, off + k * 15 + 3, none⟩ = some (.int .i64 (cs k).wy) ∧ W.cell? ⟨b, off + k * 15 + 4, none⟩ = some (.int .i64 (cs k).ti) ∧ W.cell? ⟨b, off + k * 15 + 5, none⟩ = some (.int .i64 (cs k).ju) ∧ W.cell? ⟨b, off + k * 15 + 6, none⟩ = some (.int .i64 (cs k).lo) ∧ W.cell? ⟨b, off + k * 15 + 7, none⟩ = some (.bool (cs k).bl) ∧ W.cell? ⟨b, off + k * 15 + 8, none⟩ = some (.bool (cs k).br) ∧ W.cell? ⟨b, off + k * 15 + 9, none⟩ = some (.int .i64 (cs k).mo) ∧ W.cell? ⟨b, off + k * 15 + 10, none⟩ = some (.int .i64 (cs k).ta) ∧ W.cell? ⟨b, off + k * 15 + 11, none⟩ = some (.bool (cs k).ho) ∧ W.cell? ⟨b, off + k * 15 + 12, none⟩ = some (.int .u64 (cs k).sp) ∧ W.cell? ⟨b, off + k * 15 + 13, none⟩ = some (.int .u64 (cs k).su) ∧ W.cell? ⟨b, off + k * 15 + 14, none⟩ = some (.int .u64 (cs k).sd) ∧ Blk W (w.heap.size) 23 #[.int .i64 c.ca, .int .i64 c.fl, .int .i64 c.ft, .int .i64 c.se, .int .i64 c.dr, .int .i64 c.dw, .int .i64 c.ho, .int .i64 c.re, .int .i64 c.yi, .int .i64 c.qu, .int .i64 c.qo, .int .i64 c.lo, .int .i64 c.sl, .int .i64 c.rt, .int .i64 c.cp, .int .i64 c.tr, .int .i64 c.de, .int .i64 c.wi] ∧ Blk W (w.heap.size + 1) 50 #[.int .i64 f, .int .i64 cw]) → (Since w8 W' ∧ W'.cell? ⟨b, off + k * 15, none⟩ = some (.int .i64 (cs k).ds) ∧ W'.cell? ⟨b, off + k * 15 + 1, none⟩ = some (.int .i64 (cs k).da) ∧ W'.cell? ⟨b, off + k * 15 + 2, none⟩ = some (.int .i64 (cs k).un) ∧ W'.cell? ⟨b, off + k * 15 + 3, none⟩ = some (.int .i64 (cs k).wy) ∧ W'.cell? ⟨b, off + k * 15 + 4, none⟩ = some (.int .i64 (cs k).ti) ∧ W'.cell? ⟨b, off + k * 15 + 5, none⟩ = some (.int .i64 (cs k).ju) ∧ W'.cell? ⟨b, off + k * 15 + 6, none⟩ = some (.int .i64 (cs k).lo) ∧ W'.cell? ⟨b, off + k * 15 + 7, none⟩ = some (.bool (cs k).bl) ∧ W'.cell? ⟨b, off + k * 15 + 8, none⟩ = some (.bool (cs k).br) ∧ W'.cell? ⟨b, off + k * 15 + 9, none⟩ = some (.int .i64 (cs k).mo) ∧ W'.cell? ⟨b, off + k * 15 + 10, none⟩ = some (.int .i64 (cs k).ta) ∧ W'.cell? ⟨b, off + k * 15 + 11, none⟩ = some (.bool (cs k).ho) ∧ W'.cell? ⟨b, off + k * 15 + 12, none⟩ = some (.int .u64 (cs k).sp) ∧ W'.cell? ⟨b, off + k * 15 + 13, none⟩ = some (.int .u64 (cs k).su) ∧ W'.cell? ⟨b, off + k * 15 + 14, none⟩ = some (.int .u64 (cs k).sd) ∧ Blk W' (w.heap.size) 23 #[.int .i64 c.ca, .int .i64 c.fl, .int .i64 c.ft, .int .i64 c.se, .int .i64 c.dr, .int .i64 c.dw, .int .i64 c.ho, .int .i64 c.re, .int .i64 c.yi, .int .i64 c.qu, .int .i64 c.qo, .int .i64 c.lo, .int .i64 c.sl, .int .i64 c.rt, .int .i64 c.cp, .int .i64 c.tr, .int .i64 c.de, .int .i64 c.wi] ∧ Blk W' (w.heap.size + 1) 50 #[.int .i64 f, .int .i64 cw]) := fun W W' k ⟨h, h0, h1, h2, h3, h4, h5, h6, h7, h8, h9, h10, h11, h12, h13, h14, h15, h16⟩ => ⟨h.trans k, keep_cell k h0, keep_cell k h1, keep_cell k h2, keep_cell k h3, keep_cell k h4, keep_cell k h5, keep_cell k h6, keep_cell k h7, keep_cell k h8, keep_cell k h9, keep_cell k h10, keep_cell k h11, keep_cell k h12, keep_cell k h13, keep_cell k h14, keep_blk k h15, keep_blk k h16⟩
            have hrS : (fun W : World => Since w8 W ∧ W.cell? ⟨b, off + k * 15, none⟩ = some (.int .i64 (cs k).ds) ∧ W.cell? ⟨b, off + k * 15 + 1, none⟩ = some (.int .i64 (cs k).da) ∧ W.cell? ⟨b, off + k * 15 + 2, none⟩ = some (.int .i64 (cs k).un) ∧ W.cell? ⟨b, off + k * 15 + 3, none⟩ = some (.int .i64 (cs k).wy) ∧ W.cell? ⟨b, off + k * 15 + 4, none⟩ = some (.int .i64 (cs k).ti) ∧ W.cell? ⟨b, off + k * 15 + 5, none⟩ = some (.int .i64 (cs k).ju) ∧ W.cell? ⟨b, off + k * 15 + 6, none⟩ = some (.int .i64 (cs k).lo) ∧ W.cell? ⟨b, off + k * 15 + 7, none⟩ = some (.bool (cs k).bl) ∧ W.cell? ⟨b, off + k * 15 + 8, none⟩ = some (.bool (cs k).br) ∧ W.cell? ⟨b, off + k * 15 + 9, none⟩ = some (.int .i64 (cs k).mo) ∧ W.cell? ⟨b, off + k * 15 + 10, none⟩ = some (.int .i64 (cs k).ta) ∧ W.cell? ⟨b, off + k * 15 + 11, none⟩ = some (.bool (cs k).ho) ∧ W.cell? ⟨b, off + k * 15 + 12, none⟩ = some (.int .u64 (cs k).sp) ∧ W.cell? ⟨b, off + k * 15 + 13, none⟩ = some (.int .u64 (cs k).su) ∧ W.cell? ⟨b, off + k * 15 + 14, none⟩ = some (.int .u64 (cs k).sd) ∧ Blk W (w.heap.size) 23 #[.int .i64 c.ca, .int .i64 c.fl, .int .i64 c.ft, .int .i64 c.se, .int .i64 c.dr, .int .i64 c.dw, .int .i64 c.ho, .int .i64 c.re, .int .i64 c.yi, .int .i64 c.qu, .int .i64 c.qo, .int .i64 c.lo, .int .i64 c.sl, .int .i64 c.rt, .int .i64 c.cp, .int .i64 c.tr, .int .i64 c.de, .int .i64 c.wi] ∧ Blk W (w.heap.size + 1) 50 #[.int .i64 f, .int .i64 cw]) (w8) := ⟨Since.refl _, by first | assumption | (simp; done), by first | assumption | (simp; done), by first | assumption | (simp; done), by first | assumption | (simp; done), by first | assumption | (simp; done), by first | assumption | (simp; done), by first | assumption | (simp; done), by first | assumption | (simp; done), by first | assumption | (simp; done), by first | assumption | (simp; done), by first | assumption | (simp; done), by first | assumption | (simp; done), by first | assumption | (simp; done), by first | assumption | (simp; done), by first | assumption | (simp; done), by first | assumption | (simp; done), by first | assumption | (simp; done)⟩
            have HRK := Lib.hid hrK
            have HRD := Lib.hid (show (fun W : World => Since w8 W ∧ W.cell? ⟨b, off + k * 15, none⟩ = some (.int .i64 (cs k).ds) ∧ W.cell? ⟨b, off + k * 15 + 1, none⟩ = some (.int .i64 (cs k).da) ∧ W.cell? ⟨b, off + k * 15 + 2, none⟩ = some (.int .i64 (cs k).un) ∧ W.cell? ⟨b, off + k * 15 + 3, none⟩ = some (.int .i64 (cs k).wy) ∧ W.cell? ⟨b, off + k * 15 + 4, none⟩ = some (.int .i64 (cs k).ti) ∧ W.cell? ⟨b, off + k * 15 + 5, none⟩ = some (.int .i64 (cs k).ju) ∧ W.cell? ⟨b, off + k * 15 + 6, none⟩ = some (.int .i64 (cs k).lo) ∧ W.cell? ⟨b, off + k * 15 + 7, none⟩ = some (.bool (cs k).bl) ∧ W.cell? ⟨b, off + k * 15 + 8, none⟩ = some (.bool (cs k).br) ∧ W.cell? ⟨b, off + k * 15 + 9, none⟩ = some (.int .i64 (cs k).mo) ∧ W.cell? ⟨b, off + k * 15 + 10, none⟩ = some (.int .i64 (cs k).ta) ∧ W.cell? ⟨b, off + k * 15 + 11, none⟩ = some (.bool (cs k).ho) ∧ W.cell? ⟨b, off + k * 15 + 12, none⟩ = some (.int .u64 (cs k).sp) ∧ W.cell? ⟨b, off + k * 15 + 13, none⟩ = some (.int .u64 (cs k).su) ∧ W.cell? ⟨b, off + k * 15 + 14, none⟩ = some (.int .u64 (cs k).sd) ∧ Blk W (w.heap.size) 23 #[.int .i64 c.ca, .int .i64 c.fl, .int .i64 c.ft, .int .i64 c.se, .int .i64 c.dr, .int .i64 c.dw, .int .i64 c.ho, .int .i64 c.re, .int .i64 c.yi, .int .i64 c.qu, .int .i64 c.qo, .int .i64 c.lo, .int .i64 c.sl, .int .i64 c.rt, .int .i64 c.cp, .int .i64 c.tr, .int .i64 c.de, .int .i64 c.wi] ∧ Blk W (w.heap.size + 1) 50 #[.int .i64 f, .int .i64 cw]) (World.drew (w8)) from ⟨(Since.refl _).drew, hrS.2⟩)
            clear hrK hrS
            refine wp_region_held_drew (S := fun W : World => Since w8 W ∧ W.cell? ⟨b, off + k * 15, none⟩ = some (.int .i64 (cs k).ds) ∧ W.cell? ⟨b, off + k * 15 + 1, none⟩ = some (.int .i64 (cs k).da) ∧ W.cell? ⟨b, off + k * 15 + 2, none⟩ = some (.int .i64 (cs k).un) ∧ W.cell? ⟨b, off + k * 15 + 3, none⟩ = some (.int .i64 (cs k).wy) ∧ W.cell? ⟨b, off + k * 15 + 4, none⟩ = some (.int .i64 (cs k).ti) ∧ W.cell? ⟨b, off + k * 15 + 5, none⟩ = some (.int .i64 (cs k).ju) ∧ W.cell? ⟨b, off + k * 15 + 6, none⟩ = some (.int .i64 (cs k).lo) ∧ W.cell? ⟨b, off + k * 15 + 7, none⟩ = some (.bool (cs k).bl) ∧ W.cell? ⟨b, off + k * 15 + 8, none⟩ = some (.bool (cs k).br) ∧ W.cell? ⟨b, off + k * 15 + 9, none⟩ = some (.int .i64 (cs k).mo) ∧ W.cell? ⟨b, off + k * 15 + 10, none⟩ = some (.int .i64 (cs k).ta) ∧ W.cell? ⟨b, off + k * 15 + 11, none⟩ = some (.bool (cs k).ho) ∧ W.cell? ⟨b, off + k * 15 + 12, none⟩ = some (.int .u64 (cs k).sp) ∧ W.cell? ⟨b, off + k * 15 + 13, none⟩ = some (.int .u64 (cs k).su) ∧ W.cell? ⟨b, off + k * 15 + 14, none⟩ = some (.int .u64 (cs k).sd) ∧ Blk W (w.heap.size) 23 #[.int .i64 c.ca, .int .i64 c.fl, .int .i64 c.ft, .int .i64 c.se, .int .i64 c.dr, .int .i64 c.dw, .int .i64 c.ho, .int .i64 c.re, .int .i64 c.yi, .int .i64 c.qu, .int .i64 c.qo, .int .i64 c.lo, .int .i64 c.sl, .int .i64 c.rt, .int .i64 c.cp, .int .i64 c.tr, .int .i64 c.de, .int .i64 c.wi] ∧ Blk W (w.heap.size + 1) 50 #[.int .i64 f, .int .i64 cw]) (by kernel_rfl) HRD.out (fun hHeld => ?_)
            refine wpAnyH_take (i := 0) (oi := ?oc_0) (v := .slice (some ⟨b, off, none⟩) len cap) ?hc_0 (by kernel_rfl) (by kernel_rfl) (by kernel_rfl) ?qc_0 ?yc_0 (by assumption) ?_
            case hc_0 => (first | (simp only [List.getElem?_toArray, List.getElem?_cons_zero, List.getElem?_cons_succ]; done) | (simp only [List.getElem?_toArray, List.getElem?_cons_zero, List.getElem?_cons_succ]; exact rfl))
            case qc_0 => exact fun _ _ _ h => h
            case yc_0 => (refine Or.inl ⟨rfl, ?_⟩; intro w hSw; (try dsimp only at hSw); go_simp; (try with_reducible rfl))
            (try simp only [Act.put, List.setIfInBounds_toArray, List.set_cons_zero, List.set_cons_succ])
            refine wpAnyH_take (i := 1) (oi := ?oc_1) (v := .int .i64 k) ?hc_1 (by kernel_rfl) (by kernel_rfl) (by kernel_rfl) ?qc_1 ?yc_1 (by assumption) ?_
            case hc_1 => (first | (simp only [List.getElem?_toArray, List.getElem?_cons_zero, List.getElem?_cons_succ]; done) | (simp only [List.getElem?_toArray, List.getElem?_cons_zero, List.getElem?_cons_succ]; exact rfl))
            case qc_1 => exact fun _ _ _ h => h
            case yc_1 => (refine Or.inl ⟨rfl, ?_⟩; intro w hSw; (try dsimp only at hSw); go_simp; (try with_reducible rfl))
            (try simp only [Act.put, List.setIfInBounds_toArray, List.set_cons_zero, List.set_cons_succ])
            refine wpAnyH_take (i := 2) (oi := ?oc_2) (v := .pointer (some ⟨b, off + k * 15, none⟩)) ?hc_2 (by kernel_rfl) (by kernel_rfl) (by kernel_rfl) ?qc_2 ?yc_2 (by assumption) ?_
            case hc_2 => (first | (simp only [List.getElem?_toArray, List.getElem?_cons_zero, List.getElem?_cons_succ]; done) | (simp only [List.getElem?_toArray, List.getElem?_cons_zero, List.getElem?_cons_succ]; exact rfl))
            case qc_2 => exact fun _ _ _ h => h
            case yc_2 => (refine Or.inl ⟨rfl, ?_⟩; intro w hSw; (try dsimp only at hSw); go_simp; (try with_reducible rfl))
            (try simp only [Act.put, List.setIfInBounds_toArray, List.set_cons_zero, List.set_cons_succ])
            refine wpAnyH_take (i := 3) (oi := ?oc_3) (v := ?vc_3) ?hc_3 (by kernel_rfl) (by kernel_rfl) (by kernel_rfl) ?qc_3 ?yc_3 (by assumption) ?_
            case hc_3 => (first | (simp only [List.getElem?_toArray, List.getElem?_cons_zero, List.getElem?_cons_succ]; done) | (simp only [List.getElem?_toArray, List.getElem?_cons_zero, List.getElem?_cons_succ]; exact rfl))
            case qc_3 => exact fun _ _ _ h => h
            case yc_3 => (refine Or.inl ⟨rfl, ?_⟩; intro w hSw; (try dsimp only at hSw); go_simp; (try with_reducible rfl))
            (try simp only [Act.put, List.setIfInBounds_toArray, List.set_cons_zero, List.set_cons_succ])
            refine wpAnyH_take (i := 4) (oi := ?oc_4) (v := .int .i64 (cs k).mo) ?hc_4 (by kernel_rfl) (by kernel_rfl) (by kernel_rfl) ?qc_4 ?yc_4 (by assumption) ?_
            case hc_4 => (first | (simp only [List.getElem?_toArray, List.getElem?_cons_zero, List.getElem?_cons_succ]; done) | (simp only [List.getElem?_toArray, List.getElem?_cons_zero, List.getElem?_cons_succ]; exact rfl))
            case qc_4 => exact fun _ _ _ h => h
            case yc_4 => (refine Or.inl ⟨rfl, ?_⟩; intro w hSw; (try dsimp only at hSw); go_simp; (try with_reducible rfl))
            (try simp only [Act.put, List.setIfInBounds_toArray, List.set_cons_zero, List.set_cons_succ])
            refine wpAnyH_take (i := 5) (oi := ?oc_5) (v := .bool false) ?hc_5 (by kernel_rfl) (by kernel_rfl) (by kernel_rfl) ?qc_5 ?yc_5 (by assumption) ?_
            case hc_5 => (first | (simp only [List.getElem?_toArray, List.getElem?_cons_zero, List.getElem?_cons_succ]; done) | (simp only [List.getElem?_toArray, List.getElem?_cons_zero, List.getElem?_cons_succ]; exact rfl))
            case qc_5 => exact fun _ _ _ h => h
            case yc_5 => (refine Or.inl ⟨rfl, ?_⟩; intro w hSw; (try dsimp only at hSw); go_simp; (try with_reducible rfl))
            (try simp only [Act.put, List.setIfInBounds_toArray, List.set_cons_zero, List.set_cons_succ])
            refine wpAnyH_take (i := 6) (oi := ?oc_6) (v := .bool false) ?hc_6 (by kernel_rfl) (by kernel_rfl) (by kernel_rfl) ?qc_6 ?yc_6 (by assumption) ?_
            case hc_6 => (first | (simp only [List.getElem?_toArray, List.getElem?_cons_zero, List.getElem?_cons_succ]; done) | (simp only [List.getElem?_toArray, List.getElem?_cons_zero, List.getElem?_cons_succ]; exact rfl))
            case qc_6 => exact fun _ _ _ h => h
            case yc_6 => (refine Or.inl ⟨rfl, ?_⟩; intro w hSw; (try dsimp only at hSw); go_simp; (try with_reducible rfl))
            (try simp only [Act.put, List.setIfInBounds_toArray, List.set_cons_zero, List.set_cons_succ])
            refine wpAnyH_take (i := 7) (oi := ?oc_7) (v := undef) ?hc_7 (by kernel_rfl) (by kernel_rfl) (by kernel_rfl) ?qc_7 ?yc_7 (by assumption) ?_
            case hc_7 => (first | (simp only [List.getElem?_toArray, List.getElem?_cons_zero, List.getElem?_cons_succ]; done) | (simp only [List.getElem?_toArray, List.getElem?_cons_zero, List.getElem?_cons_succ]; exact rfl))
            case qc_7 => exact fun _ _ _ h => h
            case yc_7 => exact Or.inr ⟨rfl, rfl⟩
            (try simp only [Act.put, List.setIfInBounds_toArray, List.set_cons_zero, List.set_cons_succ])
            refine wpAnyH_take (i := 8) (oi := ?oc_8) (v := undef) ?hc_8 (by kernel_rfl) (by kernel_rfl) (by kernel_rfl) ?qc_8 ?yc_8 (by assumption) ?_
            case hc_8 => (first | (simp only [List.getElem?_toArray, List.getElem?_cons_zero, List.getElem?_cons_succ]; done) | (simp only [List.getElem?_toArray, List.getElem?_cons_zero, List.getElem?_cons_succ]; exact rfl))
            case qc_8 => exact fun _ _ _ h => h
            case yc_8 => exact Or.inr ⟨rfl, rfl⟩
            (try simp only [Act.put, List.setIfInBounds_toArray, List.set_cons_zero, List.set_cons_succ])
            refine wpAnyH_take (i := 9) (oi := ?oc_9) (v := undef) ?hc_9 (by kernel_rfl) (by kernel_rfl) (by kernel_rfl) ?qc_9 ?yc_9 (by assumption) ?_
            case hc_9 => (first | (simp only [List.getElem?_toArray, List.getElem?_cons_zero, List.getElem?_cons_succ]; done) | (simp only [List.getElem?_toArray, List.getElem?_cons_zero, List.getElem?_cons_succ]; exact rfl))
            case qc_9 => exact fun _ _ _ h => h
            case yc_9 => exact Or.inr ⟨rfl, rfl⟩
            (try simp only [Act.put, List.setIfInBounds_toArray, List.set_cons_zero, List.set_cons_succ])
            refine wpAnyH_take (i := 10) (oi := ?oc_10) (v := undef) ?hc_10 (by kernel_rfl) (by kernel_rfl) (by kernel_rfl) ?qc_10 ?yc_10 (by assumption) ?_
            case hc_10 => (first | (simp only [List.getElem?_toArray, List.getElem?_cons_zero, List.getElem?_cons_succ]; done) | (simp only [List.getElem?_toArray, List.getElem?_cons_zero, List.getElem?_cons_succ]; exact rfl))
            case qc_10 => exact fun _ _ _ h => h
            case yc_10 => exact Or.inr ⟨rfl, rfl⟩
            (try simp only [Act.put, List.setIfInBounds_toArray, List.set_cons_zero, List.set_cons_succ])
            refine wpAnyH_take (i := 11) (oi := ?oc_11) (v := undef) ?hc_11 (by kernel_rfl) (by kernel_rfl) (by kernel_rfl) ?qc_11 ?yc_11 (by assumption) ?_
            case hc_11 => (first | (simp only [List.getElem?_toArray, List.getElem?_cons_zero, List.getElem?_cons_succ]; done) | (simp only [List.getElem?_toArray, List.getElem?_cons_zero, List.getElem?_cons_succ]; exact rfl))
            case qc_11 => exact fun _ _ _ h => h
            case yc_11 => exact Or.inr ⟨rfl, rfl⟩
            (try simp only [Act.put, List.setIfInBounds_toArray, List.set_cons_zero, List.set_cons_succ])
            refine wpAnyH_take (i := 12) (oi := ?oc_12) (v := undef) ?hc_12 (by kernel_rfl) (by kernel_rfl) (by kernel_rfl) ?qc_12 ?yc_12 (by assumption) ?_
            case hc_12 => (first | (simp only [List.getElem?_toArray, List.getElem?_cons_zero, List.getElem?_cons_succ]; done) | (simp only [List.getElem?_toArray, List.getElem?_cons_zero, List.getElem?_cons_succ]; exact rfl))
            case qc_12 => exact fun _ _ _ h => h
            case yc_12 => exact Or.inr ⟨rfl, rfl⟩
            (try simp only [Act.put, List.setIfInBounds_toArray, List.set_cons_zero, List.set_cons_succ])
            refine wpAnyH_take (i := 13) (oi := ?oc_13) (v := .bool false) ?hc_13 (by kernel_rfl) (by kernel_rfl) (by kernel_rfl) ?qc_13 ?yc_13 (by assumption) ?_
            case hc_13 => (first | (simp only [List.getElem?_toArray, List.getElem?_cons_zero, List.getElem?_cons_succ]; done) | (simp only [List.getElem?_toArray, List.getElem?_cons_zero, List.getElem?_cons_succ]; exact rfl))
            case qc_13 => exact fun _ _ _ h => h
            case yc_13 => (refine Or.inl ⟨rfl, ?_⟩; intro w hSw; (try dsimp only at hSw); go_simp; (try with_reducible rfl))
            (try simp only [Act.put, List.setIfInBounds_toArray, List.set_cons_zero, List.set_cons_succ])
            refine wpAnyH_take (i := 14) (oi := ?oc_14) (v := .bool false) ?hc_14 (by kernel_rfl) (by kernel_rfl) (by kernel_rfl) ?qc_14 ?yc_14 (by assumption) ?_
            case hc_14 => (first | (simp only [List.getElem?_toArray, List.getElem?_cons_zero, List.getElem?_cons_succ]; done) | (simp only [List.getElem?_toArray, List.getElem?_cons_zero, List.getElem?_cons_succ]; exact rfl))
            case qc_14 => exact fun _ _ _ h => h
            case yc_14 => (refine Or.inl ⟨rfl, ?_⟩; intro w hSw; (try dsimp only at hSw); go_simp; (try with_reducible rfl))
            (try simp only [Act.put, List.setIfInBounds_toArray, List.set_cons_zero, List.set_cons_succ])
            refine wpAnyH_take (i := 15) (oi := ?oc_15) (v := undef) ?hc_15 (by kernel_rfl) (by kernel_rfl) (by kernel_rfl) ?qc_15 ?yc_15 (by assumption) ?_
            case hc_15 => (first | (simp only [List.getElem?_toArray, List.getElem?_cons_zero, List.getElem?_cons_succ]; done) | (simp only [List.getElem?_toArray, List.getElem?_cons_zero, List.getElem?_cons_succ]; exact rfl))
            case qc_15 => exact fun _ _ _ h => h
            case yc_15 => exact Or.inr ⟨rfl, rfl⟩
            (try simp only [Act.put, List.setIfInBounds_toArray, List.set_cons_zero, List.set_cons_succ])
            refine wpAnyH_take (i := 16) (oi := ?oc_16) (v := undef) ?hc_16 (by kernel_rfl) (by kernel_rfl) (by kernel_rfl) ?qc_16 ?yc_16 (by assumption) ?_
            case hc_16 => (first | (simp only [List.getElem?_toArray, List.getElem?_cons_zero, List.getElem?_cons_succ]; done) | (simp only [List.getElem?_toArray, List.getElem?_cons_zero, List.getElem?_cons_succ]; exact rfl))
            case qc_16 => exact fun _ _ _ h => h
            case yc_16 => exact Or.inr ⟨rfl, rfl⟩
            (try simp only [Act.put, List.setIfInBounds_toArray, List.set_cons_zero, List.set_cons_succ])
            refine wpAnyH_take (i := 17) (oi := ?oc_17) (v := undef) ?hc_17 (by kernel_rfl) (by kernel_rfl) (by kernel_rfl) ?qc_17 ?yc_17 (by assumption) ?_
            case hc_17 => (first | (simp only [List.getElem?_toArray, List.getElem?_cons_zero, List.getElem?_cons_succ]; done) | (simp only [List.getElem?_toArray, List.getElem?_cons_zero, List.getElem?_cons_succ]; exact rfl))
            case qc_17 => exact fun _ _ _ h => h
            case yc_17 => exact Or.inr ⟨rfl, rfl⟩
            (try simp only [Act.put, List.setIfInBounds_toArray, List.set_cons_zero, List.set_cons_succ])
            refine wpAnyH_take (i := 18) (oi := ?oc_18) (v := undef) ?hc_18 (by kernel_rfl) (by kernel_rfl) (by kernel_rfl) ?qc_18 ?yc_18 (by assumption) ?_
            case hc_18 => (first | (simp only [List.getElem?_toArray, List.getElem?_cons_zero, List.getElem?_cons_succ]; done) | (simp only [List.getElem?_toArray, List.getElem?_cons_zero, List.getElem?_cons_succ]; exact rfl))
            case qc_18 => exact fun _ _ _ h => h
            case yc_18 => exact Or.inr ⟨rfl, rfl⟩
            (try simp only [Act.put, List.setIfInBounds_toArray, List.set_cons_zero, List.set_cons_succ])
            refine wpAnyH_take (i := 19) (oi := ?oc_19) (v := undef) ?hc_19 (by kernel_rfl) (by kernel_rfl) (by kernel_rfl) ?qc_19 ?yc_19 (by assumption) ?_
            case hc_19 => (first | (simp only [List.getElem?_toArray, List.getElem?_cons_zero, List.getElem?_cons_succ]; done) | (simp only [List.getElem?_toArray, List.getElem?_cons_zero, List.getElem?_cons_succ]; exact rfl))
            case qc_19 => exact fun _ _ _ h => h
            case yc_19 => exact Or.inr ⟨rfl, rfl⟩
            (try simp only [Act.put, List.setIfInBounds_toArray, List.set_cons_zero, List.set_cons_succ])
            refine wpAnyH_take (i := 20) (oi := ?oc_20) (v := undef) ?hc_20 (by kernel_rfl) (by kernel_rfl) (by kernel_rfl) ?qc_20 ?yc_20 (by assumption) ?_
            case hc_20 => (first | (simp only [List.getElem?_toArray, List.getElem?_cons_zero, List.getElem?_cons_succ]; done) | (simp only [List.getElem?_toArray, List.getElem?_cons_zero, List.getElem?_cons_succ]; exact rfl))
            case qc_20 => exact fun _ _ _ h => h
            case yc_20 => exact Or.inr ⟨rfl, rfl⟩
            (try simp only [Act.put, List.setIfInBounds_toArray, List.set_cons_zero, List.set_cons_succ])
            refine wpAnyH_take (i := 21) (oi := ?oc_21) (v := undef) ?hc_21 (by kernel_rfl) (by kernel_rfl) (by kernel_rfl) ?qc_21 ?yc_21 (by assumption) ?_
            case hc_21 => (first | (simp only [List.getElem?_toArray, List.getElem?_cons_zero, List.getElem?_cons_succ]; done) | (simp only [List.getElem?_toArray, List.getElem?_cons_zero, List.getElem?_cons_succ]; exact rfl))
            case qc_21 => exact fun _ _ _ h => h
            case yc_21 => exact Or.inr ⟨rfl, rfl⟩
            (try simp only [Act.put, List.setIfInBounds_toArray, List.set_cons_zero, List.set_cons_succ])
            refine wpAnyH_take (i := 22) (oi := ?oc_22) (v := undef) ?hc_22 (by kernel_rfl) (by kernel_rfl) (by kernel_rfl) ?qc_22 ?yc_22 (by assumption) ?_
            case hc_22 => (first | (simp only [List.getElem?_toArray, List.getElem?_cons_zero, List.getElem?_cons_succ]; done) | (simp only [List.getElem?_toArray, List.getElem?_cons_zero, List.getElem?_cons_succ]; exact rfl))
            case qc_22 => exact fun _ _ _ h => h
            case yc_22 => exact Or.inr ⟨rfl, rfl⟩
            (try simp only [Act.put, List.setIfInBounds_toArray, List.set_cons_zero, List.set_cons_succ])
            refine wpAnyH_take (i := 23) (oi := ?oc_23) (v := undef) ?hc_23 (by kernel_rfl) (by kernel_rfl) (by kernel_rfl) ?qc_23 ?yc_23 (by assumption) ?_
            case hc_23 => (first | (simp only [List.getElem?_toArray, List.getElem?_cons_zero, List.getElem?_cons_succ]; done) | (simp only [List.getElem?_toArray, List.getElem?_cons_zero, List.getElem?_cons_succ]; exact rfl))
            case qc_23 => exact fun _ _ _ h => h
            case yc_23 => exact Or.inr ⟨rfl, rfl⟩
            (try simp only [Act.put, List.setIfInBounds_toArray, List.set_cons_zero, List.set_cons_succ])
            refine wpAnyH_take (i := 25) (oi := ?oc_25) (v := undef) ?hc_25 (by kernel_rfl) (by kernel_rfl) (by kernel_rfl) ?qc_25 ?yc_25 (by assumption) ?_
            case hc_25 => (first | (simp only [List.getElem?_toArray, List.getElem?_cons_zero, List.getElem?_cons_succ]; done) | (simp only [List.getElem?_toArray, List.getElem?_cons_zero, List.getElem?_cons_succ]; exact rfl))
            case qc_25 => exact fun _ _ _ h => h
            case yc_25 => exact Or.inr ⟨rfl, rfl⟩
            (try simp only [Act.put, List.setIfInBounds_toArray, List.set_cons_zero, List.set_cons_succ])
            refine wpAnyH_take (i := 26) (oi := ?oc_26) (v := undef) ?hc_26 (by kernel_rfl) (by kernel_rfl) (by kernel_rfl) ?qc_26 ?yc_26 (by assumption) ?_
            case hc_26 => (first | (simp only [List.getElem?_toArray, List.getElem?_cons_zero, List.getElem?_cons_succ]; done) | (simp only [List.getElem?_toArray, List.getElem?_cons_zero, List.getElem?_cons_succ]; exact rfl))
            case qc_26 => exact fun _ _ _ h => h
            case yc_26 => exact Or.inr ⟨rfl, rfl⟩
            (try simp only [Act.put, List.setIfInBounds_toArray, List.set_cons_zero, List.set_cons_succ])
            refine wpAnyH_take (i := 27) (oi := ?oc_27) (v := undef) ?hc_27 (by kernel_rfl) (by kernel_rfl) (by kernel_rfl) ?qc_27 ?yc_27 (by assumption) ?_
            case hc_27 => (first | (simp only [List.getElem?_toArray, List.getElem?_cons_zero, List.getElem?_cons_succ]; done) | (simp only [List.getElem?_toArray, List.getElem?_cons_zero, List.getElem?_cons_succ]; exact rfl))
            case qc_27 => exact fun _ _ _ h => h
            case yc_27 => exact Or.inr ⟨rfl, rfl⟩
            (try simp only [Act.put, List.setIfInBounds_toArray, List.set_cons_zero, List.set_cons_succ])
            refine wpAnyH_take (i := 28) (oi := ?oc_28) (v := undef) ?hc_28 (by kernel_rfl) (by kernel_rfl) (by kernel_rfl) ?qc_28 ?yc_28 (by assumption) ?_
            case hc_28 => (first | (simp only [List.getElem?_toArray, List.getElem?_cons_zero, List.getElem?_cons_succ]; done) | (simp only [List.getElem?_toArray, List.getElem?_cons_zero, List.getElem?_cons_succ]; exact rfl))
            case qc_28 => exact fun _ _ _ h => h
            case yc_28 => exact Or.inr ⟨rfl, rfl⟩
            (try simp only [Act.put, List.setIfInBounds_toArray, List.set_cons_zero, List.set_cons_succ])
            refine wpAnyH_take (i := 29) (oi := ?oc_29) (v := undef) ?hc_29 (by kernel_rfl) (by kernel_rfl) (by kernel_rfl) ?qc_29 ?yc_29 (by assumption) ?_
            case hc_29 => (first | (simp only [List.getElem?_toArray, List.getElem?_cons_zero, List.getElem?_cons_succ]; done) | (simp only [List.getElem?_toArray, List.getElem?_cons_zero, List.getElem?_cons_succ]; exact rfl))
            case qc_29 => exact fun _ _ _ h => h
            case yc_29 => exact Or.inr ⟨rfl, rfl⟩
            (try simp only [Act.put, List.setIfInBounds_toArray, List.set_cons_zero, List.set_cons_succ])
            refine wpAnyH_take (i := 30) (oi := ?oc_30) (v := undef) ?hc_30 (by kernel_rfl) (by kernel_rfl) (by kernel_rfl) ?qc_30 ?yc_30 (by assumption) ?_
            case hc_30 => (first | (simp only [List.getElem?_toArray, List.getElem?_cons_zero, List.getElem?_cons_succ]; done) | (simp only [List.getElem?_toArray, List.getElem?_cons_zero, List.getElem?_cons_succ]; exact rfl))
            case qc_30 => exact fun _ _ _ h => h
            case yc_30 => exact Or.inr ⟨rfl, rfl⟩
            (try simp only [Act.put, List.setIfInBounds_toArray, List.set_cons_zero, List.set_cons_succ])
            refine wpAnyH_take (i := 24) (oi := ?oc_24) (v := undef) ?hc_24 (by kernel_rfl) (by kernel_rfl) (by kernel_rfl) ?qc_24 ?yc_24 (by assumption) ?_
            case hc_24 => (first | (simp only [List.getElem?_toArray, List.getElem?_cons_zero, List.getElem?_cons_succ]; done) | (simp only [List.getElem?_toArray, List.getElem?_cons_zero, List.getElem?_cons_succ]; exact rfl))
            case qc_24 => exact fun _ _ _ h => h
            case yc_24 => exact Or.inr ⟨rfl, rfl⟩
            (try simp only [Act.put, List.setIfInBounds_toArray, List.set_cons_zero, List.set_cons_succ])
            refine wpAnyH_take (i := 31) (oi := ?oc_31) (v := undef) ?hc_31 (by kernel_rfl) (by kernel_rfl) (by kernel_rfl) ?qc_31 ?yc_31 (by assumption) ?_
            case hc_31 => (first | (simp only [List.getElem?_toArray, List.getElem?_cons_zero, List.getElem?_cons_succ]; done) | (simp only [List.getElem?_toArray, List.getElem?_cons_zero, List.getElem?_cons_succ]; exact rfl))
            case qc_31 => exact fun _ _ _ h => h
            case yc_31 => exact Or.inr ⟨rfl, rfl⟩
            (try simp only [Act.put, List.setIfInBounds_toArray, List.set_cons_zero, List.set_cons_succ])
            refine wpAnyH_take (i := 32) (oi := ?oc_32) (v := undef) ?hc_32 (by kernel_rfl) (by kernel_rfl) (by kernel_rfl) ?qc_32 ?yc_32 (by assumption) ?_
            case hc_32 => (first | (simp only [List.getElem?_toArray, List.getElem?_cons_zero, List.getElem?_cons_succ]; done) | (simp only [List.getElem?_toArray, List.getElem?_cons_zero, List.getElem?_cons_succ]; exact rfl))
            case qc_32 => exact fun _ _ _ h => h
            case yc_32 => exact Or.inr ⟨rfl, rfl⟩
            (try simp only [Act.put, List.setIfInBounds_toArray, List.set_cons_zero, List.set_cons_succ])
            refine wpAnyH_take (i := 33) (oi := ?oc_33) (v := undef) ?hc_33 (by kernel_rfl) (by kernel_rfl) (by kernel_rfl) ?qc_33 ?yc_33 (by assumption) ?_
            case hc_33 => (first | (simp only [List.getElem?_toArray, List.getElem?_cons_zero, List.getElem?_cons_succ]; done) | (simp only [List.getElem?_toArray, List.getElem?_cons_zero, List.getElem?_cons_succ]; exact rfl))
            case qc_33 => exact fun _ _ _ h => h
            case yc_33 => exact Or.inr ⟨rfl, rfl⟩
            (try simp only [Act.put, List.setIfInBounds_toArray, List.set_cons_zero, List.set_cons_succ])
            refine wpAnyH_take (i := 34) (oi := ?oc_34) (v := .bool false) ?hc_34 (by kernel_rfl) (by kernel_rfl) (by kernel_rfl) ?qc_34 ?yc_34 (by assumption) ?_
            case hc_34 => (first | (simp only [List.getElem?_toArray, List.getElem?_cons_zero, List.getElem?_cons_succ]; done) | (simp only [List.getElem?_toArray, List.getElem?_cons_zero, List.getElem?_cons_succ]; exact rfl))
            case qc_34 => exact fun _ _ _ h => h
            case yc_34 => (refine Or.inl ⟨rfl, ?_⟩; intro w hSw; (try dsimp only at hSw); go_simp; (try with_reducible rfl))
            (try simp only [Act.put, List.setIfInBounds_toArray, List.set_cons_zero, List.set_cons_succ])
            refine wpAnyH_done (by kernel_rfl) ?_ _
            obtain ⟨hs2, _⟩ := hHeld
            have HS2 := Lib.hid hs2
            clear hs2 HRK HRD
            go_wp2_with fail
            go_roundw
            case rel => exact ⟨k + 1, by have := HJ.out; omega, by go_num, B, rfl, Lib.hid ⟨HN.out, HIK.out, HS8.out.trans HS2.out, keep_blk HS2.out HBC8.out, keep_blk HS2.out HBL8.out⟩⟩
            case measure => have := HJ.out; simp [intOf]; omega
      · obtain rfl : k = len := by omega
        obtain ⟨rfl, HIN, S, BC, BL⟩ := HO.out
        have HI := Lib.hid HIN; have HS := Lib.hid S; clear HIN S
        go_upto_region 11 with fail
        have HBC := Lib.hid BC; have HBL := Lib.hid BL; clear BC BL
        refine wp_region_lit ?_
        refine wpList_step fun K hK => ?_
        have HKK := Lib.hid hK
        clear hK
        rw [if_pos (by rfl)]
        (try go_simp)
        refine (ans _).mono ?_
        rintro e w3 ⟨rfl, hb3⟩
        (try go_wp2_with fail)
        refine HKK.out _ _ ?_
        clear HKK K
        (try simp only [Act.put, List.setIfInBounds_toArray, List.set_cons_zero, List.set_cons_succ])
        have HC3 := Lib.hid (keep_blk hb3 HBC.out); have HL3 := Lib.hid (keep_blk hb3 HBL.out); have HS3 := Lib.hid (HS.out.trans hb3); clear hb3 HBC HBL
        refine wpList_q (by rfl) (.bool true) ?he ?_
        case he => (go_simp; (try with_reducible rfl))
        (try simp only [Act.put, List.setIfInBounds_toArray, List.set_cons_zero, List.set_cons_succ])
        refine wpList_load_row_g (by rfl) 23 _ rfl _ rfl 23 _ _ HC3.out Try.underlying23 rfl (by kernel_rfl) ?_
        (try simp only [Act.put, List.setIfInBounds_toArray, List.set_cons_zero, List.set_cons_succ])
        refine wpList_q (by rfl) (.slice a k cap) ?he ?_
        case he => (go_simp; (try with_reducible rfl))
        (try simp only [Act.put, List.setIfInBounds_toArray, List.set_cons_zero, List.set_cons_succ])
        refine wpList_load_row_g (by rfl) 50 _ rfl _ rfl 50 _ _ HL3.out Try.underlying50 rfl (by kernel_rfl) ?_
        (try simp only [Act.put, List.setIfInBounds_toArray, List.set_cons_zero, List.set_cons_succ])
        refine wpList_step fun K hK => ?_
        have HKK := Lib.hid hK
        clear hK
        rw [if_pos (by rfl)]
        (try go_simp)
        refine (bestT c f cw a k cap cs _ (HL.out.keep HS3.out) hl HF.out HI.out).mono ?_
        rintro e w4 ⟨rfl, hb4⟩
        (try go_wp2_with fail)
        refine HKK.out _ _ ?_
        clear HKK K
        (try simp only [Act.put, List.setIfInBounds_toArray, List.set_cons_zero, List.set_cons_succ])
        have HS4 := Lib.hid (HS3.out.trans hb4); clear hb4
        refine wpList_q (by rfl) (.int .i64 (bl c f cw cs k).1) ?he ?_
        case he => (go_simp; (try with_reducible rfl))
        (try simp only [Act.put, List.setIfInBounds_toArray, List.set_cons_zero, List.set_cons_succ])
        refine wpList_q (by rfl) (.bool true) ?he ?_
        case he => (go_simp; (try with_reducible rfl))
        (try simp only [Act.put, List.setIfInBounds_toArray, List.set_cons_zero, List.set_cons_succ])
        refine wpList_q (by rfl) (.bool true) ?he ?_
        case he => (go_simp; (try with_reducible rfl))
        (try simp only [Act.put, List.setIfInBounds_toArray, List.set_cons_zero, List.set_cons_succ])
        refine wpList_q (by rfl) (.bool true) ?he ?_
        case he => (go_simp; (try with_reducible rfl))
        (try simp only [Act.put, List.setIfInBounds_toArray, List.set_cons_zero, List.set_cons_succ])
        refine wpList_nil ?_
        go_wp2
        go_ret
        exact ⟨rfl, HS4.out⟩
theorem bestF {H : Type} {enc : TypeId × Value → H} {x : DataW H × List MemPlace} (cca cfl cft cse cdr cdw cho cre cyi cqu cqo clo csl crt ccp ctr cde cwi : Int) (a : Option Addr) (len cap : Nat) (f cw : Int) (w : World) (_ : (Lit.int .i64 cca).wf = true) (_ : (Lit.int .i64 cfl).wf = true) (_ : (Lit.int .i64 cft).wf = true) (_ : (Lit.int .i64 cse).wf = true) (_ : (Lit.int .i64 cdr).wf = true) (_ : (Lit.int .i64 cdw).wf = true) (_ : (Lit.int .i64 cho).wf = true) (_ : (Lit.int .i64 cre).wf = true) (_ : (Lit.int .i64 cyi).wf = true) (_ : (Lit.int .i64 cqu).wf = true) (_ : (Lit.int .i64 cqo).wf = true) (_ : (Lit.int .i64 clo).wf = true) (_ : (Lit.int .i64 csl).wf = true) (_ : (Lit.int .i64 crt).wf = true) (_ : (Lit.int .i64 ccp).wf = true) (_ : (Lit.int .i64 ctr).wf = true) (_ : (Lit.int .i64 cde).wf = true) (_ : (Lit.int .i64 cwi).wf = true) (h : ∃ m, DataW.trod enc Try.prog w 0 (fun _ => true) true m 63 (Value.cells (.slice a len cap)).toList = some x) (_ : (Lit.int .i64 f).wf = true) (_ : (Lit.int .i64 cw).wf = true) : Calls Try.prog 15 #[.agg #[.int .i64 cca, .int .i64 cfl, .int .i64 cft, .int .i64 cse, .int .i64 cdr, .int .i64 cdw, .int .i64 cho, .int .i64 cre, .int .i64 cyi, .int .i64 cqu, .int .i64 cqo, .int .i64 clo, .int .i64 csl, .int .i64 crt, .int .i64 ccp, .int .i64 ctr, .int .i64 cde, .int .i64 cwi], .slice a len cap, .agg #[.int .i64 f, .int .i64 cw]] w fun e w' => e = .returned (.bool true) ∧ Since w w' := by
  obtain ⟨m, hm⟩ := h
  obtain ⟨ls, hls, hl, hfit⟩ := Go.Proofs.Ytfbnmoegdbdhjaa.Cs.CV.open_ hm
  exact best ⟨cca, cfl, cft, cse, cdr, cdw, cho, cre, cyi, cqu, cqo, clo, csl, crt, ccp, ctr, cde, cwi⟩ f cw a len cap ls w hls hl hfit
end Go.Proofs.Ytfbnmoegdbdhjaa.Et
