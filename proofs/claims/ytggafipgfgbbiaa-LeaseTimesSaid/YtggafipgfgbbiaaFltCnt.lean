/-
  FleetCounts, walked (layer 17).
  Conditions: each argument fits its kind.
-/
import Derived.Test.YtggafipgfgbbiaaFltMay
import Derived.Test.YtggafipgfgbbiaaLea
namespace Go.Proofs.Ytggafipgfgbbiaa.Fl
set_option linter.unusedVariables false
set_option linter.unusedSimpArgs false
open Go.RowKit Go.Proofs.Ytggafipgfgbbiaa.Ba Go.Proofs.Ytggafipgfgbbiaa.Mo Go.Proofs.Ytggafipgfgbbiaa.Ty Go.Proofs.Ytggafipgfgbbiaa.Mem
open Go.Proofs.Ytggafipgfgbbiaa.Ce (ms massT)
open Go.Proofs.Ytggafipgfgbbiaa.Ls (LV leaC)
set_option maxRecDepth 100000
/-- How many of the first k are of fleet n. -/
def cnt (ls : Nat → LeaseV) (n : Int) : Nat → Int
  | 0 => 0
  | k + 1 => cnt ls n k + (if (ls k).fl = n then 1 else 0)
theorem cnt_bd (ls : Nat → LeaseV) (n : Int) : ∀ k : Nat, 0 ≤ cnt ls n k ∧ cnt ls n k ≤ k
  | 0 => by simp [cnt]
  | k + 1 => by
    have := cnt_bd ls n k
    unfold cnt
    split <;> omega
theorem at_lease {w : World} {a : Option Addr} {len : Nat} {ls : Nat → LeaseV} (h : LV w a len ls) {k : Nat} (hk : k < len) : ∃ b off, a = some ⟨b, off, none⟩ ∧ b < w.heap.size ∧ ∀ j v, (leaC (ls k))[j]? = some v → w.cell? ⟨b, off + k * 10 + j, none⟩ = some v := by
  rcases h with h | ⟨b, off, e, hb, hc⟩
  · omega
  · exact ⟨b, off, e, hb, fun j v hj => hc k hk j v hj⟩
set_option maxHeartbeats 1000000 in
theorem countT (a : Option Addr) (len cap : Nat) (ls : Nat → LeaseV) (n : Int) (w : World) (h : LV w a len ls) (hl : len ≤ 9223372036854775807) : Calls Try.prog 19 #[.slice a len cap, .int .i64 n] w fun e w' => e = .returned (.int .i64 (cnt ls n len)) ∧ Since w w' := by
  have hlI : (len : Int) ≤ 9223372036854775807 := by omega
  have HL := Lib.hid h
  clear h
  go_enter Try.func19, Try.ntmps19
  go_wp2_with fail
  go_loopw [5, 10] (fun c i wr => ∃ k : Nat, k ≤ len ∧ i = .int .i64 k ∧ ∃ N : Int, c = .int .i64 N ∧ Hid (N = cnt ls n k ∧ Since w wr)) (fun c i _ => ((len : Int) - intOf i).toNat)
  case atStart => exact ⟨0, by omega, rfl, 0, rfl, Lib.hid ⟨rfl, (by repeat (first | exact Since.refl _ | assumption | refine Since.setCell ?_ (by first | (simp; done) | (simp; omega)) _ | refine Since.drew ?_ | refine Since.drewN ?_ _ | refine Since.alloc ?_ _ | refine Since.trans ?_ (by assumption) | refine Since.trans ?_ (Hid.out (by assumption))))⟩⟩
  case round =>
    obtain ⟨k, hk, rfl, N, rfl, HO⟩ := hrel
    have hN := cnt_bd ls n k
    by_cases hlt : k < len
    · have hk0 : (k : Int) < (len : Int) := by omega
      have hk1 : (0 : Int) ≤ (k : Int) := by omega
      have HJ := Lib.hid hlt
      obtain ⟨b, off, rfl, hb, hc⟩ := at_lease (HL.out.keep HO.out.2) hlt
      have l0 : wr.cell? ⟨b, off + k * 10, none⟩ = some (.int .i64 (ls k).se) := hc 0 _ rfl
      have l1 : wr.cell? ⟨b, off + k * 10 + 1, none⟩ = some (.int .i64 (ls k).fl) := hc 1 _ rfl
      have l2 : wr.cell? ⟨b, off + k * 10 + 2, none⟩ = some (.int .i64 (ls k).fm) := hc 2 _ rfl
      have l3 : wr.cell? ⟨b, off + k * 10 + 3, none⟩ = some (.int .i64 (ls k).to) := hc 3 _ rfl
      have l4 : wr.cell? ⟨b, off + k * 10 + 4, none⟩ = some (.int .i64 (ls k).ma) := hc 4 _ rfl
      have l5 : wr.cell? ⟨b, off + k * 10 + 5, none⟩ = some (.int .i64 (ls k).ca) := hc 5 _ rfl
      have l6 : wr.cell? ⟨b, off + k * 10 + 6, none⟩ = some (.int .i64 (ls k).ph) := hc 6 _ rfl
      have l7 : wr.cell? ⟨b, off + k * 10 + 7, none⟩ = some (.int .i64 (ls k).un) := hc 7 _ rfl
      have l8 : wr.cell? ⟨b, off + k * 10 + 8, none⟩ = some (.int .i64 (ls k).re) := hc 8 _ rfl
      have l9 : wr.cell? ⟨b, off + k * 10 + 9, none⟩ = some (.int .i64 (ls k).gr) := hc 9 _ rfl
      have HS := Lib.hid HO.out.2
      clear hc
      obtain ⟨hN0, hN1⟩ := hN
      have hNe := Lib.hid HO.out.1
      rw [← HO.out.1] at hN0 hN1
      clear HO
      by_cases hf : (ls k).fl = n
      · have hf' : ((ls k).fl == n) = true := by simpa using hf
        have HC := Lib.hid (show N + 1 = cnt ls n (k + 1) by rw [cnt, if_pos hf, hNe.out])
        clear hf
        go_wp2_with fail
        go_roundw
        case rel => exact ⟨k + 1, by have := HJ.out; omega, by go_num, cnt ls n (k + 1), by rw [← HC.out, hNe.out]; (try go_num), Lib.hid ⟨rfl, (by repeat (first | exact Since.refl _ | assumption | refine Since.setCell ?_ (by first | (simp; done) | (simp; omega)) _ | refine Since.drew ?_ | refine Since.drewN ?_ _ | refine Since.alloc ?_ _ | refine Since.trans ?_ (by assumption) | refine Since.trans ?_ (Hid.out (by assumption))))⟩⟩
        case measure => have := HJ.out; simp [intOf]; omega
      · have hf' : ((ls k).fl == n) = false := by simpa using hf
        have HC := Lib.hid (show N = cnt ls n (k + 1) by rw [cnt, if_neg hf, hNe.out]; simp)
        clear hf
        go_wp2_with fail
        go_roundw
        case rel => exact ⟨k + 1, by have := HJ.out; omega, by go_num, cnt ls n (k + 1), by rw [← HC.out, hNe.out], Lib.hid ⟨rfl, (by repeat (first | exact Since.refl _ | assumption | refine Since.setCell ?_ (by first | (simp; done) | (simp; omega)) _ | refine Since.drew ?_ | refine Since.drewN ?_ _ | refine Since.alloc ?_ _ | refine Since.trans ?_ (by assumption) | refine Since.trans ?_ (Hid.out (by assumption))))⟩⟩
        case measure => have := HJ.out; simp [intOf]; omega
    · obtain rfl : k = len := by omega
      obtain ⟨hh, S⟩ := HO.out
      have HH := Lib.hid hh
      have HS := Lib.hid S
      clear S hh HO
      go_wp2
      go_ret
      exact ⟨ret_int HH.out, HS.out⟩
set_option maxHeartbeats 1000000 in
theorem countR (a : Option Addr) (len cap : Nat) (ls : Nat → LeaseV) (n : Int) (w : World) (h : LV w a len ls) (hl : len ≤ 9223372036854775807) : Calls Try.prog 20 #[.slice a len cap, .int .i64 n] w fun e w' => e = .returned (.int .i64 (cnt ls n len)) ∧ Since w w' := by
  have hlI : (len : Int) ≤ 9223372036854775807 := by omega
  have HL := Lib.hid h
  clear h
  go_enter Try.func20, Try.ntmps20
  go_wp2_with fail
  go_loopw [5, 6] (fun c i wr => ∃ k : Nat, k ≤ len ∧ i = .int .i64 k ∧ ∃ N : Int, c = .int .i64 N ∧ Hid (N = cnt ls n k ∧ Since w wr)) (fun c i _ => ((len : Int) - intOf i).toNat)
  case atStart => exact ⟨0, by omega, rfl, 0, rfl, Lib.hid ⟨rfl, (by repeat (first | exact Since.refl _ | assumption | refine Since.setCell ?_ (by first | (simp; done) | (simp; omega)) _ | refine Since.drew ?_ | refine Since.drewN ?_ _ | refine Since.alloc ?_ _ | refine Since.trans ?_ (by assumption) | refine Since.trans ?_ (Hid.out (by assumption))))⟩⟩
  case round =>
    obtain ⟨k, hk, rfl, N, rfl, HO⟩ := hrel
    have hN := cnt_bd ls n k
    by_cases hlt : k < len
    · have hk0 : (k : Int) < (len : Int) := by omega
      have hk1 : (0 : Int) ≤ (k : Int) := by omega
      have HJ := Lib.hid hlt
      obtain ⟨b, off, rfl, hb, hc⟩ := at_lease (HL.out.keep HO.out.2) hlt
      have l0 : wr.cell? ⟨b, off + k * 10, none⟩ = some (.int .i64 (ls k).se) := hc 0 _ rfl
      have l1 : wr.cell? ⟨b, off + k * 10 + 1, none⟩ = some (.int .i64 (ls k).fl) := hc 1 _ rfl
      have l2 : wr.cell? ⟨b, off + k * 10 + 2, none⟩ = some (.int .i64 (ls k).fm) := hc 2 _ rfl
      have l3 : wr.cell? ⟨b, off + k * 10 + 3, none⟩ = some (.int .i64 (ls k).to) := hc 3 _ rfl
      have l4 : wr.cell? ⟨b, off + k * 10 + 4, none⟩ = some (.int .i64 (ls k).ma) := hc 4 _ rfl
      have l5 : wr.cell? ⟨b, off + k * 10 + 5, none⟩ = some (.int .i64 (ls k).ca) := hc 5 _ rfl
      have l6 : wr.cell? ⟨b, off + k * 10 + 6, none⟩ = some (.int .i64 (ls k).ph) := hc 6 _ rfl
      have l7 : wr.cell? ⟨b, off + k * 10 + 7, none⟩ = some (.int .i64 (ls k).un) := hc 7 _ rfl
      have l8 : wr.cell? ⟨b, off + k * 10 + 8, none⟩ = some (.int .i64 (ls k).re) := hc 8 _ rfl
      have l9 : wr.cell? ⟨b, off + k * 10 + 9, none⟩ = some (.int .i64 (ls k).gr) := hc 9 _ rfl
      have HS := Lib.hid HO.out.2
      clear hc
      obtain ⟨hN0, hN1⟩ := hN
      have hNe := Lib.hid HO.out.1
      rw [← HO.out.1] at hN0 hN1
      clear HO
      by_cases hf : (ls k).fl = n
      · have hf' : ((ls k).fl == n) = true := by simpa using hf
        have HC := Lib.hid (show N + 1 = cnt ls n (k + 1) by rw [cnt, if_pos hf, hNe.out])
        clear hf
        go_wp2_with fail
        go_roundw
        case rel => exact ⟨k + 1, by have := HJ.out; omega, by go_num, cnt ls n (k + 1), by rw [← HC.out, hNe.out]; (try go_num), Lib.hid ⟨rfl, (by repeat (first | exact Since.refl _ | assumption | refine Since.setCell ?_ (by first | (simp; done) | (simp; omega)) _ | refine Since.drew ?_ | refine Since.drewN ?_ _ | refine Since.alloc ?_ _ | refine Since.trans ?_ (by assumption) | refine Since.trans ?_ (Hid.out (by assumption))))⟩⟩
        case measure => have := HJ.out; simp [intOf]; omega
      · have hf' : ((ls k).fl == n) = false := by simpa using hf
        have HC := Lib.hid (show N = cnt ls n (k + 1) by rw [cnt, if_neg hf, hNe.out]; simp)
        clear hf
        go_wp2_with fail
        go_roundw
        case rel => exact ⟨k + 1, by have := HJ.out; omega, by go_num, cnt ls n (k + 1), by rw [← HC.out, hNe.out], Lib.hid ⟨rfl, (by repeat (first | exact Since.refl _ | assumption | refine Since.setCell ?_ (by first | (simp; done) | (simp; omega)) _ | refine Since.drew ?_ | refine Since.drewN ?_ _ | refine Since.alloc ?_ _ | refine Since.trans ?_ (by assumption) | refine Since.trans ?_ (Hid.out (by assumption))))⟩⟩
        case measure => have := HJ.out; simp [intOf]; omega
    · obtain rfl : k = len := by omega
      obtain ⟨hh, S⟩ := HO.out
      have HH := Lib.hid hh
      have HS := Lib.hid S
      clear S hh HO
      go_wp2
      go_ret
      exact ⟨ret_int HH.out, HS.out⟩
theorem quotaR (c : CfgV) (w : World) : Calls Try.prog 18 #[.agg #[.int .i64 c.ca, .int .i64 c.fl, .int .i64 c.ft, .int .i64 c.se, .int .i64 c.dr, .int .i64 c.dw, .int .i64 c.ho, .int .i64 c.re, .int .i64 c.yi, .int .i64 c.qu, .int .i64 c.qo, .int .i64 c.lo, .int .i64 c.sl, .int .i64 c.rt, .int .i64 c.cp, .int .i64 c.tr, .int .i64 c.de, .int .i64 c.wi]] w fun e w' => e = .returned (.int .i64 (btw c.qo 1 8)) ∧ Since w w' := by
  go_enter Try.func18, Try.ntmps18
  go_wp2_with (first | (go_at_call 63; refine (nearestR _ _ _ _).mono ?_; rintro e w' ⟨rfl, rfl⟩))
  go_ret
  exact ⟨rfl, (by repeat (first | exact Since.refl _ | assumption | refine Since.setCell ?_ (by first | (simp; done) | (simp; omega)) _ | refine Since.drew ?_ | refine Since.drewN ?_ _ | refine Since.alloc ?_ _ | refine Since.trans ?_ (by assumption) | refine Since.trans ?_ (Hid.out (by assumption))))⟩
theorem freeT (c : CfgV) (a : Option Addr) (len cap : Nat) (ls : Nat → LeaseV) (n : Int) (w : World) (h : LV w a len ls) (hl : len ≤ 9223372036854775807) : Calls Try.prog 21 #[.agg #[.int .i64 c.ca, .int .i64 c.fl, .int .i64 c.ft, .int .i64 c.se, .int .i64 c.dr, .int .i64 c.dw, .int .i64 c.ho, .int .i64 c.re, .int .i64 c.yi, .int .i64 c.qu, .int .i64 c.qo, .int .i64 c.lo, .int .i64 c.sl, .int .i64 c.rt, .int .i64 c.cp, .int .i64 c.tr, .int .i64 c.de, .int .i64 c.wi], .slice a len cap, .int .i64 n] w fun e w' => e = .returned (.bool (decide (cnt ls n len < btw c.qo 1 8))) ∧ Since w w' := by
  have HL := Lib.hid h
  clear h
  go_enter Try.func21, Try.ntmps21
  go_upto_region 1 with fail
  obtain ⟨w1, hw1⟩ : ∃ w1, w1 = w.alloc (.cells #[.int .i64 c.ca, .int .i64 c.fl, .int .i64 c.ft, .int .i64 c.se, .int .i64 c.dr, .int .i64 c.dw, .int .i64 c.ho, .int .i64 c.re, .int .i64 c.yi, .int .i64 c.qu, .int .i64 c.qo, .int .i64 c.lo, .int .i64 c.sl, .int .i64 c.rt, .int .i64 c.cp, .int .i64 c.tr, .int .i64 c.de, .int .i64 c.wi] 23) := ⟨_, rfl⟩
  rw [← hw1]
  have BC : Blk w1 w.heap.size 23 #[.int .i64 c.ca, .int .i64 c.fl, .int .i64 c.ft, .int .i64 c.se, .int .i64 c.dr, .int .i64 c.dw, .int .i64 c.ho, .int .i64 c.re, .int .i64 c.yi, .int .i64 c.qu, .int .i64 c.qo, .int .i64 c.lo, .int .i64 c.sl, .int .i64 c.rt, .int .i64 c.cp, .int .i64 c.tr, .int .i64 c.de, .int .i64 c.wi] := by rw [hw1]; exact Blk.new w _ _
  have HS1 := Lib.hid (show Since w w1 by rw [hw1]; exact (Since.refl w).alloc _)
  have HL1 := Lib.hid (LV.keep HS1.out HL.out)
  clear hw1
  have hrK : ∀ W W' : World, Since W W' → (Since w1 W ∧ Blk W (w.heap.size) 23 #[.int .i64 c.ca, .int .i64 c.fl, .int .i64 c.ft, .int .i64 c.se, .int .i64 c.dr, .int .i64 c.dw, .int .i64 c.ho, .int .i64 c.re, .int .i64 c.yi, .int .i64 c.qu, .int .i64 c.qo, .int .i64 c.lo, .int .i64 c.sl, .int .i64 c.rt, .int .i64 c.cp, .int .i64 c.tr, .int .i64 c.de, .int .i64 c.wi]) → (Since w1 W' ∧ Blk W' (w.heap.size) 23 #[.int .i64 c.ca, .int .i64 c.fl, .int .i64 c.ft, .int .i64 c.se, .int .i64 c.dr, .int .i64 c.dw, .int .i64 c.ho, .int .i64 c.re, .int .i64 c.yi, .int .i64 c.qu, .int .i64 c.qo, .int .i64 c.lo, .int .i64 c.sl, .int .i64 c.rt, .int .i64 c.cp, .int .i64 c.tr, .int .i64 c.de, .int .i64 c.wi]) := fun W W' k ⟨h, h0⟩ => ⟨h.trans k, keep_blk k h0⟩
  have hrS : (fun W : World => Since w1 W ∧ Blk W (w.heap.size) 23 #[.int .i64 c.ca, .int .i64 c.fl, .int .i64 c.ft, .int .i64 c.se, .int .i64 c.dr, .int .i64 c.dw, .int .i64 c.ho, .int .i64 c.re, .int .i64 c.yi, .int .i64 c.qu, .int .i64 c.qo, .int .i64 c.lo, .int .i64 c.sl, .int .i64 c.rt, .int .i64 c.cp, .int .i64 c.tr, .int .i64 c.de, .int .i64 c.wi]) (w1) := ⟨Since.refl _, by first | assumption | (simp; done)⟩
  have HRK := Lib.hid hrK
  have HRD := Lib.hid (show (fun W : World => Since w1 W ∧ Blk W (w.heap.size) 23 #[.int .i64 c.ca, .int .i64 c.fl, .int .i64 c.ft, .int .i64 c.se, .int .i64 c.dr, .int .i64 c.dw, .int .i64 c.ho, .int .i64 c.re, .int .i64 c.yi, .int .i64 c.qu, .int .i64 c.qo, .int .i64 c.lo, .int .i64 c.sl, .int .i64 c.rt, .int .i64 c.cp, .int .i64 c.tr, .int .i64 c.de, .int .i64 c.wi]) (World.drew (w1)) from ⟨(Since.refl _).drew, hrS.2⟩)
  clear hrK hrS
  refine wp_region_held_drew (S := fun W : World => Since w1 W ∧ Blk W (w.heap.size) 23 #[.int .i64 c.ca, .int .i64 c.fl, .int .i64 c.ft, .int .i64 c.se, .int .i64 c.dr, .int .i64 c.dw, .int .i64 c.ho, .int .i64 c.re, .int .i64 c.yi, .int .i64 c.qu, .int .i64 c.qo, .int .i64 c.lo, .int .i64 c.sl, .int .i64 c.rt, .int .i64 c.cp, .int .i64 c.tr, .int .i64 c.de, .int .i64 c.wi]) (by kernel_rfl) HRD.out (fun hHeld => ?_)
  refine wpAnyH_take (i := 0) (oi := ?of_0) (v := .slice a len cap) ?hf_0 (by kernel_rfl) (by kernel_rfl) (by kernel_rfl) ?qf_0 ?yf_0 (by assumption) ?_
  case hf_0 => (first | (simp only [List.getElem?_toArray, List.getElem?_cons_zero, List.getElem?_cons_succ]; done) | (simp only [List.getElem?_toArray, List.getElem?_cons_zero, List.getElem?_cons_succ]; exact rfl))
  case qf_0 => exact fun _ _ _ h => h
  case yf_0 => (refine Or.inl ⟨rfl, ?_⟩; intro w hSw; (try dsimp only at hSw); go_simp; (try with_reducible rfl))
  (try simp only [Act.put, List.setIfInBounds_toArray, List.set_cons_zero, List.set_cons_succ])
  refine wpAnyH_take (i := 1) (oi := ?of_1) (v := .int .i64 n) ?hf_1 (by kernel_rfl) (by kernel_rfl) (by kernel_rfl) ?qf_1 ?yf_1 (by assumption) ?_
  case hf_1 => (first | (simp only [List.getElem?_toArray, List.getElem?_cons_zero, List.getElem?_cons_succ]; done) | (simp only [List.getElem?_toArray, List.getElem?_cons_zero, List.getElem?_cons_succ]; exact rfl))
  case qf_1 => exact fun _ _ _ h => h
  case yf_1 => (refine Or.inl ⟨rfl, ?_⟩; intro w hSw; (try dsimp only at hSw); go_simp; (try with_reducible rfl))
  (try simp only [Act.put, List.setIfInBounds_toArray, List.set_cons_zero, List.set_cons_succ])
  refine wpAnyH_take (i := 3) (oi := ?of_3) (v := .agg #[.int .i64 c.ca, .int .i64 c.fl, .int .i64 c.ft, .int .i64 c.se, .int .i64 c.dr, .int .i64 c.dw, .int .i64 c.ho, .int .i64 c.re, .int .i64 c.yi, .int .i64 c.qu, .int .i64 c.qo, .int .i64 c.lo, .int .i64 c.sl, .int .i64 c.rt, .int .i64 c.cp, .int .i64 c.tr, .int .i64 c.de, .int .i64 c.wi]) ?hf_3 (by kernel_rfl) (by kernel_rfl) (by kernel_rfl) ?qf_3 ?yf_3 (by assumption) ?_
  case hf_3 => (first | (simp only [List.getElem?_toArray, List.getElem?_cons_zero, List.getElem?_cons_succ]; done) | (simp only [List.getElem?_toArray, List.getElem?_cons_zero, List.getElem?_cons_succ]; exact rfl))
  case qf_3 => exact fun _ _ _ h => h
  case yf_3 => exact Or.inl ⟨rfl, fun w hSw => exec_load_row 23 (.tmp 3) _ hSw.2 rfl rfl Try.underlying23 rfl (by kernel_rfl)⟩
  (try simp only [Act.put, List.setIfInBounds_toArray, List.set_cons_zero, List.set_cons_succ])
  refine wpAnyH_ready (rs := [2]) (by kernel_rfl) (by simp) ?_
  refine AllReadyH.cons (o := ?of_2) ?hf_2 (fun K hK => ?_) AllReadyH.nil
  case hf_2 => (first | (simp only [List.getElem?_toArray, List.getElem?_cons_zero, List.getElem?_cons_succ]; done) | (simp only [List.getElem?_toArray, List.getElem?_cons_zero, List.getElem?_cons_succ]; exact rfl))
  (try go_simp)
  (go_at_call 19; refine (countT a len cap ls n _ (LV.keep hHeld.1 HL1.out) hl).mono ?_; rintro e w9 ⟨rfl, hb9⟩)
  (try go_wp2_with fail)
  refine hK.out _ _ ?_ (fun hHeld2 => ?_)
  · first | exact HRD.out | exact hHeld | (apply HRK.out; assumption; assumption)
  clear hK K hHeld
  have hHeld := hHeld2
  clear hHeld2
  (try simp only [Act.put, List.setIfInBounds_toArray, List.set_cons_zero, List.set_cons_succ])
  refine wpAnyH_ready (rs := [4]) (by kernel_rfl) (by simp) ?_
  refine AllReadyH.cons (o := ?of_4) ?hf_4 (fun K hK => ?_) AllReadyH.nil
  case hf_4 => (first | (simp only [List.getElem?_toArray, List.getElem?_cons_zero, List.getElem?_cons_succ]; done) | (simp only [List.getElem?_toArray, List.getElem?_cons_zero, List.getElem?_cons_succ]; exact rfl))
  (try go_simp)
  (go_at_call 17; refine (quotaT c _).mono ?_; rintro e w9 ⟨rfl, hb9⟩)
  (try go_wp2_with fail)
  refine hK.out _ _ ?_ (fun hHeld2 => ?_)
  · first | exact HRD.out | exact hHeld | (apply HRK.out; assumption; assumption)
  clear hK K hHeld
  have hHeld := hHeld2
  clear hHeld2
  (try simp only [Act.put, List.setIfInBounds_toArray, List.set_cons_zero, List.set_cons_succ])
  refine wpAnyH_take (i := 5) (oi := ?of_5) (v := ?vf_5) ?hf_5 (by kernel_rfl) (by kernel_rfl) (by kernel_rfl) ?qf_5 ?yf_5 (by assumption) ?_
  case hf_5 => (first | (simp only [List.getElem?_toArray, List.getElem?_cons_zero, List.getElem?_cons_succ]; done) | (simp only [List.getElem?_toArray, List.getElem?_cons_zero, List.getElem?_cons_succ]; exact rfl))
  case qf_5 => exact fun _ _ _ h => h
  case yf_5 => (refine Or.inl ⟨rfl, ?_⟩; intro w hSw; (try dsimp only at hSw); go_simp; (try with_reducible rfl))
  (try simp only [Act.put, List.setIfInBounds_toArray, List.set_cons_zero, List.set_cons_succ])
  refine wpAnyH_take (i := 6) (oi := ?of_6) (v := ?vf_6) ?hf_6 (by kernel_rfl) (by kernel_rfl) (by kernel_rfl) ?qf_6 ?yf_6 (by assumption) ?_
  case hf_6 => (first | (simp only [List.getElem?_toArray, List.getElem?_cons_zero, List.getElem?_cons_succ]; done) | (simp only [List.getElem?_toArray, List.getElem?_cons_zero, List.getElem?_cons_succ]; exact rfl))
  case qf_6 => exact fun _ _ _ h => h
  case yf_6 => (refine Or.inl ⟨rfl, ?_⟩; intro w hSw; (try dsimp only at hSw); go_simp; (try with_reducible rfl))
  (try simp only [Act.put, List.setIfInBounds_toArray, List.set_cons_zero, List.set_cons_succ])
  refine wpAnyH_done (by kernel_rfl) ?_ _
  obtain ⟨hs2, _⟩ := hHeld
  have HS2 := Lib.hid hs2
  clear hs2 HRK HRD
  go_wp2
  go_ret
  exact ⟨rfl, HS1.out.trans HS2.out⟩
set_option maxHeartbeats 4000000 in
theorem counts (c : CfgV) (a : Option Addr) (len cap : Nat) (ls : Nat → LeaseV) (n : Int) (w : World) (h : LV w a len ls) (hl : len ≤ 9223372036854775807) : Calls Try.prog 3 #[.agg #[.int .i64 c.ca, .int .i64 c.fl, .int .i64 c.ft, .int .i64 c.se, .int .i64 c.dr, .int .i64 c.dw, .int .i64 c.ho, .int .i64 c.re, .int .i64 c.yi, .int .i64 c.qu, .int .i64 c.qo, .int .i64 c.lo, .int .i64 c.sl, .int .i64 c.rt, .int .i64 c.cp, .int .i64 c.tr, .int .i64 c.de, .int .i64 c.wi], .slice a len cap, .int .i64 n] w fun e w' => e = .returned (.bool true) ∧ Since w w' := by
  have HL := Lib.hid h
  clear h
  go_enter Try.func3, Try.ntmps3
  go_upto_region 1 with fail
  obtain ⟨w1, hw1⟩ : ∃ w1, w1 = w.alloc (.cells #[.int .i64 c.ca, .int .i64 c.fl, .int .i64 c.ft, .int .i64 c.se, .int .i64 c.dr, .int .i64 c.dw, .int .i64 c.ho, .int .i64 c.re, .int .i64 c.yi, .int .i64 c.qu, .int .i64 c.qo, .int .i64 c.lo, .int .i64 c.sl, .int .i64 c.rt, .int .i64 c.cp, .int .i64 c.tr, .int .i64 c.de, .int .i64 c.wi] 23) := ⟨_, rfl⟩
  rw [← hw1]
  have BC : Blk w1 w.heap.size 23 #[.int .i64 c.ca, .int .i64 c.fl, .int .i64 c.ft, .int .i64 c.se, .int .i64 c.dr, .int .i64 c.dw, .int .i64 c.ho, .int .i64 c.re, .int .i64 c.yi, .int .i64 c.qu, .int .i64 c.qo, .int .i64 c.lo, .int .i64 c.sl, .int .i64 c.rt, .int .i64 c.cp, .int .i64 c.tr, .int .i64 c.de, .int .i64 c.wi] := by rw [hw1]; exact Blk.new w _ _
  have HS1 := Lib.hid (show Since w w1 by rw [hw1]; exact (Since.refl w).alloc _)
  have HL1 := Lib.hid (LV.keep HS1.out HL.out)
  clear hw1
  by_cases hbig : 200 < len
  · have hb' : (200 : Int) < (len : Int) := by omega
    clear BC
    go_wp2_with fail
    refine (ans _).mono ?_
    rintro e w2 ⟨rfl, hb2⟩
    go_wp2
    go_ret
    exact ⟨rfl, HS1.out.trans hb2⟩
  · have hb' : (len : Int) ≤ 200 := by omega
    go_upto_region 3 with fail
    have hrK : ∀ W W' : World, Since W W' → (Since w1 W ∧ Blk W (w.heap.size) 23 #[.int .i64 c.ca, .int .i64 c.fl, .int .i64 c.ft, .int .i64 c.se, .int .i64 c.dr, .int .i64 c.dw, .int .i64 c.ho, .int .i64 c.re, .int .i64 c.yi, .int .i64 c.qu, .int .i64 c.qo, .int .i64 c.lo, .int .i64 c.sl, .int .i64 c.rt, .int .i64 c.cp, .int .i64 c.tr, .int .i64 c.de, .int .i64 c.wi]) → (Since w1 W' ∧ Blk W' (w.heap.size) 23 #[.int .i64 c.ca, .int .i64 c.fl, .int .i64 c.ft, .int .i64 c.se, .int .i64 c.dr, .int .i64 c.dw, .int .i64 c.ho, .int .i64 c.re, .int .i64 c.yi, .int .i64 c.qu, .int .i64 c.qo, .int .i64 c.lo, .int .i64 c.sl, .int .i64 c.rt, .int .i64 c.cp, .int .i64 c.tr, .int .i64 c.de, .int .i64 c.wi]) := fun W W' k ⟨h, h0⟩ => ⟨h.trans k, keep_blk k h0⟩
    have hrS : (fun W : World => Since w1 W ∧ Blk W (w.heap.size) 23 #[.int .i64 c.ca, .int .i64 c.fl, .int .i64 c.ft, .int .i64 c.se, .int .i64 c.dr, .int .i64 c.dw, .int .i64 c.ho, .int .i64 c.re, .int .i64 c.yi, .int .i64 c.qu, .int .i64 c.qo, .int .i64 c.lo, .int .i64 c.sl, .int .i64 c.rt, .int .i64 c.cp, .int .i64 c.tr, .int .i64 c.de, .int .i64 c.wi]) (w1) := ⟨Since.refl _, by first | assumption | (simp; done)⟩
    have HRK := Lib.hid hrK
    have HRD := Lib.hid (show (fun W : World => Since w1 W ∧ Blk W (w.heap.size) 23 #[.int .i64 c.ca, .int .i64 c.fl, .int .i64 c.ft, .int .i64 c.se, .int .i64 c.dr, .int .i64 c.dw, .int .i64 c.ho, .int .i64 c.re, .int .i64 c.yi, .int .i64 c.qu, .int .i64 c.qo, .int .i64 c.lo, .int .i64 c.sl, .int .i64 c.rt, .int .i64 c.cp, .int .i64 c.tr, .int .i64 c.de, .int .i64 c.wi]) (World.drew (w1)) from ⟨(Since.refl _).drew, hrS.2⟩)
    clear hrK hrS
    refine wp_region_held_drew (S := fun W : World => Since w1 W ∧ Blk W (w.heap.size) 23 #[.int .i64 c.ca, .int .i64 c.fl, .int .i64 c.ft, .int .i64 c.se, .int .i64 c.dr, .int .i64 c.dw, .int .i64 c.ho, .int .i64 c.re, .int .i64 c.yi, .int .i64 c.qu, .int .i64 c.qo, .int .i64 c.lo, .int .i64 c.sl, .int .i64 c.rt, .int .i64 c.cp, .int .i64 c.tr, .int .i64 c.de, .int .i64 c.wi]) (by kernel_rfl) HRD.out (fun hHeld => ?_)
    refine wpAnyH_ready (rs := [0]) (by kernel_rfl) (by simp) ?_
    refine AllReadyH.cons (o := ?ol_0) ?hl_0 (fun K hK => ?_) AllReadyH.nil
    case hl_0 => (first | (simp only [List.getElem?_toArray, List.getElem?_cons_zero, List.getElem?_cons_succ]; done) | (simp only [List.getElem?_toArray, List.getElem?_cons_zero, List.getElem?_cons_succ]; exact rfl))
    (try go_simp)
    (go_at_call 16; refine (ans _).mono ?_; rintro e w9 ⟨rfl, hb9⟩)
    (try go_wp2_with fail)
    refine hK.out _ _ ?_ (fun hHeld2 => ?_)
    · first | exact HRD.out | exact hHeld | (apply HRK.out; assumption; assumption)
    clear hK K hHeld
    have hHeld := hHeld2
    clear hHeld2
    (try simp only [Act.put, List.setIfInBounds_toArray, List.set_cons_zero, List.set_cons_succ])
    refine wpAnyH_take (i := 1) (oi := ?ol_1) (v := .bool true) ?hl_1 (by kernel_rfl) (by kernel_rfl) (by kernel_rfl) ?ql_1 ?yl_1 (by assumption) ?_
    case hl_1 => (first | (simp only [List.getElem?_toArray, List.getElem?_cons_zero, List.getElem?_cons_succ]; done) | (simp only [List.getElem?_toArray, List.getElem?_cons_zero, List.getElem?_cons_succ]; exact rfl))
    case ql_1 => exact fun _ _ _ h => h
    case yl_1 => (refine Or.inl ⟨rfl, ?_⟩; intro w hSw; (try dsimp only at hSw); go_simp; (try with_reducible rfl))
    (try simp only [Act.put, List.setIfInBounds_toArray, List.set_cons_zero, List.set_cons_succ])
    refine wpAnyH_take (i := 2) (oi := ?ol_2) (v := .agg #[.int .i64 c.ca, .int .i64 c.fl, .int .i64 c.ft, .int .i64 c.se, .int .i64 c.dr, .int .i64 c.dw, .int .i64 c.ho, .int .i64 c.re, .int .i64 c.yi, .int .i64 c.qu, .int .i64 c.qo, .int .i64 c.lo, .int .i64 c.sl, .int .i64 c.rt, .int .i64 c.cp, .int .i64 c.tr, .int .i64 c.de, .int .i64 c.wi]) ?hl_2 (by kernel_rfl) (by kernel_rfl) (by kernel_rfl) ?ql_2 ?yl_2 (by assumption) ?_
    case hl_2 => (first | (simp only [List.getElem?_toArray, List.getElem?_cons_zero, List.getElem?_cons_succ]; done) | (simp only [List.getElem?_toArray, List.getElem?_cons_zero, List.getElem?_cons_succ]; exact rfl))
    case ql_2 => exact fun _ _ _ h => h
    case yl_2 => exact Or.inl ⟨rfl, fun w hSw => exec_load_row 23 (.tmp 3) _ hSw.2 rfl rfl Try.underlying23 rfl (by kernel_rfl)⟩
    (try simp only [Act.put, List.setIfInBounds_toArray, List.set_cons_zero, List.set_cons_succ])
    refine wpAnyH_take (i := 4) (oi := ?ol_4) (v := .agg #[.int .i64 c.ca, .int .i64 c.fl, .int .i64 c.ft, .int .i64 c.se, .int .i64 c.dr, .int .i64 c.dw, .int .i64 c.ho, .int .i64 c.re, .int .i64 c.yi, .int .i64 c.qu, .int .i64 c.qo, .int .i64 c.lo, .int .i64 c.sl, .int .i64 c.rt, .int .i64 c.cp, .int .i64 c.tr, .int .i64 c.de, .int .i64 c.wi]) ?hl_4 (by kernel_rfl) (by kernel_rfl) (by kernel_rfl) ?ql_4 ?yl_4 (by assumption) ?_
    case hl_4 => (first | (simp only [List.getElem?_toArray, List.getElem?_cons_zero, List.getElem?_cons_succ]; done) | (simp only [List.getElem?_toArray, List.getElem?_cons_zero, List.getElem?_cons_succ]; exact rfl))
    case ql_4 => exact fun _ _ _ h => h
    case yl_4 => exact Or.inl ⟨rfl, fun w hSw => exec_load_row 23 (.tmp 3) _ hSw.2 rfl rfl Try.underlying23 rfl (by kernel_rfl)⟩
    (try simp only [Act.put, List.setIfInBounds_toArray, List.set_cons_zero, List.set_cons_succ])
    refine wpAnyH_ready (rs := [3]) (by kernel_rfl) (by simp) ?_
    refine AllReadyH.cons (o := ?ol_3) ?hl_3 (fun K hK => ?_) AllReadyH.nil
    case hl_3 => (first | (simp only [List.getElem?_toArray, List.getElem?_cons_zero, List.getElem?_cons_succ]; done) | (simp only [List.getElem?_toArray, List.getElem?_cons_zero, List.getElem?_cons_succ]; exact rfl))
    (try go_simp)
    (go_at_call 17; refine (quotaT c _).mono ?_; rintro e w9 ⟨rfl, hb9⟩)
    (try go_wp2_with fail)
    refine hK.out _ _ ?_ (fun hHeld2 => ?_)
    · first | exact HRD.out | exact hHeld | (apply HRK.out; assumption; assumption)
    clear hK K hHeld
    have hHeld := hHeld2
    clear hHeld2
    (try simp only [Act.put, List.setIfInBounds_toArray, List.set_cons_zero, List.set_cons_succ])
    refine wpAnyH_ready (rs := [5]) (by kernel_rfl) (by simp) ?_
    refine AllReadyH.cons (o := ?ol_5) ?hl_5 (fun K hK => ?_) AllReadyH.nil
    case hl_5 => (first | (simp only [List.getElem?_toArray, List.getElem?_cons_zero, List.getElem?_cons_succ]; done) | (simp only [List.getElem?_toArray, List.getElem?_cons_zero, List.getElem?_cons_succ]; exact rfl))
    (try go_simp)
    (go_at_call 18; refine (quotaR c _).mono ?_; rintro e w9 ⟨rfl, hb9⟩)
    (try go_wp2_with fail)
    refine hK.out _ _ ?_ (fun hHeld2 => ?_)
    · first | exact HRD.out | exact hHeld | (apply HRK.out; assumption; assumption)
    clear hK K hHeld
    have hHeld := hHeld2
    clear hHeld2
    (try simp only [Act.put, List.setIfInBounds_toArray, List.set_cons_zero, List.set_cons_succ])
    refine wpAnyH_take (i := 6) (oi := ?ol_6) (v := .bool true) ?hl_6 (by kernel_rfl) (by kernel_rfl) (by kernel_rfl) ?ql_6 ?yl_6 (by assumption) ?_
    case hl_6 => (first | (simp only [List.getElem?_toArray, List.getElem?_cons_zero, List.getElem?_cons_succ]; done) | (simp only [List.getElem?_toArray, List.getElem?_cons_zero, List.getElem?_cons_succ]; exact rfl))
    case ql_6 => exact fun _ _ _ h => h
    case yl_6 => (refine Or.inl ⟨rfl, ?_⟩; intro w hSw; (try dsimp only at hSw); go_simp; (try with_reducible rfl))
    (try simp only [Act.put, List.setIfInBounds_toArray, List.set_cons_zero, List.set_cons_succ])
    refine wpAnyH_take (i := 7) (oi := ?ol_7) (v := .bool true) ?hl_7 (by kernel_rfl) (by kernel_rfl) (by kernel_rfl) ?ql_7 ?yl_7 (by assumption) ?_
    case hl_7 => (first | (simp only [List.getElem?_toArray, List.getElem?_cons_zero, List.getElem?_cons_succ]; done) | (simp only [List.getElem?_toArray, List.getElem?_cons_zero, List.getElem?_cons_succ]; exact rfl))
    case ql_7 => exact fun _ _ _ h => h
    case yl_7 => (refine Or.inl ⟨rfl, ?_⟩; intro w hSw; (try dsimp only at hSw); go_simp; (try with_reducible rfl))
    (try simp only [Act.put, List.setIfInBounds_toArray, List.set_cons_zero, List.set_cons_succ])
    refine wpAnyH_take (i := 8) (oi := ?ol_8) (v := .bool true) ?hl_8 (by kernel_rfl) (by kernel_rfl) (by kernel_rfl) ?ql_8 ?yl_8 (by assumption) ?_
    case hl_8 => (first | (simp only [List.getElem?_toArray, List.getElem?_cons_zero, List.getElem?_cons_succ]; done) | (simp only [List.getElem?_toArray, List.getElem?_cons_zero, List.getElem?_cons_succ]; exact rfl))
    case ql_8 => exact fun _ _ _ h => h
    case yl_8 => (refine Or.inl ⟨rfl, ?_⟩; intro w hSw; (try dsimp only at hSw); go_simp; (try with_reducible rfl))
    (try simp only [Act.put, List.setIfInBounds_toArray, List.set_cons_zero, List.set_cons_succ])
    refine wpAnyH_take (i := 9) (oi := ?ol_9) (v := .slice a len cap) ?hl_9 (by kernel_rfl) (by kernel_rfl) (by kernel_rfl) ?ql_9 ?yl_9 (by assumption) ?_
    case hl_9 => (first | (simp only [List.getElem?_toArray, List.getElem?_cons_zero, List.getElem?_cons_succ]; done) | (simp only [List.getElem?_toArray, List.getElem?_cons_zero, List.getElem?_cons_succ]; exact rfl))
    case ql_9 => exact fun _ _ _ h => h
    case yl_9 => (refine Or.inl ⟨rfl, ?_⟩; intro w hSw; (try dsimp only at hSw); go_simp; (try with_reducible rfl))
    (try simp only [Act.put, List.setIfInBounds_toArray, List.set_cons_zero, List.set_cons_succ])
    refine wpAnyH_take (i := 10) (oi := ?ol_10) (v := .int .i64 n) ?hl_10 (by kernel_rfl) (by kernel_rfl) (by kernel_rfl) ?ql_10 ?yl_10 (by assumption) ?_
    case hl_10 => (first | (simp only [List.getElem?_toArray, List.getElem?_cons_zero, List.getElem?_cons_succ]; done) | (simp only [List.getElem?_toArray, List.getElem?_cons_zero, List.getElem?_cons_succ]; exact rfl))
    case ql_10 => exact fun _ _ _ h => h
    case yl_10 => (refine Or.inl ⟨rfl, ?_⟩; intro w hSw; (try dsimp only at hSw); go_simp; (try with_reducible rfl))
    (try simp only [Act.put, List.setIfInBounds_toArray, List.set_cons_zero, List.set_cons_succ])
    refine wpAnyH_take (i := 12) (oi := ?ol_12) (v := .slice a len cap) ?hl_12 (by kernel_rfl) (by kernel_rfl) (by kernel_rfl) ?ql_12 ?yl_12 (by assumption) ?_
    case hl_12 => (first | (simp only [List.getElem?_toArray, List.getElem?_cons_zero, List.getElem?_cons_succ]; done) | (simp only [List.getElem?_toArray, List.getElem?_cons_zero, List.getElem?_cons_succ]; exact rfl))
    case ql_12 => exact fun _ _ _ h => h
    case yl_12 => (refine Or.inl ⟨rfl, ?_⟩; intro w hSw; (try dsimp only at hSw); go_simp; (try with_reducible rfl))
    (try simp only [Act.put, List.setIfInBounds_toArray, List.set_cons_zero, List.set_cons_succ])
    refine wpAnyH_take (i := 13) (oi := ?ol_13) (v := .int .i64 n) ?hl_13 (by kernel_rfl) (by kernel_rfl) (by kernel_rfl) ?ql_13 ?yl_13 (by assumption) ?_
    case hl_13 => (first | (simp only [List.getElem?_toArray, List.getElem?_cons_zero, List.getElem?_cons_succ]; done) | (simp only [List.getElem?_toArray, List.getElem?_cons_zero, List.getElem?_cons_succ]; exact rfl))
    case ql_13 => exact fun _ _ _ h => h
    case yl_13 => (refine Or.inl ⟨rfl, ?_⟩; intro w hSw; (try dsimp only at hSw); go_simp; (try with_reducible rfl))
    (try simp only [Act.put, List.setIfInBounds_toArray, List.set_cons_zero, List.set_cons_succ])
    refine wpAnyH_ready (rs := [11]) (by kernel_rfl) (by simp) ?_
    refine AllReadyH.cons (o := ?ol_11) ?hl_11 (fun K hK => ?_) AllReadyH.nil
    case hl_11 => (first | (simp only [List.getElem?_toArray, List.getElem?_cons_zero, List.getElem?_cons_succ]; done) | (simp only [List.getElem?_toArray, List.getElem?_cons_zero, List.getElem?_cons_succ]; exact rfl))
    (try go_simp)
    (go_at_call 19; refine (countT a len cap ls n _ (LV.keep hHeld.1 HL1.out) hl).mono ?_; rintro e w9 ⟨rfl, hb9⟩)
    (try go_wp2_with fail)
    refine hK.out _ _ ?_ (fun hHeld2 => ?_)
    · first | exact HRD.out | exact hHeld | (apply HRK.out; assumption; assumption)
    clear hK K hHeld
    have hHeld := hHeld2
    clear hHeld2
    (try simp only [Act.put, List.setIfInBounds_toArray, List.set_cons_zero, List.set_cons_succ])
    refine wpAnyH_ready (rs := [14]) (by kernel_rfl) (by simp) ?_
    refine AllReadyH.cons (o := ?ol_14) ?hl_14 (fun K hK => ?_) AllReadyH.nil
    case hl_14 => (first | (simp only [List.getElem?_toArray, List.getElem?_cons_zero, List.getElem?_cons_succ]; done) | (simp only [List.getElem?_toArray, List.getElem?_cons_zero, List.getElem?_cons_succ]; exact rfl))
    (try go_simp)
    (go_at_call 20; refine (countR a len cap ls n _ (LV.keep hHeld.1 HL1.out) hl).mono ?_; rintro e w9 ⟨rfl, hb9⟩)
    (try go_wp2_with fail)
    refine hK.out _ _ ?_ (fun hHeld2 => ?_)
    · first | exact HRD.out | exact hHeld | (apply HRK.out; assumption; assumption)
    clear hK K hHeld
    have hHeld := hHeld2
    clear hHeld2
    (try simp only [Act.put, List.setIfInBounds_toArray, List.set_cons_zero, List.set_cons_succ])
    refine wpAnyH_take (i := 15) (oi := ?ol_15) (v := .bool true) ?hl_15 (by kernel_rfl) (by kernel_rfl) (by kernel_rfl) ?ql_15 ?yl_15 (by assumption) ?_
    case hl_15 => (first | (simp only [List.getElem?_toArray, List.getElem?_cons_zero, List.getElem?_cons_succ]; done) | (simp only [List.getElem?_toArray, List.getElem?_cons_zero, List.getElem?_cons_succ]; exact rfl))
    case ql_15 => exact fun _ _ _ h => h
    case yl_15 => (refine Or.inl ⟨rfl, ?_⟩; intro w hSw; (try dsimp only at hSw); go_simp; (try with_reducible rfl))
    (try simp only [Act.put, List.setIfInBounds_toArray, List.set_cons_zero, List.set_cons_succ])
    refine wpAnyH_take (i := 16) (oi := ?ol_16) (v := .bool true) ?hl_16 (by kernel_rfl) (by kernel_rfl) (by kernel_rfl) ?ql_16 ?yl_16 (by assumption) ?_
    case hl_16 => (first | (simp only [List.getElem?_toArray, List.getElem?_cons_zero, List.getElem?_cons_succ]; done) | (simp only [List.getElem?_toArray, List.getElem?_cons_zero, List.getElem?_cons_succ]; exact rfl))
    case ql_16 => exact fun _ _ _ h => h
    case yl_16 => (refine Or.inl ⟨rfl, ?_⟩; intro w hSw; (try dsimp only at hSw); go_simp; (try with_reducible rfl))
    (try simp only [Act.put, List.setIfInBounds_toArray, List.set_cons_zero, List.set_cons_succ])
    refine wpAnyH_take (i := 17) (oi := ?ol_17) (v := .bool true) ?hl_17 (by kernel_rfl) (by kernel_rfl) (by kernel_rfl) ?ql_17 ?yl_17 (by assumption) ?_
    case hl_17 => (first | (simp only [List.getElem?_toArray, List.getElem?_cons_zero, List.getElem?_cons_succ]; done) | (simp only [List.getElem?_toArray, List.getElem?_cons_zero, List.getElem?_cons_succ]; exact rfl))
    case ql_17 => exact fun _ _ _ h => h
    case yl_17 => (refine Or.inl ⟨rfl, ?_⟩; intro w hSw; (try dsimp only at hSw); go_simp; (try with_reducible rfl))
    (try simp only [Act.put, List.setIfInBounds_toArray, List.set_cons_zero, List.set_cons_succ])
    refine wpAnyH_take (i := 18) (oi := ?ol_18) (v := .agg #[.int .i64 c.ca, .int .i64 c.fl, .int .i64 c.ft, .int .i64 c.se, .int .i64 c.dr, .int .i64 c.dw, .int .i64 c.ho, .int .i64 c.re, .int .i64 c.yi, .int .i64 c.qu, .int .i64 c.qo, .int .i64 c.lo, .int .i64 c.sl, .int .i64 c.rt, .int .i64 c.cp, .int .i64 c.tr, .int .i64 c.de, .int .i64 c.wi]) ?hl_18 (by kernel_rfl) (by kernel_rfl) (by kernel_rfl) ?ql_18 ?yl_18 (by assumption) ?_
    case hl_18 => (first | (simp only [List.getElem?_toArray, List.getElem?_cons_zero, List.getElem?_cons_succ]; done) | (simp only [List.getElem?_toArray, List.getElem?_cons_zero, List.getElem?_cons_succ]; exact rfl))
    case ql_18 => exact fun _ _ _ h => h
    case yl_18 => exact Or.inl ⟨rfl, fun w hSw => exec_load_row 23 (.tmp 3) _ hSw.2 rfl rfl Try.underlying23 rfl (by kernel_rfl)⟩
    (try simp only [Act.put, List.setIfInBounds_toArray, List.set_cons_zero, List.set_cons_succ])
    refine wpAnyH_take (i := 19) (oi := ?ol_19) (v := .slice a len cap) ?hl_19 (by kernel_rfl) (by kernel_rfl) (by kernel_rfl) ?ql_19 ?yl_19 (by assumption) ?_
    case hl_19 => (first | (simp only [List.getElem?_toArray, List.getElem?_cons_zero, List.getElem?_cons_succ]; done) | (simp only [List.getElem?_toArray, List.getElem?_cons_zero, List.getElem?_cons_succ]; exact rfl))
    case ql_19 => exact fun _ _ _ h => h
    case yl_19 => (refine Or.inl ⟨rfl, ?_⟩; intro w hSw; (try dsimp only at hSw); go_simp; (try with_reducible rfl))
    (try simp only [Act.put, List.setIfInBounds_toArray, List.set_cons_zero, List.set_cons_succ])
    refine wpAnyH_take (i := 20) (oi := ?ol_20) (v := .int .i64 n) ?hl_20 (by kernel_rfl) (by kernel_rfl) (by kernel_rfl) ?ql_20 ?yl_20 (by assumption) ?_
    case hl_20 => (first | (simp only [List.getElem?_toArray, List.getElem?_cons_zero, List.getElem?_cons_succ]; done) | (simp only [List.getElem?_toArray, List.getElem?_cons_zero, List.getElem?_cons_succ]; exact rfl))
    case ql_20 => exact fun _ _ _ h => h
    case yl_20 => (refine Or.inl ⟨rfl, ?_⟩; intro w hSw; (try dsimp only at hSw); go_simp; (try with_reducible rfl))
    (try simp only [Act.put, List.setIfInBounds_toArray, List.set_cons_zero, List.set_cons_succ])
    refine wpAnyH_take (i := 22) (oi := ?ol_22) (v := .slice a len cap) ?hl_22 (by kernel_rfl) (by kernel_rfl) (by kernel_rfl) ?ql_22 ?yl_22 (by assumption) ?_
    case hl_22 => (first | (simp only [List.getElem?_toArray, List.getElem?_cons_zero, List.getElem?_cons_succ]; done) | (simp only [List.getElem?_toArray, List.getElem?_cons_zero, List.getElem?_cons_succ]; exact rfl))
    case ql_22 => exact fun _ _ _ h => h
    case yl_22 => (refine Or.inl ⟨rfl, ?_⟩; intro w hSw; (try dsimp only at hSw); go_simp; (try with_reducible rfl))
    (try simp only [Act.put, List.setIfInBounds_toArray, List.set_cons_zero, List.set_cons_succ])
    refine wpAnyH_take (i := 23) (oi := ?ol_23) (v := .int .i64 n) ?hl_23 (by kernel_rfl) (by kernel_rfl) (by kernel_rfl) ?ql_23 ?yl_23 (by assumption) ?_
    case hl_23 => (first | (simp only [List.getElem?_toArray, List.getElem?_cons_zero, List.getElem?_cons_succ]; done) | (simp only [List.getElem?_toArray, List.getElem?_cons_zero, List.getElem?_cons_succ]; exact rfl))
    case ql_23 => exact fun _ _ _ h => h
    case yl_23 => (refine Or.inl ⟨rfl, ?_⟩; intro w hSw; (try dsimp only at hSw); go_simp; (try with_reducible rfl))
    (try simp only [Act.put, List.setIfInBounds_toArray, List.set_cons_zero, List.set_cons_succ])
    refine wpAnyH_take (i := 25) (oi := ?ol_25) (v := .agg #[.int .i64 c.ca, .int .i64 c.fl, .int .i64 c.ft, .int .i64 c.se, .int .i64 c.dr, .int .i64 c.dw, .int .i64 c.ho, .int .i64 c.re, .int .i64 c.yi, .int .i64 c.qu, .int .i64 c.qo, .int .i64 c.lo, .int .i64 c.sl, .int .i64 c.rt, .int .i64 c.cp, .int .i64 c.tr, .int .i64 c.de, .int .i64 c.wi]) ?hl_25 (by kernel_rfl) (by kernel_rfl) (by kernel_rfl) ?ql_25 ?yl_25 (by assumption) ?_
    case hl_25 => (first | (simp only [List.getElem?_toArray, List.getElem?_cons_zero, List.getElem?_cons_succ]; done) | (simp only [List.getElem?_toArray, List.getElem?_cons_zero, List.getElem?_cons_succ]; exact rfl))
    case ql_25 => exact fun _ _ _ h => h
    case yl_25 => exact Or.inl ⟨rfl, fun w hSw => exec_load_row 23 (.tmp 3) _ hSw.2 rfl rfl Try.underlying23 rfl (by kernel_rfl)⟩
    (try simp only [Act.put, List.setIfInBounds_toArray, List.set_cons_zero, List.set_cons_succ])
    refine wpAnyH_ready (rs := [21]) (by kernel_rfl) (by simp) ?_
    refine AllReadyH.cons (o := ?ol_21) ?hl_21 (fun K hK => ?_) AllReadyH.nil
    case hl_21 => (first | (simp only [List.getElem?_toArray, List.getElem?_cons_zero, List.getElem?_cons_succ]; done) | (simp only [List.getElem?_toArray, List.getElem?_cons_zero, List.getElem?_cons_succ]; exact rfl))
    (try go_simp)
    (go_at_call 21; refine (freeT c a len cap ls n _ (LV.keep hHeld.1 HL1.out) hl).mono ?_; rintro e w9 ⟨rfl, hb9⟩)
    (try go_wp2_with fail)
    refine hK.out _ _ ?_ (fun hHeld2 => ?_)
    · first | exact HRD.out | exact hHeld | (apply HRK.out; assumption; assumption)
    clear hK K hHeld
    have hHeld := hHeld2
    clear hHeld2
    (try simp only [Act.put, List.setIfInBounds_toArray, List.set_cons_zero, List.set_cons_succ])
    refine wpAnyH_ready (rs := [24]) (by kernel_rfl) (by simp) ?_
    refine AllReadyH.cons (o := ?ol_24) ?hl_24 (fun K hK => ?_) AllReadyH.nil
    case hl_24 => (first | (simp only [List.getElem?_toArray, List.getElem?_cons_zero, List.getElem?_cons_succ]; done) | (simp only [List.getElem?_toArray, List.getElem?_cons_zero, List.getElem?_cons_succ]; exact rfl))
    (try go_simp)
    (go_at_call 20; refine (countR a len cap ls n _ (LV.keep hHeld.1 HL1.out) hl).mono ?_; rintro e w9 ⟨rfl, hb9⟩)
    (try go_wp2_with fail)
    refine hK.out _ _ ?_ (fun hHeld2 => ?_)
    · first | exact HRD.out | exact hHeld | (apply HRK.out; assumption; assumption)
    clear hK K hHeld
    have hHeld := hHeld2
    clear hHeld2
    (try simp only [Act.put, List.setIfInBounds_toArray, List.set_cons_zero, List.set_cons_succ])
    refine wpAnyH_ready (rs := [26]) (by kernel_rfl) (by simp) ?_
    refine AllReadyH.cons (o := ?ol_26) ?hl_26 (fun K hK => ?_) AllReadyH.nil
    case hl_26 => (first | (simp only [List.getElem?_toArray, List.getElem?_cons_zero, List.getElem?_cons_succ]; done) | (simp only [List.getElem?_toArray, List.getElem?_cons_zero, List.getElem?_cons_succ]; exact rfl))
    (try go_simp)
    (go_at_call 18; refine (quotaR c _).mono ?_; rintro e w9 ⟨rfl, hb9⟩)
    (try go_wp2_with fail)
    refine hK.out _ _ ?_ (fun hHeld2 => ?_)
    · first | exact HRD.out | exact hHeld | (apply HRK.out; assumption; assumption)
    clear hK K hHeld
    have hHeld := hHeld2
    clear hHeld2
    (try simp only [Act.put, List.setIfInBounds_toArray, List.set_cons_zero, List.set_cons_succ])
    refine wpAnyH_take (i := 27) (oi := ?ol_27) (v := ?vl_27) ?hl_27 (by kernel_rfl) (by kernel_rfl) (by kernel_rfl) ?ql_27 ?yl_27 (by assumption) ?_
    case hl_27 => (first | (simp only [List.getElem?_toArray, List.getElem?_cons_zero, List.getElem?_cons_succ]; done) | (simp only [List.getElem?_toArray, List.getElem?_cons_zero, List.getElem?_cons_succ]; exact rfl))
    case ql_27 => exact fun _ _ _ h => h
    case yl_27 => (refine Or.inl ⟨rfl, ?_⟩; intro w hSw; (try dsimp only at hSw); go_simp; (try with_reducible rfl))
    (try simp only [Act.put, List.setIfInBounds_toArray, List.set_cons_zero, List.set_cons_succ])
    refine wpAnyH_take (i := 28) (oi := ?ol_28) (v := .bool true) ?hl_28 (by kernel_rfl) (by kernel_rfl) (by kernel_rfl) ?ql_28 ?yl_28 (by assumption) ?_
    case hl_28 => (first | (simp only [List.getElem?_toArray, List.getElem?_cons_zero, List.getElem?_cons_succ]; done) | (simp only [List.getElem?_toArray, List.getElem?_cons_zero, List.getElem?_cons_succ]; exact rfl))
    case ql_28 => exact fun _ _ _ h => h
    case yl_28 => (refine Or.inl ⟨rfl, ?_⟩; intro w hSw; (try dsimp only at hSw); go_simp; (try with_reducible rfl))
    (try simp only [Act.put, List.setIfInBounds_toArray, List.set_cons_zero, List.set_cons_succ])
    refine wpAnyH_take (i := 29) (oi := ?ol_29) (v := .bool true) ?hl_29 (by kernel_rfl) (by kernel_rfl) (by kernel_rfl) ?ql_29 ?yl_29 (by assumption) ?_
    case hl_29 => (first | (simp only [List.getElem?_toArray, List.getElem?_cons_zero, List.getElem?_cons_succ]; done) | (simp only [List.getElem?_toArray, List.getElem?_cons_zero, List.getElem?_cons_succ]; exact rfl))
    case ql_29 => exact fun _ _ _ h => h
    case yl_29 => (refine Or.inl ⟨rfl, ?_⟩; intro w hSw; (try dsimp only at hSw); go_simp; (try with_reducible rfl))
    (try simp only [Act.put, List.setIfInBounds_toArray, List.set_cons_zero, List.set_cons_succ])
    refine wpAnyH_take (i := 30) (oi := ?ol_30) (v := .bool true) ?hl_30 (by kernel_rfl) (by kernel_rfl) (by kernel_rfl) ?ql_30 ?yl_30 (by assumption) ?_
    case hl_30 => (first | (simp only [List.getElem?_toArray, List.getElem?_cons_zero, List.getElem?_cons_succ]; done) | (simp only [List.getElem?_toArray, List.getElem?_cons_zero, List.getElem?_cons_succ]; exact rfl))
    case ql_30 => exact fun _ _ _ h => h
    case yl_30 => (refine Or.inl ⟨rfl, ?_⟩; intro w hSw; (try dsimp only at hSw); go_simp; (try with_reducible rfl))
    (try simp only [Act.put, List.setIfInBounds_toArray, List.set_cons_zero, List.set_cons_succ])
    refine wpAnyH_done (by kernel_rfl) ?_ _
    obtain ⟨hs2, _⟩ := hHeld
    have HS2 := Lib.hid hs2
    clear hs2 HRK HRD
    go_wp2
    go_ret
    exact ⟨rfl, HS1.out.trans HS2.out⟩
theorem countsF {H : Type} {enc : TypeId × Value → H} {x : DataW H × List MemPlace} (cca cfl cft cse cdr cdw cho cre cyi cqu cqo clo csl crt ccp ctr cde cwi : Int) (a : Option Addr) (len cap : Nat) (n : Int) (w : World) (_ : (Lit.int .i64 cca).wf = true) (_ : (Lit.int .i64 cfl).wf = true) (_ : (Lit.int .i64 cft).wf = true) (_ : (Lit.int .i64 cse).wf = true) (_ : (Lit.int .i64 cdr).wf = true) (_ : (Lit.int .i64 cdw).wf = true) (_ : (Lit.int .i64 cho).wf = true) (_ : (Lit.int .i64 cre).wf = true) (_ : (Lit.int .i64 cyi).wf = true) (_ : (Lit.int .i64 cqu).wf = true) (_ : (Lit.int .i64 cqo).wf = true) (_ : (Lit.int .i64 clo).wf = true) (_ : (Lit.int .i64 csl).wf = true) (_ : (Lit.int .i64 crt).wf = true) (_ : (Lit.int .i64 ccp).wf = true) (_ : (Lit.int .i64 ctr).wf = true) (_ : (Lit.int .i64 cde).wf = true) (_ : (Lit.int .i64 cwi).wf = true) (h : ∃ m, DataW.trod enc Try.prog w 0 (fun _ => true) true m 24 (Value.cells (.slice a len cap)).toList = some x) (_ : (Lit.int .i64 n).wf = true) : Calls Try.prog 3 #[.agg #[.int .i64 cca, .int .i64 cfl, .int .i64 cft, .int .i64 cse, .int .i64 cdr, .int .i64 cdw, .int .i64 cho, .int .i64 cre, .int .i64 cyi, .int .i64 cqu, .int .i64 cqo, .int .i64 clo, .int .i64 csl, .int .i64 crt, .int .i64 ccp, .int .i64 ctr, .int .i64 cde, .int .i64 cwi], .slice a len cap, .int .i64 n] w fun e w' => e = .returned (.bool true) ∧ Since w w' := by
  obtain ⟨m, hm⟩ := h
  obtain ⟨ls, hls, hl⟩ := Go.Proofs.Ytggafipgfgbbiaa.Ls.LV.open_ hm
  exact counts ⟨cca, cfl, cft, cse, cdr, cdw, cho, cre, cyi, cqu, cqo, clo, csl, crt, ccp, ctr, cde, cwi⟩ a len cap ls n w hls hl
end Go.Proofs.Ytggafipgfgbbiaa.Fl
