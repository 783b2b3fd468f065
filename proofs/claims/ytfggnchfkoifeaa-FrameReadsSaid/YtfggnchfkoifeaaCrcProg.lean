/-
  The program's checksum, walked: by its table it returns the sum of the bytes that it is handed.
  Conditions: the slice reads as the bytes.
-/
import Derived.Test.YtfggnchfkoifeaaCrcLaw
import Derived.Test.YtfggnchfkoifeaaCrcTab
import Derived.Test.YtfggnchfkoifeaaRow
import Derived.Deep.WholeRow
namespace Go.Proofs.Ytfggnchfkoifeaa.Cl
set_option linter.unusedVariables false
set_option linter.unusedSimpArgs false
open Go.RowKit
open Go.Proofs.Ytfggnchfkoifeaa.Cm Go.Proofs.Ytfggnchfkoifeaa.Mem
open Go.Proofs.Ytfggnchfkoifeaa.Byt (BV isB)
open Go.Proofs.Ytfggnchfkoifeaa.Cw (bit_c half half_po not_max bst_f bst_t acc acc_succ)
open Go.Proofs.Ytfggnchfkoifeaa.Ba
set_option maxRecDepth 100000
def znb (n j : Nat) : BitVec 32 := zn j (BitVec.ofNat 32 n)
set_option maxHeartbeats 1000000 in
theorem shiftedT (n : Nat) (hn : n < 256) (w : World) : Calls Try.prog 28 #[.int .u32 (n : Int)] w fun e w' => e = .returned (.int .u32 ((tab n).toNat : Int)) ∧ w = w' := by
  have H0 := Lib.hid (show (n : Int) = ((znb n 0).toNat : Int) by unfold znb zn; rw [BitVec.toNat_ofNat, Nat.mod_eq_of_lt (by omega)])
  have HF := Lib.hid (show tab n = znb n 8 from rfl)
  go_enter Try.func28, Try.ntmps28
  go_wp2
  go_loop [0, 4] (fun x i => ∃ j : Nat, j ≤ 8 ∧ i = .int .i64 j ∧ x = .int .u32 ((znb n j).toNat : Int)) (fun _ i => 8 - (intOf i).toNat)
  case atStart => exact ⟨0, by omega, rfl, congrArg (Value.int .u32) H0.out⟩
  case round =>
    obtain ⟨j, hj, rfl, rfl⟩ := hrel
    by_cases hlt : j < 8
    · have hx := (znb n j).isLt
      have b1 := bit_c (znb n j)
      have HN := Lib.hid (show znb n (j + 1) = bst (znb n j) false by rw [zst_bst]; rfl)
      generalize znb n j = X at hx b1 HN ⊢
      cases hb : X.getLsbD 0
      · rw [hb] at b1
        have HB := Lib.hid hb
        clear hb
        go_wp2
        go_round
        case rel => exact ⟨j + 1, by omega, by go_num, congrArg (Value.int .u32) (by rw [HN.out]; exact bst_f X _ (by rw [HB.out]; rfl))⟩
        case measure => simp [intOf]; omega
      · rw [hb] at b1
        have HB := Lib.hid hb
        clear hb
        go_wp2
        go_round
        case rel => exact ⟨j + 1, by omega, by go_num, congrArg (Value.int .u32) (by rw [HN.out]; exact bst_t X _ (by rw [HB.out]; rfl))⟩
        case measure => simp [intOf]; omega
    · obtain rfl : j = 8 := by omega
      go_wp2
      go_ret
      exact ⟨ret_int (by rw [HF.out]), rfl⟩
/-- The table, its first k places made. -/
def tabC (k : Nat) : Array Value := ((List.range 256).map fun i => Value.int .u32 (if i < k then ((tab i).toNat : Int) else 0)).toArray
theorem tabC_size (k : Nat) : (tabC k).size = 256 := by simp [tabC]
theorem tabC_get (k i : Nat) (h : i < 256) : (tabC k)[i]? = some (.int .u32 (if i < k then ((tab i).toNat : Int) else 0)) := by
  unfold tabC
  simp [h]
theorem tabC_set (k : Nat) (h : k < 256) : (tabC k).setIfInBounds k (.int .u32 ((tab k).toNat : Int)) = tabC (k + 1) := by
  apply Array.ext_getElem?
  intro i
  rw [Array.getElem?_setIfInBounds]
  by_cases hi : i < 256
  · rw [tabC_get _ _ hi, tabC_get _ _ hi, tabC_size]
    by_cases e : k = i
    · subst e; simp [h]
    · rw [if_neg e]
      by_cases h1 : i < k
      · rw [if_pos h1, if_pos (by omega)]
      · rw [if_neg h1, if_neg (by omega)]
  · rw [Array.getElem?_eq_none (by rw [tabC_size]; omega), Array.getElem?_eq_none (by rw [tabC_size]; omega), if_neg]
    intro e; omega
/-- A variable of 256 numbers is made. -/
theorem run_alloc_tab (w : World) (ρ : Operand → Value) (o : Oper) (ho : o.op = .alloc 49) : (execOp ρ o).run Try.prog w = .ok (.value (.pointer (some ⟨w.heap.size, 0, none⟩))) (w.alloc (.cells (tabC 0) 49)) := by
  unfold execOp
  rw [ho]
  kernel_rfl
theorem tabC_one (k : Nat) : (tabC k).all (·.oneCell') = true := by
  rw [Array.all_eq_true]
  intro i hi
  have h := tabC_get k i (by rw [tabC_size] at hi; exact hi)
  rw [Array.getElem?_eq_getElem hi] at h
  injection h with h
  rw [h]; rfl
set_option maxHeartbeats 1000000 in
theorem stepsT (w : World) : Calls Try.prog 22 #[] w fun e w' => e = .returned (.agg (tabC 256)) ∧ Since w w' := by
  go_enter Try.func22, Try.ntmps22
  go_wp2_with (first | (refine wpList_mk rfl _ _ (run_alloc_tab _ _ _ rfl) ?_) | fail)
  go_loopw [2, 3] (fun _ i wr => ∃ k : Nat, k ≤ 256 ∧ i = .int .i64 k ∧ Hid (Since w wr ∧ Blk wr w.heap.size 49 (tabC 0) ∧ Blk wr (w.heap.size + 1) 49 (tabC k))) (fun _ i _ => 256 - (intOf i).toNat)
  case atStart => exact ⟨0, by omega, rfl, Lib.hid ⟨(by repeat (first | exact Since.refl _ | assumption | refine Since.setCell ?_ (by first | (simp; done) | (simp; omega)) _ | refine Since.drew ?_ | refine Since.drewN ?_ _ | refine Since.alloc ?_ _ | refine Since.trans ?_ (by assumption) | refine Since.trans ?_ (Hid.out (by assumption)))), (Blk.new w _ _).alloc _, by have h := Blk.new (w.alloc (.cells (tabC 0) 49)) 49 (tabC 0); simpa using h⟩⟩
  case round =>
    obtain ⟨k, hk, rfl, HO⟩ := hrel
    by_cases hlt : k < 256
    · obtain ⟨S, B0, B1⟩ := HO.out
      have c1 : wr.cell? ⟨w.heap.size + 1, k, none⟩ = some (.int .u32 0) := by rw [B1.cell, tabC_get _ _ hlt, if_neg (by omega)]
      have f1 : wr.frozen? ⟨w.heap.size + 1, k, none⟩ = false := B1.frozen k
      have hwk : IntKind.u32.wrap (k : Int) = (k : Int) := by simp [IntKind.wrap, IntKind.bits, IntKind.signed]; omega
      have HN := Lib.hid (show Since w (wr.setCell ⟨w.heap.size + 1, k, none⟩ (.int .u32 ((tab k).toNat : Int))) ∧ Blk (wr.setCell ⟨w.heap.size + 1, k, none⟩ (.int .u32 ((tab k).toNat : Int))) w.heap.size 49 (tabC 0) ∧ Blk (wr.setCell ⟨w.heap.size + 1, k, none⟩ (.int .u32 ((tab k).toNat : Int))) (w.heap.size + 1) 49 (tabC (k + 1)) from
        ⟨S.setCell (by simp) _, B0.far (by simp) _, by rw [← tabC_set k hlt]; exact B1.set_ k _⟩)
      clear S B0 B1 HO
      go_wp2_with (first | (go_at_call 28; refine (shiftedT k hlt _).mono ?_; rintro e w' ⟨rfl, rfl⟩) | fail)
      go_roundw
      case rel => exact ⟨k + 1, by omega, by go_num, HN⟩
      case measure => simp [intOf]; omega
    · obtain rfl : k = 256 := by omega
      obtain ⟨S, B0, B1⟩ := HO.out
      have HB0 := Lib.hid B0
      have HB1 := Lib.hid B1
      have HS := Lib.hid S
      clear S B0 B1 HO
      go_wp2_with (first | (refine wpList_load_row rfl 49 _ rfl _ rfl 49 _ (0, 0) _ HB1.out Try.underlying49 rfl (by rw [tabC_size]; kernel_rfl) ?_) | (refine wpList_store_row rfl 49 _ _ rfl w.heap.size (tabC 256) rfl rfl 49 _ HB0.out (by rw [tabC_size]; kernel_rfl) (by rw [tabC_size, tabC_size]) (tabC_one 256) ?_) | fail)
      exact bodyPost_ret (results_cell_row rfl _ _ w.heap.size 49 (tabC 256) (0, 0) _ rfl (Blk.row HB0.out (tabC 256)) Try.underlying49 rfl (by rw [tabC_size]; kernel_rfl)) rfl ⟨rfl, Since.setRow HS.out (Nat.le_refl _) _⟩
theorem shr8 (X : BitVec 32) : HDiv.hDiv (α := Int) (X.toNat : Int) (256 : Int) = ((X >>> 8).toNat : Int) := by
  rw [BitVec.toNat_ushiftRight, Nat.shiftRight_eq_div_pow]; simp
theorem xor_tab (X Y : BitVec 32) : bits .xor .u32 (X.toNat : Int) (Y.toNat : Int) = ((X ^^^ Y).toNat : Int) := by
  rw [u32_xor_nat X.toNat Y.toNat X.isLt Y.isLt, BitVec.toNat_xor]
theorem at8_int (X : BitVec 32) (Z : Nat) (h : Z < 256) : bits .xor .u8 ((X.toNat : Int) % 256) (Z : Int) = ((at8 X Z : Nat) : Int) := by
  rw [show ((X.toNat : Int) % 256) = ((X.toNat % 256 : Nat) : Int) by simp, u8_xor_nat _ _ (by omega) h]; rfl
set_option maxHeartbeats 1000000 in
theorem moreT (C : BitVec 32) (a : Option Addr) (n cap : Nat) (zs : List Int) (w : World) (h : BV w a n zs) : Calls Try.prog 14 #[.int .u32 (C.toNat : Int), .slice a n cap] w fun e w' => e = .returned (.int .u32 ((~~~ (crcF (~~~ C) zs)).toNat : Int)) ∧ Since w w' := by
  have HV := Lib.hid h
  have hn : (n : Int) ≤ 9223372036854775807 := by have := h.2.1; omega
  clear h
  have HC := Lib.hid (not_max C)
  go_enter Try.func14, Try.ntmps14
  go_wp2_with (first | (go_at_call 22; refine (stepsT _).mono ?_; rintro e w1 ⟨rfl, hb1⟩; have HB1 := Lib.hid hb1; clear hb1) | (refine wpList_mk rfl _ _ (run_alloc_tab _ _ _ rfl) ?_) | (refine wpList_store_row rfl 49 _ _ rfl w1.heap.size (tabC 256) rfl rfl 49 (tabC 0) (heap_alloc_new _ _) (by rw [tabC_size]; kernel_rfl) (by rw [tabC_size, tabC_size]) (tabC_one 256) ?_; rw [World.setRow_alloc_new]) | fail)
  obtain ⟨w2, hw2⟩ : ∃ w2, w2 = w1.alloc (.cells (tabC 256) 49) := ⟨_, rfl⟩
  rw [← hw2]
  have HB2 := Lib.hid (show Blk w2 w1.heap.size 49 (tabC 256) by rw [hw2]; exact Blk.new w1 _ _)
  have HS2 := Lib.hid (show Since w w2 by rw [hw2]; exact Since.alloc HB1.out _)
  have HV2 := Lib.hid (show BV w2 a n zs from HV.out.below HS2.out)
  generalize hb : w1.heap.size = B at HB2 ⊢
  clear hw2 HB1 HV hb w1
  obtain ⟨hl, hB, hA⟩ : zs.length = n ∧ (∀ z ∈ zs, isB z) ∧ (n = 0 ∨ ∃ b off, a = some ⟨b, off, none⟩ ∧ b < w2.heap.size ∧ ∀ j, j < n → w2.cell? ⟨b, off + j, none⟩ = some (.int .u8 (zs.getD j 0))) := ⟨HV2.out.1, HV2.out.2.2.1, HV2.out.2.2.2⟩
  have HL := Lib.hid hl
  have HZ := Lib.hid hB
  have HA := Lib.hid hA
  clear hl hB hA HV2
  go_loop [0, 13] (fun c i => ∃ k : Nat, k ≤ n ∧ i = .int .i64 k ∧ c = .int .u32 ((crcF (~~~ C) (zs.take k)).toNat : Int)) (fun _ i => n - (intOf i).toNat)
  case atStart => exact ⟨0, by omega, rfl, congrArg (Value.int .u32) HC.out⟩
  case round =>
    obtain ⟨k, hk, rfl, rfl⟩ := hrel
    by_cases hlt : k < n
    · have hz : isB (zs.getD k 0) := by
        have hk' : k < zs.length := by have := HL.out; omega
        have hg : zs.getD k 0 = zs[k] := by simp [List.getD, hk']
        rw [hg]; exact HZ.out _ (List.getElem_mem _)
      have HN := Lib.hid (show crcF (~~~ C) (zs.take (k + 1)) = byS (crcF (~~~ C) (zs.take k)) (zs.getD k 0) by
        have hk' : k < zs.length := by have := HL.out; omega
        have hg : zs.getD k 0 = zs[k] := by simp [List.getD, hk']
        rw [List.take_succ_eq_append_getElem hk', crcF_snoc, hg])
      rcases HA.out with h0 | ⟨b, off, ha, hlb, hc⟩
      · omega
      have hcell := hc k hlt
      have HA' := Lib.hid ha
      generalize zs.getD k 0 = z at hz hcell HN
      obtain ⟨Z, rfl⟩ := Int.eq_ofNat_of_zero_le hz.1
      have hZ : Z < 256 := by have := hz.2; omega
      have HZ0 := Lib.hid (byS_at (crcF (~~~ C) (zs.take k)) Z hZ)
      generalize crcF (~~~ C) (zs.take k) = X at HN HZ0 ⊢
      have hx := X.isLt
      have hq := at8_lt X Z hZ
      have hi := at8_int X Z hZ
      generalize at8 X Z = q at hq hi HZ0
      have ht : w2.cell? ⟨B, q, none⟩ = some (.int .u32 ((tab q).toNat : Int)) := by rw [HB2.out.cell, tabC_get _ _ hq, if_pos hq]
      have hx2 : bits .xor .u32 ((tab q).toNat : Int) ((X.toNat : Int) / 256) = ((tab q ^^^ X >>> 8).toNat : Int) := by rw [shr8, xor_tab]
      subst ha
      clear hc hz hlb
      go_wp2
      go_round
      case rel => exact ⟨k + 1, by omega, by go_num, congrArg (Value.int .u32) (by rw [HN.out, HZ0.out, BitVec.toNat_xor, BitVec.toNat_ushiftRight])⟩
      case measure => simp [intOf]; omega
    · obtain rfl : k = n := by omega
      have HF := Lib.hid (show zs.take k = zs from List.take_of_length_le (by have := HL.out; omega))
      go_wp2
      go_ret
      exact ⟨ret_int (by rw [HF.out, not_max]; simp), HS2.out⟩
theorem more_said : MoreSaid := fun c pre a n cap zs w hc h => by
  subst hc
  refine (moreT (crcZ pre) a n cap zs w h).mono ?_
  rintro e w' ⟨rfl, hb⟩
  refine ⟨ret_int ?_, hb⟩
  unfold crcN crcZ
  rw [crcF_append]
  simp
theorem sum_said : SumSaid := fun a n cap zs w h => by
  go_enter Try.func12, Try.ntmps12
  go_wp2_with (first | (go_at_call 14; refine (more_said 0 [] _ _ _ zs _ (by decide +kernel) h).mono ?_; rintro e w1 ⟨rfl, hb1⟩) | fail)
  go_ret
  exact ⟨rfl, hb1⟩
end Go.Proofs.Ytfggnchfkoifeaa.Cl
