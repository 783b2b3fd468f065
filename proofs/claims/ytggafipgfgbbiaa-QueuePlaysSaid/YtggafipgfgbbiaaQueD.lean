/-
  slices.Index and Contains of integers; queue's First: walked.
  Conditions: what stands ahead of each.
-/
import Derived.Test.YtggafipgfgbbiaaProg
import Derived.Test.YtggafipgfgbbiaaQueC
namespace Go.Proofs.Ytggafipgfgbbiaa.Qu
set_option linter.unusedVariables false
set_option linter.unusedSimpArgs false
open Go.RowKit Go.Proofs.Ytggafipgfgbbiaa.Ba Go.Proofs.Ytggafipgfgbbiaa.Mem Go.Proofs.Ytggafipgfgbbiaa.Ty
set_option maxRecDepth 100000
attribute [local irreducible] Go.wpList
set_option maxHeartbeats 4000000 in
theorem indexHit (A : Option Addr) (n c : Nat) (zs : List Int) (v : Int) (k0 : Nat) (w : World) (hv : IV w A n zs) (hn : n ≤ 1000000) (hf : atI zs v = some k0) : Calls Try.prog 91 #[.slice A n c, .int .i64 v] w fun e w' => e = .returned (.int .i64 k0) ∧ Since w w' := by
  have HV := Lib.hid hv
  clear hv
  have HN := Lib.hid hn
  clear hn
  have HF := Lib.hid hf
  clear hf
  go_enter Try.func91, Try.ntmps91
  go_upto_region 1 with fail
  have HS1 := Lib.hid (Since.refl w)
  refine wp_region_lit ?_
  refine wpList_q (by rfl) (.slice A n c) ?he ?_
  case he => (first | rfl | (go_simp; (try with_reducible rfl)))
  (try simp only [Act.put, sA, sB, sC])
  refine wpList_q (by rfl) (.int .i64 (n : Int)) ?he ?_
  case he => (first | rfl | (go_simp; (try with_reducible rfl)))
  (try simp only [Act.put, sA, sB, sC])
  refine wpList_q (by rfl) (.int .i64 0) ?he ?_
  case he => (first | rfl | (go_simp; (try with_reducible rfl)))
  (try simp only [Act.put, sA, sB, sC])
  refine wpList_nil ?_
  go_wp2_with fail
  go_loopw [8] (fun s8 wr => ∃ (k : Nat), k ≤ k0 ∧ s8 = .int .i64 (k : Int) ∧ Hid (Since w wr)) (fun s8 _ => ((n : Int) - intOf s8).toNat)
  case atStart => exact ⟨0, by omega, rfl, Lib.hid (HS1.out)⟩
  case round =>
    obtain ⟨k, hk, rfl, HO⟩ := hrel
    have g0 := HO.out
    clear HO HS1
    have HS51 := Lib.hid g0
    clear g0
    obtain ⟨hk0, hse, hne⟩ := atI_some HF.out
    have hzl := HV.out.1
    have HLT := Lib.hid (show k < n by omega)
    have HSE := Lib.hid hse
    have HNE := Lib.hid hne
    have HK0 := Lib.hid hk0
    clear hse hne hk0 hzl
    by_cases hkk : k = k0
    · subst hkk
      obtain ⟨b, off, hA, hcell⟩ := IV.at_ (IV.keep HS51.out HV.out) HLT.out
      subst hA
      have HCE := Lib.hid (hcell k HLT.out)
      clear hcell
      go_upto_region 2 with fail
      refine wp_region_lit ?_
      refine wpList_q (by rfl) (.bool true) ?he ?_
      case he => (have q0 := HLT.out; go_simp; (first | done | rfl | omega))
      (try simp only [Act.put, sA, sB, sC])
      refine wpList_nil ?_
      go_upto_region 3 with fail
      refine wp_region_lit ?_
      refine wpList_q (by rfl) (.int .i64 (k : Int)) ?he ?_
      case he => (first | rfl | (go_simp; (try with_reducible rfl)))
      (try simp only [Act.put, sA, sB, sC])
      refine wpList_q (by rfl) (.int .i64 (k : Int)) ?he ?_
      case he => (first | rfl | (go_simp; (try with_reducible rfl)))
      (try simp only [Act.put, sA, sB, sC])
      refine wpList_nil ?_
      go_upto_region 4 with fail
      refine wp_region_lit ?_
      refine wpList_q (by rfl) (.int .i64 v) ?he ?_
      case he => (first | rfl | (go_simp; (try with_reducible rfl)))
      (try simp only [Act.put, sA, sB, sC])
      refine wpList_q (by rfl) (.slice (some ⟨b, off, none⟩) n c) ?he ?_
      case he => (first | rfl | (go_simp; (try with_reducible rfl)))
      (try simp only [Act.put, sA, sB, sC])
      refine wpList_q (by rfl) (.int .i64 (k : Int)) ?he ?_
      case he => (first | rfl | (go_simp; (try with_reducible rfl)))
      (try simp only [Act.put, sA, sB, sC])
      refine wpList_q (by rfl) (.pointer (some ⟨b, (off + k * 1), none⟩)) ?he ?_
      case he => exact exec_index (i := k) 36 3 _ _ rfl rfl rfl rfl HLT.out Try.underlying36 (by kernel_rfl)
      (try simp only [Act.put, sA, sB, sC])
      refine wpList_q (by rfl) (.int .i64 (zs.getD k 0)) ?he ?_
      case he => exact exec_at 3 _ _ (by rw [Nat.mul_one]; exact HCE.out) rfl rfl Try.underlying3 rfl
      (try simp only [Act.put, sA, sB, sC])
      refine wpList_q (by rfl) (.bool true) ?he ?_
      case he => (have q := HSE.out; go_simp; (first | done | exact q.symm | (rw [q]; done) | (simp [q]; done)))
      (try simp only [Act.put, sA, sB, sC])
      refine wpList_nil ?_
      go_upto_region 5 with fail
      refine wp_region_lit ?_
      refine wpList_q (by rfl) (.int .i64 (k : Int)) ?he ?_
      case he => (first | rfl | (go_simp; (try with_reducible rfl)))
      (try simp only [Act.put, sA, sB, sC])
      refine wpList_q (by rfl) (.int .i64 (k : Int)) ?he ?_
      case he => (first | rfl | (go_simp; (try with_reducible rfl)))
      (try simp only [Act.put, sA, sB, sC])
      refine wpList_nil ?_
      (try go_wp2_with fail)
      go_ret
      exact ⟨rfl, HS51.out⟩
    · have HKL := Lib.hid (show k < k0 by omega)
      obtain ⟨b, off, hA, hcell⟩ := IV.at_ (IV.keep HS51.out HV.out) HLT.out
      subst hA
      have HCE := Lib.hid (hcell k HLT.out)
      clear hcell
      go_upto_region 2 with fail
      refine wp_region_lit ?_
      refine wpList_q (by rfl) (.bool true) ?he ?_
      case he => (have q0 := HLT.out; go_simp; (first | done | rfl | omega))
      (try simp only [Act.put, sA, sB, sC])
      refine wpList_nil ?_
      go_upto_region 3 with fail
      refine wp_region_lit ?_
      refine wpList_q (by rfl) (.int .i64 (k : Int)) ?he ?_
      case he => (first | rfl | (go_simp; (try with_reducible rfl)))
      (try simp only [Act.put, sA, sB, sC])
      refine wpList_q (by rfl) (.int .i64 (k : Int)) ?he ?_
      case he => (first | rfl | (go_simp; (try with_reducible rfl)))
      (try simp only [Act.put, sA, sB, sC])
      refine wpList_nil ?_
      go_upto_region 4 with fail
      refine wp_region_lit ?_
      refine wpList_q (by rfl) (.int .i64 v) ?he ?_
      case he => (first | rfl | (go_simp; (try with_reducible rfl)))
      (try simp only [Act.put, sA, sB, sC])
      refine wpList_q (by rfl) (.slice (some ⟨b, off, none⟩) n c) ?he ?_
      case he => (first | rfl | (go_simp; (try with_reducible rfl)))
      (try simp only [Act.put, sA, sB, sC])
      refine wpList_q (by rfl) (.int .i64 (k : Int)) ?he ?_
      case he => (first | rfl | (go_simp; (try with_reducible rfl)))
      (try simp only [Act.put, sA, sB, sC])
      refine wpList_q (by rfl) (.pointer (some ⟨b, (off + k * 1), none⟩)) ?he ?_
      case he => exact exec_index (i := k) 36 3 _ _ rfl rfl rfl rfl HLT.out Try.underlying36 (by kernel_rfl)
      (try simp only [Act.put, sA, sB, sC])
      refine wpList_q (by rfl) (.int .i64 (zs.getD k 0)) ?he ?_
      case he => exact exec_at 3 _ _ (by rw [Nat.mul_one]; exact HCE.out) rfl rfl Try.underlying3 rfl
      (try simp only [Act.put, sA, sB, sC])
      refine wpList_q (by rfl) (.bool false) ?he ?_
      case he => (have q := Ne.symm (HNE.out k HKL.out); go_simp; (first | done | exact q | (simp [q]; done)))
      (try simp only [Act.put, sA, sB, sC])
      refine wpList_nil ?_
      go_upto_region 6 with fail
      refine wp_region_lit ?_
      refine wpList_q (by rfl) (.int .i64 ((k : Int) + 1)) ?he ?_
      case he => (go_simp; (first | done | (refine wr64 _ ?_ ?_ <;> (have q0 := HLT.out; have q1 := HN.out; omega)) | (have q0 := HLT.out; have q1 := HN.out; omega) | (have q0 := HLT.out; have q1 := HN.out; split <;> omega) | (have q0 := HLT.out; have q1 := HN.out; intro hh; omega)))
      (try simp only [Act.put, sA, sB, sC])
      refine wpList_q (by rfl) (.int .i64 ((k : Int) + 1)) ?he ?_
      case he => (first | rfl | (go_simp; (try with_reducible rfl)))
      (try simp only [Act.put, sA, sB, sC])
      refine wpList_nil ?_
      go_wp2_with fail
      go_roundw
      case rel => exact ⟨k + 1, by have := HKL.out; omega, by go_num, Lib.hid HS51.out⟩
      case measure => have := HLT.out; simp [intOf]; omega
set_option maxHeartbeats 4000000 in
theorem indexMiss (A : Option Addr) (n c : Nat) (zs : List Int) (v : Int) (w : World) (hv : IV w A n zs) (hn : n ≤ 1000000) (hf : atI zs v = none) : Calls Try.prog 91 #[.slice A n c, .int .i64 v] w fun e w' => e = .returned (.int .i64 (-1)) ∧ Since w w' := by
  have HV := Lib.hid hv
  clear hv
  have HN := Lib.hid hn
  clear hn
  have HF := Lib.hid hf
  clear hf
  go_enter Try.func91, Try.ntmps91
  go_upto_region 1 with fail
  have HS1 := Lib.hid (Since.refl w)
  refine wp_region_lit ?_
  refine wpList_q (by rfl) (.slice A n c) ?he ?_
  case he => (first | rfl | (go_simp; (try with_reducible rfl)))
  (try simp only [Act.put, sA, sB, sC])
  refine wpList_q (by rfl) (.int .i64 (n : Int)) ?he ?_
  case he => (first | rfl | (go_simp; (try with_reducible rfl)))
  (try simp only [Act.put, sA, sB, sC])
  refine wpList_q (by rfl) (.int .i64 0) ?he ?_
  case he => (first | rfl | (go_simp; (try with_reducible rfl)))
  (try simp only [Act.put, sA, sB, sC])
  refine wpList_nil ?_
  go_wp2_with fail
  go_loopw [8] (fun s8 wr => ∃ (k : Nat), k ≤ n ∧ s8 = .int .i64 (k : Int) ∧ Hid (Since w wr)) (fun s8 _ => ((n : Int) - intOf s8).toNat)
  case atStart => exact ⟨0, by omega, rfl, Lib.hid (HS1.out)⟩
  case round =>
    obtain ⟨k, hk, rfl, HO⟩ := hrel
    have g0 := HO.out
    clear HO HS1
    have HS51 := Lib.hid g0
    clear g0
    by_cases hlt : k < n
    rotate_left
    · have HGE := Lib.hid (show n ≤ k by omega)
      go_upto_region 2 with fail
      refine wp_region_lit ?_
      refine wpList_q (by rfl) (.bool false) ?he ?_
      case he => (have q0 := HGE.out; go_simp; (first | done | rfl | omega))
      (try simp only [Act.put, sA, sB, sC])
      refine wpList_nil ?_
      go_upto_region 7 with fail
      refine wp_region_lit ?_
      refine wpList_q (by rfl) (.int .i64 (-1)) ?he ?_
      case he => (first | rfl | (go_simp; (try with_reducible rfl)))
      (try simp only [Act.put, sA, sB, sC])
      refine wpList_nil ?_
      (try go_wp2_with fail)
      go_ret
      exact ⟨rfl, HS51.out⟩
    · have HLT := Lib.hid hlt
      clear hlt
      obtain ⟨b, off, hA, hcell⟩ := IV.at_ (IV.keep HS51.out HV.out) HLT.out
      subst hA
      have HCE := Lib.hid (hcell k HLT.out)
      clear hcell
      go_upto_region 2 with fail
      refine wp_region_lit ?_
      refine wpList_q (by rfl) (.bool true) ?he ?_
      case he => (have q0 := HLT.out; go_simp; (first | done | rfl | omega))
      (try simp only [Act.put, sA, sB, sC])
      refine wpList_nil ?_
      go_upto_region 3 with fail
      refine wp_region_lit ?_
      refine wpList_q (by rfl) (.int .i64 (k : Int)) ?he ?_
      case he => (first | rfl | (go_simp; (try with_reducible rfl)))
      (try simp only [Act.put, sA, sB, sC])
      refine wpList_q (by rfl) (.int .i64 (k : Int)) ?he ?_
      case he => (first | rfl | (go_simp; (try with_reducible rfl)))
      (try simp only [Act.put, sA, sB, sC])
      refine wpList_nil ?_
      go_upto_region 4 with fail
      refine wp_region_lit ?_
      refine wpList_q (by rfl) (.int .i64 v) ?he ?_
      case he => (first | rfl | (go_simp; (try with_reducible rfl)))
      (try simp only [Act.put, sA, sB, sC])
      refine wpList_q (by rfl) (.slice (some ⟨b, off, none⟩) n c) ?he ?_
      case he => (first | rfl | (go_simp; (try with_reducible rfl)))
      (try simp only [Act.put, sA, sB, sC])
      refine wpList_q (by rfl) (.int .i64 (k : Int)) ?he ?_
      case he => (first | rfl | (go_simp; (try with_reducible rfl)))
      (try simp only [Act.put, sA, sB, sC])
      refine wpList_q (by rfl) (.pointer (some ⟨b, (off + k * 1), none⟩)) ?he ?_
      case he => exact exec_index (i := k) 36 3 _ _ rfl rfl rfl rfl HLT.out Try.underlying36 (by kernel_rfl)
      (try simp only [Act.put, sA, sB, sC])
      refine wpList_q (by rfl) (.int .i64 (zs.getD k 0)) ?he ?_
      case he => exact exec_at 3 _ _ (by rw [Nat.mul_one]; exact HCE.out) rfl rfl Try.underlying3 rfl
      (try simp only [Act.put, sA, sB, sC])
      refine wpList_q (by rfl) (.bool false) ?he ?_
      case he => (have q := Ne.symm (atI_none HF.out k (by have := HV.out.1; have := HLT.out; omega)); go_simp; (first | done | exact q | (simp [q]; done)))
      (try simp only [Act.put, sA, sB, sC])
      refine wpList_nil ?_
      go_upto_region 6 with fail
      refine wp_region_lit ?_
      refine wpList_q (by rfl) (.int .i64 ((k : Int) + 1)) ?he ?_
      case he => (go_simp; (first | done | (refine wr64 _ ?_ ?_ <;> (have q0 := HLT.out; have q1 := HN.out; omega)) | (have q0 := HLT.out; have q1 := HN.out; omega) | (have q0 := HLT.out; have q1 := HN.out; split <;> omega) | (have q0 := HLT.out; have q1 := HN.out; intro hh; omega)))
      (try simp only [Act.put, sA, sB, sC])
      refine wpList_q (by rfl) (.int .i64 ((k : Int) + 1)) ?he ?_
      case he => (first | rfl | (go_simp; (try with_reducible rfl)))
      (try simp only [Act.put, sA, sB, sC])
      refine wpList_nil ?_
      go_wp2_with fail
      go_roundw
      case rel => exact ⟨k + 1, by have := HLT.out; omega, by go_num, Lib.hid HS51.out⟩
      case measure => have := HLT.out; simp [intOf]; omega
set_option maxHeartbeats 4000000 in
theorem containsHit (A : Option Addr) (n c : Nat) (zs : List Int) (v : Int) (k0 : Nat) (w : World) (hv : IV w A n zs) (hn : n ≤ 1000000) (hf : atI zs v = some k0) : Calls Try.prog 70 #[.slice A n c, .int .i64 v] w fun e w' => e = .returned (.bool true) ∧ Since w w' := by
  have HV := Lib.hid hv
  clear hv
  have HN := Lib.hid hn
  clear hn
  have HF := Lib.hid hf
  clear hf
  go_enter Try.func70, Try.ntmps70
  go_upto_region 1 with fail
  have HS1 := Lib.hid (Since.refl w)
  refine wp_region_lit ?_
  refine wpList_q (by rfl) (.slice A n c) ?he ?_
  case he => (first | rfl | (go_simp; (try with_reducible rfl)))
  (try simp only [Act.put, sA, sB, sC])
  refine wpList_q (by rfl) (.int .i64 v) ?he ?_
  case he => (first | rfl | (go_simp; (try with_reducible rfl)))
  (try simp only [Act.put, sA, sB, sC])
  refine wpList_wp (by rfl) (fun K hK => ?_)
  (try go_simp)
  refine (indexHit A n c zs v k0 _ HV.out HN.out HF.out).mono ?_
  rintro e w2 ⟨rfl, hb⟩
  (try go_wp2_with fail)
  refine hK.out _ _ ?_
  clear hK K
  (try simp only [Act.put, sA, sB, sC])
  have HS2 := Lib.hid (Since.trans HS1.out hb)
  clear HS1 
  clear hb
  refine wpList_q (by rfl) (.bool true) ?he ?_
  case he => (go_simp; (first | done | rfl | omega))
  (try simp only [Act.put, sA, sB, sC])
  refine wpList_q (by rfl) (.bool true) ?he ?_
  case he => (first | rfl | (go_simp; (try with_reducible rfl)))
  (try simp only [Act.put, sA, sB, sC])
  refine wpList_nil ?_
  (try go_wp2_with fail)
  go_ret
  exact ⟨rfl, HS2.out⟩
set_option maxHeartbeats 4000000 in
theorem containsMiss (A : Option Addr) (n c : Nat) (zs : List Int) (v : Int) (w : World) (hv : IV w A n zs) (hn : n ≤ 1000000) (hf : atI zs v = none) : Calls Try.prog 70 #[.slice A n c, .int .i64 v] w fun e w' => e = .returned (.bool false) ∧ Since w w' := by
  have HV := Lib.hid hv
  clear hv
  have HN := Lib.hid hn
  clear hn
  have HF := Lib.hid hf
  clear hf
  go_enter Try.func70, Try.ntmps70
  go_upto_region 1 with fail
  have HS1 := Lib.hid (Since.refl w)
  refine wp_region_lit ?_
  refine wpList_q (by rfl) (.slice A n c) ?he ?_
  case he => (first | rfl | (go_simp; (try with_reducible rfl)))
  (try simp only [Act.put, sA, sB, sC])
  refine wpList_q (by rfl) (.int .i64 v) ?he ?_
  case he => (first | rfl | (go_simp; (try with_reducible rfl)))
  (try simp only [Act.put, sA, sB, sC])
  refine wpList_wp (by rfl) (fun K hK => ?_)
  (try go_simp)
  refine (indexMiss A n c zs v _ HV.out HN.out HF.out).mono ?_
  rintro e w2 ⟨rfl, hb⟩
  (try go_wp2_with fail)
  refine hK.out _ _ ?_
  clear hK K
  (try simp only [Act.put, sA, sB, sC])
  have HS2 := Lib.hid (Since.trans HS1.out hb)
  clear HS1 
  clear hb
  refine wpList_q (by rfl) (.bool false) ?he ?_
  case he => (go_simp; (first | done | rfl | omega))
  (try simp only [Act.put, sA, sB, sC])
  refine wpList_q (by rfl) (.bool false) ?he ?_
  case he => (first | rfl | (go_simp; (try with_reducible rfl)))
  (try simp only [Act.put, sA, sB, sC])
  refine wpList_nil ?_
  (try go_wp2_with fail)
  go_ret
  exact ⟨rfl, HS2.out⟩
theorem containsV (A : Option Addr) (n c : Nat) (zs : List Int) (v : Int) (b : Bool) (w : World) (hv : IV w A n zs) (hn : n ≤ 1000000) (hb : (atI zs v).isSome = b) : Calls Try.prog 70 #[.slice A n c, .int .i64 v] w fun e w' => e = .returned (.bool b) ∧ Since w w' := by
  cases hf : atI zs v with
  | none => rw [hf] at hb; subst hb; exact containsMiss A n c zs v w hv hn hf
  | some k => rw [hf] at hb; subst hb; exact containsHit A n c zs v k w hv hn hf
set_option maxHeartbeats 4000000 in
theorem firstNil (fa : Option Addr) (fn fc : Nat) (w : World) : Calls Try.prog 29 #[.pointer none, .slice fa fn fc] w fun e w' => e = .returned (.tuple #[.agg #[.int .i64 0, .int .i64 0, .int .i64 0, .int .i64 0, .int .i64 0], .bool false]) ∧ Since w w' := by
  go_enter Try.func29, Try.ntmps29
  go_upto_region 1 with fail
  obtain ⟨w1, hw1⟩ : ∃ w1, w1 = (w.alloc (.cells #[.int .i64 0, .int .i64 0, .int .i64 0, .int .i64 0, .int .i64 0] 30)) := ⟨_, rfl⟩
  rw [← hw1]
  have HBR1 := Lib.hid (show Blk w1 (w.heap.size) 30 #[.int .i64 0, .int .i64 0, .int .i64 0, .int .i64 0, .int .i64 0] by rw [hw1]; exact Blk.at_ (by (try simp only [size_alloc])) _ _)
  have HS1 := Lib.hid (show Since w w1 by rw [hw1]; exact Since.alloc (Since.refl w) _)
  have hNE : w.heap.size ≤ w.heap.size := by omega
  have HNE := Lib.hid hNE
  clear hNE hw1
  have HNE3 := Lib.hid (show w.heap.size ≤ w.heap.size from HNE.out)
  clear HNE
  refine wp_region_lit ?_
  refine wpList_q (by rfl) (.pointer none) ?he ?_
  case he => (first | rfl | (go_simp; (try with_reducible rfl)))
  (try simp only [Act.put, sA, sB, sC])
  refine wpList_q (by rfl) (.bool true) ?he ?_
  case he => (first | rfl | (go_simp; (try with_reducible rfl)))
  (try simp only [Act.put, sA, sB, sC])
  refine wpList_nil ?_
  go_upto_region 2 with fail
  refine wp_region_lit ?_
  refine wpList_q (by rfl) (.agg #[.int .i64 0, .int .i64 0, .int .i64 0, .int .i64 0, .int .i64 0]) ?he ?_
  case he => kernel_rfl
  (try simp only [Act.put, sA, sB, sC])
  refine wpList_wp (by rfl) (fun K hK => ?_)
  refine wp_st_row 30 _ _ rfl #[.int .i64 0, .int .i64 0, .int .i64 0, .int .i64 0, .int .i64 0] rfl rfl (HasRow.of HBR1.out rfl) rfl (by simp [Value.oneCell']) (by kernel_rfl) ?_
  intro w2 hw
  refine hK.out _ _ ?_
  clear hK K
  (try simp only [Act.put, sA, sB, sC])
  have HS2 := Lib.hid (show Since w w2 by rw [hw]; exact Since.setRow HS1.out (by have := HNE3.out; omega) _)
  have HBR2 := Lib.hid (show Blk w2 w.heap.size 30 #[.int .i64 0, .int .i64 0, .int .i64 0, .int .i64 0, .int .i64 0] by rw [hw]; exact Blk.row HBR1.out _)
  clear hw HS1 HBR1
  refine wpList_q (by rfl) (.bool false) ?he ?_
  case he => (first | rfl | (go_simp; (try with_reducible rfl)))
  (try simp only [Act.put, sA, sB, sC])
  refine wpList_nil ?_
  (try go_wp2_with fail)
  exact bodyPost_ret (results_row2 rfl _ _ w.heap.size 30 #[.int .i64 0, .int .i64 0, .int .i64 0, .int .i64 0, .int .i64 0] _ (.bool false) rfl rfl HBR2.out Try.underlying30 rfl (by kernel_rfl)) rfl ⟨rfl, HS2.out⟩
set_option maxHeartbeats 4000000 in
theorem firstHit (lo q : Nat) (room : Int) (ls : List AskV) (A : Option Addr) (c : Nat) (fa : Option Addr) (fn fc : Nat) (zs : List Int) (k0 : Nat) (hk : k0 < ls.length) (w : World) (hB : Blk w q 96 #[.int .i64 room, .slice A ls.length c]) (hO : w.ownsRow lo 30 5 (.slice A ls.length c) ls.length (rowsOf askC ls)) (hl : ls.length ≤ 10000) (hv : IV w fa fn zs) (hn : fn ≤ 1000000) (hf : atF ls zs = some k0) : Calls Try.prog 29 #[.pointer (some ⟨q, 0, none⟩), .slice fa fn fc] w fun e w' => e = .returned (.tuple #[.agg #[.int .i64 ((ls[k0]'hk).se), .int .i64 ((ls[k0]'hk).fl), .int .i64 ((ls[k0]'hk).fm), .int .i64 ((ls[k0]'hk).to), .int .i64 ((ls[k0]'hk).ma)], .bool true]) ∧ Since w w' := by
  have HBQ := Lib.hid hB
  have HOW := Lib.hid hO
  clear hB hO
  have HL := Lib.hid hl
  clear hl
  have HV := Lib.hid hv
  clear hv
  have HN := Lib.hid hn
  clear hn
  have HF := Lib.hid hf
  clear hf
  go_enter Try.func29, Try.ntmps29
  go_upto_region 1 with fail
  obtain ⟨w1, hw1⟩ : ∃ w1, w1 = (w.alloc (.cells #[.int .i64 0, .int .i64 0, .int .i64 0, .int .i64 0, .int .i64 0] 30)) := ⟨_, rfl⟩
  rw [← hw1]
  have HBR1 := Lib.hid (show Blk w1 (w.heap.size) 30 #[.int .i64 0, .int .i64 0, .int .i64 0, .int .i64 0, .int .i64 0] by rw [hw1]; exact Blk.at_ (by (try simp only [size_alloc])) _ _)
  have HS1 := Lib.hid (show Since w w1 by rw [hw1]; exact Since.alloc (Since.refl w) _)
  have hNE : w.heap.size ≤ w.heap.size := by omega
  have HNE := Lib.hid hNE
  clear hNE hw1
  have HNE3 := Lib.hid (show w.heap.size ≤ w.heap.size from HNE.out)
  clear HNE
  have HBQ1 := Lib.hid (keep_blk HS1.out HBQ.out)
  have HOW1 := Lib.hid (keep_own HS1.out HOW.out)
  have HIR := Lib.hid (own_far HOW.out (Nat.le_refl _))
  have HNQR := Lib.hid (show q ≠ w.heap.size by have := Blk.lt HBQ.out; omega)
  have HIQ := Lib.hid (own_ne_ty HOW.out HBQ.out (by decide))
  clear HBQ HOW
  refine wp_region_lit ?_
  refine wpList_q (by rfl) (.pointer (some ⟨q, 0, none⟩)) ?he ?_
  case he => (first | rfl | (go_simp; (try with_reducible rfl)))
  (try simp only [Act.put, sA, sB, sC])
  refine wpList_q (by rfl) (.bool false) ?he ?_
  case he => (first | rfl | (go_simp; (try with_reducible rfl)))
  (try simp only [Act.put, sA, sB, sC])
  refine wpList_nil ?_
  go_upto_region 3 with fail
  refine wp_region_lit ?_
  refine wpList_q (by rfl) (.pointer (some ⟨q, 0, none⟩)) ?he ?_
  case he => (first | rfl | (go_simp; (try with_reducible rfl)))
  (try simp only [Act.put, sA, sB, sC])
  refine wpList_q (by rfl) (.pointer (some ⟨q, 0, none⟩)) ?he ?_
  case he => (first | rfl | (go_simp; (try with_reducible rfl)))
  (try simp only [Act.put, sA, sB, sC])
  refine wpList_q (by rfl) (.pointer (some ⟨q, 1, none⟩)) ?he ?_
  case he => (first | rfl | (go_simp; (try with_reducible rfl)))
  (try simp only [Act.put, sA, sB, sC])
  refine wpList_q (by rfl) (.slice A ls.length c) ?he ?_
  case he => exact exec_cell 35 _ _ HBQ1.out rfl rfl rfl Try.underlying35 rfl
  (try simp only [Act.put, sA, sB, sC])
  refine wpList_q (by rfl) (.int .i64 (ls.length : Int)) ?he ?_
  case he => (first | rfl | (go_simp; (try with_reducible rfl)))
  (try simp only [Act.put, sA, sB, sC])
  refine wpList_q (by rfl) (.int .i64 0) ?he ?_
  case he => (first | rfl | (go_simp; (try with_reducible rfl)))
  (try simp only [Act.put, sA, sB, sC])
  refine wpList_nil ?_
  go_wp2_with fail
  go_loopw [16] (fun s16 wr => ∃ (k : Nat), k ≤ k0 ∧ s16 = .int .i64 (k : Int) ∧ Hid (Since w wr ∧ Blk wr w.heap.size 30 #[.int .i64 0, .int .i64 0, .int .i64 0, .int .i64 0, .int .i64 0] ∧ Blk wr q 96 #[.int .i64 room, .slice A ls.length c] ∧ (wr).ownsRow lo 30 5 (.slice A ls.length c) ls.length (rowsOf askC ls))) (fun s16 _ => ((ls.length : Int) - intOf s16).toNat)
  case atStart => exact ⟨0, by omega, rfl, Lib.hid ⟨HS1.out, HBR1.out, HBQ1.out, HOW1.out⟩⟩
  case round =>
    obtain ⟨k, hk, rfl, HO⟩ := hrel
    obtain ⟨g0, g1, g2, g3⟩ := HO.out
    clear HO HS1 HBR1 HBQ1 HOW1
    have HS51 := Lib.hid g0
    have HBR51 := Lib.hid g1
    have HBQ51 := Lib.hid g2
    have HFr51 := Lib.hid g3
    clear g0 g1 g2 g3
    obtain ⟨hk0, hse, hne⟩ := atF_some HF.out
    have HLT := Lib.hid (show k < ls.length by omega)
    have HSE := Lib.hid hse
    have HNE := Lib.hid hne
    have HK0 := Lib.hid hk0
    clear hse hne hk0
    by_cases hkk : k = k0
    · subst hkk
      obtain ⟨g, hg⟩ := own_addr HFr51.out (by have := HLT.out; omega)
      subst hg
      go_upto_region 4 with fail
      refine wp_region_lit ?_
      refine wpList_q (by rfl) (.bool true) ?he ?_
      case he => (have q0 := HLT.out; go_simp; (first | done | rfl | omega))
      (try simp only [Act.put, sA, sB, sC])
      refine wpList_nil ?_
      go_upto_region 5 with fail
      refine wp_region_lit ?_
      refine wpList_q (by rfl) (.pointer (some ⟨g, (0 + k * 5), none⟩)) ?he ?_
      case he => exact exec_index (i := k) 35 30 _ _ rfl rfl rfl rfl HLT.out Try.underlying35 (by kernel_rfl)
      (try simp only [Act.put, sA, sB, sC])
      refine wpList_q (by rfl) (.agg #[.int .i64 ((ls[k]'HLT.out).se), .int .i64 ((ls[k]'HLT.out).fl), .int .i64 ((ls[k]'HLT.out).fm), .int .i64 ((ls[k]'HLT.out).to), .int .i64 ((ls[k]'HLT.out).ma)]) ?he ?_
      case he => exact exec_rng (l := askC (ls[k]'HLT.out)) 30 _ _ (by have q := row_at HFr51.out HLT.out; simpa only [Nat.zero_add] using q) rfl rfl Try.underlying30 rfl (by kernel_rfl)
      (try simp only [Act.put, sA, sB, sC])
      refine wpList_wp (by rfl) (fun K hK => ?_)
      refine wp_new (fun b => .pointer (some ⟨b, 0, none⟩)) 30 #[.int .i64 0, .int .i64 0, .int .i64 0, .int .i64 0, .int .i64 0] (by rintro b rfl; first | rfl | kernel_rfl) ?_
      intro bn7 w52 hge hB hb
      refine hK.out _ _ ?_
      clear hK K
      (try simp only [Act.put, sA, sB, sC])
      have HNn7R := Lib.hid (show bn7 ≠ w.heap.size by have := Blk.lt HBR51.out; omega)
      have HNn7Q := Lib.hid (show bn7 ≠ q by have := Blk.lt HBQ51.out; omega)
      have HGn7 := Lib.hid (show w.heap.size ≤ bn7 by have := Since.size HS51.out; omega)
      have HIn7_r := Lib.hid (own_far HFr51.out hge)
      have HS52 := Lib.hid (Since.trans HS51.out hb)
      have HBR52 := Lib.hid (keep_blk hb HBR51.out)
      have HBQ52 := Lib.hid (keep_blk hb HBQ51.out)
      have HFr52 := Lib.hid (keep_own hb HFr51.out)
      clear HS51 HBR51 HBQ51 HFr51
      clear hb hge
      have HBn752 := Lib.hid hB
      clear hB
      refine wpList_wp (by rfl) (fun K hK => ?_)
      refine wp_st_row 30 _ _ rfl #[.int .i64 ((ls[k]'HLT.out).se), .int .i64 ((ls[k]'HLT.out).fl), .int .i64 ((ls[k]'HLT.out).fm), .int .i64 ((ls[k]'HLT.out).to), .int .i64 ((ls[k]'HLT.out).ma)] rfl rfl (HasRow.of HBn752.out rfl) rfl (by simp [Value.oneCell']) (by kernel_rfl) ?_
      intro w53 hw
      refine hK.out _ _ ?_
      clear hK K
      (try simp only [Act.put, sA, sB, sC])
      have HS53 := Lib.hid (show Since w w53 by rw [hw]; exact Since.setRow HS52.out HGn7.out _)
      have HBR53 := Lib.hid (show Blk w53 w.heap.size 30 #[.int .i64 0, .int .i64 0, .int .i64 0, .int .i64 0, .int .i64 0] by rw [hw]; exact Blk.row_far HBR52.out (Ne.symm HNn7R.out) _)
      have HBQ53 := Lib.hid (show Blk w53 q 96 #[.int .i64 room, .slice (some ⟨g, 0, none⟩) ls.length c] by rw [hw]; exact Blk.row_far HBQ52.out (Ne.symm HNn7Q.out) _)
      have HBn753 := Lib.hid (show Blk w53 bn7 30 #[.int .i64 ((ls[k]'HLT.out).se), .int .i64 ((ls[k]'HLT.out).fl), .int .i64 ((ls[k]'HLT.out).fm), .int .i64 ((ls[k]'HLT.out).to), .int .i64 ((ls[k]'HLT.out).ma)] by rw [hw]; exact Blk.row HBn752.out _)
      have HFr_53 := Lib.hid (show (w53).ownsRow lo 30 5 (.slice (some ⟨g, 0, none⟩) ls.length c) ls.length (rowsOf askC ls) by rw [hw]; exact own_row_far HFr52.out HIn7_r.out _)
      clear hw HS52 HBR52 HBQ52 HBn752 HFr52
      refine wpList_nil ?_
      go_upto_region 6 with fail
      refine wp_region_lit ?_
      refine wpList_q (by rfl) (.slice fa fn fc) ?he ?_
      case he => (first | rfl | (go_simp; (try with_reducible rfl)))
      (try simp only [Act.put, sA, sB, sC])
      refine wpList_q (by rfl) (.pointer (some ⟨bn7, 1, none⟩)) ?he ?_
      case he => (first | rfl | (go_simp; (try with_reducible rfl)))
      (try simp only [Act.put, sA, sB, sC])
      refine wpList_q (by rfl) (.int .i64 ((ls[k]'HLT.out).fl)) ?he ?_
      case he => exact exec_cell 3 _ _ HBn753.out rfl rfl rfl Try.underlying3 rfl
      (try simp only [Act.put, sA, sB, sC])
      refine wpList_wp (by rfl) (fun K hK => ?_)
      (try go_simp)
      refine (containsV fa fn fc zs _ false _ (IV.keep HS53.out HV.out) HN.out (HSE.out HLT.out)).mono ?_
      rintro e w54 ⟨rfl, hb⟩
      (try go_wp2_with fail)
      refine hK.out _ _ ?_
      clear hK K
      (try simp only [Act.put, sA, sB, sC])
      have HS54 := Lib.hid (Since.trans HS53.out hb)
      have HBR54 := Lib.hid (keep_blk hb HBR53.out)
      have HBQ54 := Lib.hid (keep_blk hb HBQ53.out)
      have HBn754 := Lib.hid (keep_blk hb HBn753.out)
      have HFr54 := Lib.hid (keep_own hb HFr_53.out)
      clear HS53 HBR53 HBQ53 HBn753 HFr_53
      clear hb
      refine wpList_q (by rfl) (.bool true) ?he ?_
      case he => (go_simp; (try with_reducible rfl))
      (try simp only [Act.put, sA, sB, sC])
      refine wpList_nil ?_
      go_upto_region 7 with fail
      refine wp_region_lit ?_
      refine wpList_q (by rfl) (.agg #[.int .i64 ((ls[k]'HLT.out).se), .int .i64 ((ls[k]'HLT.out).fl), .int .i64 ((ls[k]'HLT.out).fm), .int .i64 ((ls[k]'HLT.out).to), .int .i64 ((ls[k]'HLT.out).ma)]) ?he ?_
      case he => exact exec_load_row 30 _ _ HBn754.out rfl rfl Try.underlying30 rfl (by kernel_rfl)
      (try simp only [Act.put, sA, sB, sC])
      refine wpList_wp (by rfl) (fun K hK => ?_)
      refine wp_st_row 30 _ _ rfl #[.int .i64 ((ls[k]'HLT.out).se), .int .i64 ((ls[k]'HLT.out).fl), .int .i64 ((ls[k]'HLT.out).fm), .int .i64 ((ls[k]'HLT.out).to), .int .i64 ((ls[k]'HLT.out).ma)] rfl rfl (HasRow.of HBR54.out rfl) rfl (by simp [Value.oneCell']) (by kernel_rfl) ?_
      intro w55 hw
      refine hK.out _ _ ?_
      clear hK K
      (try simp only [Act.put, sA, sB, sC])
      have HS55 := Lib.hid (show Since w w55 by rw [hw]; exact Since.setRow HS54.out (by have := HNE3.out; omega) _)
      have HBR55 := Lib.hid (show Blk w55 w.heap.size 30 #[.int .i64 ((ls[k]'HLT.out).se), .int .i64 ((ls[k]'HLT.out).fl), .int .i64 ((ls[k]'HLT.out).fm), .int .i64 ((ls[k]'HLT.out).to), .int .i64 ((ls[k]'HLT.out).ma)] by rw [hw]; exact Blk.row HBR54.out _)
      have HBQ55 := Lib.hid (show Blk w55 q 96 #[.int .i64 room, .slice (some ⟨g, 0, none⟩) ls.length c] by rw [hw]; exact Blk.row_far HBQ54.out HNQR.out _)
      have HBn755 := Lib.hid (show Blk w55 bn7 30 #[.int .i64 ((ls[k]'HLT.out).se), .int .i64 ((ls[k]'HLT.out).fl), .int .i64 ((ls[k]'HLT.out).fm), .int .i64 ((ls[k]'HLT.out).to), .int .i64 ((ls[k]'HLT.out).ma)] by rw [hw]; exact Blk.row_far HBn754.out HNn7R.out _)
      have HFr_55 := Lib.hid (show (w55).ownsRow lo 30 5 (.slice (some ⟨g, 0, none⟩) ls.length c) ls.length (rowsOf askC ls) by rw [hw]; exact own_row_far HFr54.out HIR.out _)
      clear hw HS54 HBR54 HBQ54 HBn754 HFr54
      refine wpList_q (by rfl) (.bool true) ?he ?_
      case he => (first | rfl | (go_simp; (try with_reducible rfl)))
      (try simp only [Act.put, sA, sB, sC])
      refine wpList_nil ?_
      (try go_wp2_with fail)
      exact bodyPost_ret (results_row2 rfl _ _ w.heap.size 30 #[.int .i64 ((ls[k]'HLT.out).se), .int .i64 ((ls[k]'HLT.out).fl), .int .i64 ((ls[k]'HLT.out).fm), .int .i64 ((ls[k]'HLT.out).to), .int .i64 ((ls[k]'HLT.out).ma)] _ (.bool true) rfl rfl HBR55.out Try.underlying30 rfl (by kernel_rfl)) rfl ⟨rfl, HS55.out⟩
    · have HKL := Lib.hid (show k < k0 by omega)
      obtain ⟨g, hg⟩ := own_addr HFr51.out (by have := HLT.out; omega)
      subst hg
      go_upto_region 4 with fail
      refine wp_region_lit ?_
      refine wpList_q (by rfl) (.bool true) ?he ?_
      case he => (have q0 := HLT.out; go_simp; (first | done | rfl | omega))
      (try simp only [Act.put, sA, sB, sC])
      refine wpList_nil ?_
      go_upto_region 5 with fail
      refine wp_region_lit ?_
      refine wpList_q (by rfl) (.pointer (some ⟨g, (0 + k * 5), none⟩)) ?he ?_
      case he => exact exec_index (i := k) 35 30 _ _ rfl rfl rfl rfl HLT.out Try.underlying35 (by kernel_rfl)
      (try simp only [Act.put, sA, sB, sC])
      refine wpList_q (by rfl) (.agg #[.int .i64 ((ls[k]'HLT.out).se), .int .i64 ((ls[k]'HLT.out).fl), .int .i64 ((ls[k]'HLT.out).fm), .int .i64 ((ls[k]'HLT.out).to), .int .i64 ((ls[k]'HLT.out).ma)]) ?he ?_
      case he => exact exec_rng (l := askC (ls[k]'HLT.out)) 30 _ _ (by have q := row_at HFr51.out HLT.out; simpa only [Nat.zero_add] using q) rfl rfl Try.underlying30 rfl (by kernel_rfl)
      (try simp only [Act.put, sA, sB, sC])
      refine wpList_wp (by rfl) (fun K hK => ?_)
      refine wp_new (fun b => .pointer (some ⟨b, 0, none⟩)) 30 #[.int .i64 0, .int .i64 0, .int .i64 0, .int .i64 0, .int .i64 0] (by rintro b rfl; first | rfl | kernel_rfl) ?_
      intro bn7 w52 hge hB hb
      refine hK.out _ _ ?_
      clear hK K
      (try simp only [Act.put, sA, sB, sC])
      have HNn7R := Lib.hid (show bn7 ≠ w.heap.size by have := Blk.lt HBR51.out; omega)
      have HNn7Q := Lib.hid (show bn7 ≠ q by have := Blk.lt HBQ51.out; omega)
      have HGn7 := Lib.hid (show w.heap.size ≤ bn7 by have := Since.size HS51.out; omega)
      have HIn7_r := Lib.hid (own_far HFr51.out hge)
      have HS52 := Lib.hid (Since.trans HS51.out hb)
      have HBR52 := Lib.hid (keep_blk hb HBR51.out)
      have HBQ52 := Lib.hid (keep_blk hb HBQ51.out)
      have HFr52 := Lib.hid (keep_own hb HFr51.out)
      clear HS51 HBR51 HBQ51 HFr51
      clear hb hge
      have HBn752 := Lib.hid hB
      clear hB
      refine wpList_wp (by rfl) (fun K hK => ?_)
      refine wp_st_row 30 _ _ rfl #[.int .i64 ((ls[k]'HLT.out).se), .int .i64 ((ls[k]'HLT.out).fl), .int .i64 ((ls[k]'HLT.out).fm), .int .i64 ((ls[k]'HLT.out).to), .int .i64 ((ls[k]'HLT.out).ma)] rfl rfl (HasRow.of HBn752.out rfl) rfl (by simp [Value.oneCell']) (by kernel_rfl) ?_
      intro w53 hw
      refine hK.out _ _ ?_
      clear hK K
      (try simp only [Act.put, sA, sB, sC])
      have HS53 := Lib.hid (show Since w w53 by rw [hw]; exact Since.setRow HS52.out HGn7.out _)
      have HBR53 := Lib.hid (show Blk w53 w.heap.size 30 #[.int .i64 0, .int .i64 0, .int .i64 0, .int .i64 0, .int .i64 0] by rw [hw]; exact Blk.row_far HBR52.out (Ne.symm HNn7R.out) _)
      have HBQ53 := Lib.hid (show Blk w53 q 96 #[.int .i64 room, .slice (some ⟨g, 0, none⟩) ls.length c] by rw [hw]; exact Blk.row_far HBQ52.out (Ne.symm HNn7Q.out) _)
      have HBn753 := Lib.hid (show Blk w53 bn7 30 #[.int .i64 ((ls[k]'HLT.out).se), .int .i64 ((ls[k]'HLT.out).fl), .int .i64 ((ls[k]'HLT.out).fm), .int .i64 ((ls[k]'HLT.out).to), .int .i64 ((ls[k]'HLT.out).ma)] by rw [hw]; exact Blk.row HBn752.out _)
      have HFr_53 := Lib.hid (show (w53).ownsRow lo 30 5 (.slice (some ⟨g, 0, none⟩) ls.length c) ls.length (rowsOf askC ls) by rw [hw]; exact own_row_far HFr52.out HIn7_r.out _)
      clear hw HS52 HBR52 HBQ52 HBn752 HFr52
      refine wpList_nil ?_
      go_upto_region 6 with fail
      refine wp_region_lit ?_
      refine wpList_q (by rfl) (.slice fa fn fc) ?he ?_
      case he => (first | rfl | (go_simp; (try with_reducible rfl)))
      (try simp only [Act.put, sA, sB, sC])
      refine wpList_q (by rfl) (.pointer (some ⟨bn7, 1, none⟩)) ?he ?_
      case he => (first | rfl | (go_simp; (try with_reducible rfl)))
      (try simp only [Act.put, sA, sB, sC])
      refine wpList_q (by rfl) (.int .i64 ((ls[k]'HLT.out).fl)) ?he ?_
      case he => exact exec_cell 3 _ _ HBn753.out rfl rfl rfl Try.underlying3 rfl
      (try simp only [Act.put, sA, sB, sC])
      refine wpList_wp (by rfl) (fun K hK => ?_)
      (try go_simp)
      refine (containsV fa fn fc zs _ true _ (IV.keep HS53.out HV.out) HN.out (HNE.out k HKL.out HLT.out)).mono ?_
      rintro e w54 ⟨rfl, hb⟩
      (try go_wp2_with fail)
      refine hK.out _ _ ?_
      clear hK K
      (try simp only [Act.put, sA, sB, sC])
      have HS54 := Lib.hid (Since.trans HS53.out hb)
      have HBR54 := Lib.hid (keep_blk hb HBR53.out)
      have HBQ54 := Lib.hid (keep_blk hb HBQ53.out)
      have HBn754 := Lib.hid (keep_blk hb HBn753.out)
      have HFr54 := Lib.hid (keep_own hb HFr_53.out)
      clear HS53 HBR53 HBQ53 HBn753 HFr_53
      clear hb
      refine wpList_q (by rfl) (.bool false) ?he ?_
      case he => (go_simp; (try with_reducible rfl))
      (try simp only [Act.put, sA, sB, sC])
      refine wpList_nil ?_
      go_upto_region 8 with fail
      refine wp_region_lit ?_
      refine wpList_q (by rfl) (.int .i64 ((k : Int) + 1)) ?he ?_
      case he => (go_simp; (first | done | (refine wr64 _ ?_ ?_ <;> (have q0 := HLT.out; have q1 := HL.out; omega)) | (have q0 := HLT.out; have q1 := HL.out; omega) | (have q0 := HLT.out; have q1 := HL.out; split <;> omega) | (have q0 := HLT.out; have q1 := HL.out; intro hh; omega)))
      (try simp only [Act.put, sA, sB, sC])
      refine wpList_q (by rfl) (.int .i64 ((k : Int) + 1)) ?he ?_
      case he => (first | rfl | (go_simp; (try with_reducible rfl)))
      (try simp only [Act.put, sA, sB, sC])
      refine wpList_nil ?_
      go_wp2_with fail
      go_roundw
      case rel => exact ⟨k + 1, by have := HKL.out; omega, by go_num, Lib.hid ⟨HS54.out, HBR54.out, HBQ54.out, HFr54.out⟩⟩
      case measure => have := HLT.out; simp [intOf]; omega
set_option maxHeartbeats 4000000 in
theorem firstMiss (lo q : Nat) (room : Int) (ls : List AskV) (A : Option Addr) (c : Nat) (fa : Option Addr) (fn fc : Nat) (zs : List Int) (w : World) (hB : Blk w q 96 #[.int .i64 room, .slice A ls.length c]) (hO : w.ownsRow lo 30 5 (.slice A ls.length c) ls.length (rowsOf askC ls)) (hl : ls.length ≤ 10000) (hv : IV w fa fn zs) (hn : fn ≤ 1000000) (hf : atF ls zs = none) : Calls Try.prog 29 #[.pointer (some ⟨q, 0, none⟩), .slice fa fn fc] w fun e w' => e = .returned (.tuple #[.agg #[.int .i64 0, .int .i64 0, .int .i64 0, .int .i64 0, .int .i64 0], .bool false]) ∧ Since w w' := by
  have HBQ := Lib.hid hB
  have HOW := Lib.hid hO
  clear hB hO
  have HL := Lib.hid hl
  clear hl
  have HV := Lib.hid hv
  clear hv
  have HN := Lib.hid hn
  clear hn
  have HF := Lib.hid hf
  clear hf
  go_enter Try.func29, Try.ntmps29
  go_upto_region 1 with fail
  obtain ⟨w1, hw1⟩ : ∃ w1, w1 = (w.alloc (.cells #[.int .i64 0, .int .i64 0, .int .i64 0, .int .i64 0, .int .i64 0] 30)) := ⟨_, rfl⟩
  rw [← hw1]
  have HBR1 := Lib.hid (show Blk w1 (w.heap.size) 30 #[.int .i64 0, .int .i64 0, .int .i64 0, .int .i64 0, .int .i64 0] by rw [hw1]; exact Blk.at_ (by (try simp only [size_alloc])) _ _)
  have HS1 := Lib.hid (show Since w w1 by rw [hw1]; exact Since.alloc (Since.refl w) _)
  have hNE : w.heap.size ≤ w.heap.size := by omega
  have HNE := Lib.hid hNE
  clear hNE hw1
  have HNE3 := Lib.hid (show w.heap.size ≤ w.heap.size from HNE.out)
  clear HNE
  have HBQ1 := Lib.hid (keep_blk HS1.out HBQ.out)
  have HOW1 := Lib.hid (keep_own HS1.out HOW.out)
  have HIR := Lib.hid (own_far HOW.out (Nat.le_refl _))
  have HNQR := Lib.hid (show q ≠ w.heap.size by have := Blk.lt HBQ.out; omega)
  have HIQ := Lib.hid (own_ne_ty HOW.out HBQ.out (by decide))
  clear HBQ HOW
  refine wp_region_lit ?_
  refine wpList_q (by rfl) (.pointer (some ⟨q, 0, none⟩)) ?he ?_
  case he => (first | rfl | (go_simp; (try with_reducible rfl)))
  (try simp only [Act.put, sA, sB, sC])
  refine wpList_q (by rfl) (.bool false) ?he ?_
  case he => (first | rfl | (go_simp; (try with_reducible rfl)))
  (try simp only [Act.put, sA, sB, sC])
  refine wpList_nil ?_
  go_upto_region 3 with fail
  refine wp_region_lit ?_
  refine wpList_q (by rfl) (.pointer (some ⟨q, 0, none⟩)) ?he ?_
  case he => (first | rfl | (go_simp; (try with_reducible rfl)))
  (try simp only [Act.put, sA, sB, sC])
  refine wpList_q (by rfl) (.pointer (some ⟨q, 0, none⟩)) ?he ?_
  case he => (first | rfl | (go_simp; (try with_reducible rfl)))
  (try simp only [Act.put, sA, sB, sC])
  refine wpList_q (by rfl) (.pointer (some ⟨q, 1, none⟩)) ?he ?_
  case he => (first | rfl | (go_simp; (try with_reducible rfl)))
  (try simp only [Act.put, sA, sB, sC])
  refine wpList_q (by rfl) (.slice A ls.length c) ?he ?_
  case he => exact exec_cell 35 _ _ HBQ1.out rfl rfl rfl Try.underlying35 rfl
  (try simp only [Act.put, sA, sB, sC])
  refine wpList_q (by rfl) (.int .i64 (ls.length : Int)) ?he ?_
  case he => (first | rfl | (go_simp; (try with_reducible rfl)))
  (try simp only [Act.put, sA, sB, sC])
  refine wpList_q (by rfl) (.int .i64 0) ?he ?_
  case he => (first | rfl | (go_simp; (try with_reducible rfl)))
  (try simp only [Act.put, sA, sB, sC])
  refine wpList_nil ?_
  go_wp2_with fail
  go_loopw [16] (fun s16 wr => ∃ (k : Nat), k ≤ ls.length ∧ s16 = .int .i64 (k : Int) ∧ Hid (Since w wr ∧ Blk wr w.heap.size 30 #[.int .i64 0, .int .i64 0, .int .i64 0, .int .i64 0, .int .i64 0] ∧ Blk wr q 96 #[.int .i64 room, .slice A ls.length c] ∧ (wr).ownsRow lo 30 5 (.slice A ls.length c) ls.length (rowsOf askC ls))) (fun s16 _ => ((ls.length : Int) - intOf s16).toNat)
  case atStart => exact ⟨0, by omega, rfl, Lib.hid ⟨HS1.out, HBR1.out, HBQ1.out, HOW1.out⟩⟩
  case round =>
    obtain ⟨k, hk, rfl, HO⟩ := hrel
    obtain ⟨g0, g1, g2, g3⟩ := HO.out
    clear HO HS1 HBR1 HBQ1 HOW1
    have HS51 := Lib.hid g0
    have HBR51 := Lib.hid g1
    have HBQ51 := Lib.hid g2
    have HFr51 := Lib.hid g3
    clear g0 g1 g2 g3
    by_cases hlt : k < ls.length
    rotate_left
    · have HGE := Lib.hid (show ls.length ≤ k by omega)
      go_upto_region 4 with fail
      refine wp_region_lit ?_
      refine wpList_q (by rfl) (.bool false) ?he ?_
      case he => (have q0 := HGE.out; go_simp; (first | done | rfl | omega))
      (try simp only [Act.put, sA, sB, sC])
      refine wpList_nil ?_
      go_upto_region 9 with fail
      refine wp_region_lit ?_
      refine wpList_q (by rfl) (.agg #[.int .i64 0, .int .i64 0, .int .i64 0, .int .i64 0, .int .i64 0]) ?he ?_
      case he => kernel_rfl
      (try simp only [Act.put, sA, sB, sC])
      refine wpList_wp (by rfl) (fun K hK => ?_)
      refine wp_st_row 30 _ _ rfl #[.int .i64 0, .int .i64 0, .int .i64 0, .int .i64 0, .int .i64 0] rfl rfl (HasRow.of HBR51.out rfl) rfl (by simp [Value.oneCell']) (by kernel_rfl) ?_
      intro w52 hw
      refine hK.out _ _ ?_
      clear hK K
      (try simp only [Act.put, sA, sB, sC])
      have HS52 := Lib.hid (show Since w w52 by rw [hw]; exact Since.setRow HS51.out (by have := HNE3.out; omega) _)
      have HBR52 := Lib.hid (show Blk w52 w.heap.size 30 #[.int .i64 0, .int .i64 0, .int .i64 0, .int .i64 0, .int .i64 0] by rw [hw]; exact Blk.row HBR51.out _)
      have HBQ52 := Lib.hid (show Blk w52 q 96 #[.int .i64 room, .slice A ls.length c] by rw [hw]; exact Blk.row_far HBQ51.out HNQR.out _)
      have HFr_52 := Lib.hid (show (w52).ownsRow lo 30 5 (.slice A ls.length c) ls.length (rowsOf askC ls) by rw [hw]; exact own_row_far HFr51.out HIR.out _)
      clear hw HS51 HBR51 HBQ51 HFr51
      refine wpList_q (by rfl) (.bool false) ?he ?_
      case he => (first | rfl | (go_simp; (try with_reducible rfl)))
      (try simp only [Act.put, sA, sB, sC])
      refine wpList_nil ?_
      (try go_wp2_with fail)
      exact bodyPost_ret (results_row2 rfl _ _ w.heap.size 30 #[.int .i64 0, .int .i64 0, .int .i64 0, .int .i64 0, .int .i64 0] _ (.bool false) rfl rfl HBR52.out Try.underlying30 rfl (by kernel_rfl)) rfl ⟨rfl, HS52.out⟩
    · have HLT := Lib.hid hlt
      clear hlt
      obtain ⟨g, hg⟩ := own_addr HFr51.out (by have := HLT.out; omega)
      subst hg
      go_upto_region 4 with fail
      refine wp_region_lit ?_
      refine wpList_q (by rfl) (.bool true) ?he ?_
      case he => (have q0 := HLT.out; go_simp; (first | done | rfl | omega))
      (try simp only [Act.put, sA, sB, sC])
      refine wpList_nil ?_
      go_upto_region 5 with fail
      refine wp_region_lit ?_
      refine wpList_q (by rfl) (.pointer (some ⟨g, (0 + k * 5), none⟩)) ?he ?_
      case he => exact exec_index (i := k) 35 30 _ _ rfl rfl rfl rfl HLT.out Try.underlying35 (by kernel_rfl)
      (try simp only [Act.put, sA, sB, sC])
      refine wpList_q (by rfl) (.agg #[.int .i64 ((ls[k]'HLT.out).se), .int .i64 ((ls[k]'HLT.out).fl), .int .i64 ((ls[k]'HLT.out).fm), .int .i64 ((ls[k]'HLT.out).to), .int .i64 ((ls[k]'HLT.out).ma)]) ?he ?_
      case he => exact exec_rng (l := askC (ls[k]'HLT.out)) 30 _ _ (by have q := row_at HFr51.out HLT.out; simpa only [Nat.zero_add] using q) rfl rfl Try.underlying30 rfl (by kernel_rfl)
      (try simp only [Act.put, sA, sB, sC])
      refine wpList_wp (by rfl) (fun K hK => ?_)
      refine wp_new (fun b => .pointer (some ⟨b, 0, none⟩)) 30 #[.int .i64 0, .int .i64 0, .int .i64 0, .int .i64 0, .int .i64 0] (by rintro b rfl; first | rfl | kernel_rfl) ?_
      intro bn7 w52 hge hB hb
      refine hK.out _ _ ?_
      clear hK K
      (try simp only [Act.put, sA, sB, sC])
      have HNn7R := Lib.hid (show bn7 ≠ w.heap.size by have := Blk.lt HBR51.out; omega)
      have HNn7Q := Lib.hid (show bn7 ≠ q by have := Blk.lt HBQ51.out; omega)
      have HGn7 := Lib.hid (show w.heap.size ≤ bn7 by have := Since.size HS51.out; omega)
      have HIn7_r := Lib.hid (own_far HFr51.out hge)
      have HS52 := Lib.hid (Since.trans HS51.out hb)
      have HBR52 := Lib.hid (keep_blk hb HBR51.out)
      have HBQ52 := Lib.hid (keep_blk hb HBQ51.out)
      have HFr52 := Lib.hid (keep_own hb HFr51.out)
      clear HS51 HBR51 HBQ51 HFr51
      clear hb hge
      have HBn752 := Lib.hid hB
      clear hB
      refine wpList_wp (by rfl) (fun K hK => ?_)
      refine wp_st_row 30 _ _ rfl #[.int .i64 ((ls[k]'HLT.out).se), .int .i64 ((ls[k]'HLT.out).fl), .int .i64 ((ls[k]'HLT.out).fm), .int .i64 ((ls[k]'HLT.out).to), .int .i64 ((ls[k]'HLT.out).ma)] rfl rfl (HasRow.of HBn752.out rfl) rfl (by simp [Value.oneCell']) (by kernel_rfl) ?_
      intro w53 hw
      refine hK.out _ _ ?_
      clear hK K
      (try simp only [Act.put, sA, sB, sC])
      have HS53 := Lib.hid (show Since w w53 by rw [hw]; exact Since.setRow HS52.out HGn7.out _)
      have HBR53 := Lib.hid (show Blk w53 w.heap.size 30 #[.int .i64 0, .int .i64 0, .int .i64 0, .int .i64 0, .int .i64 0] by rw [hw]; exact Blk.row_far HBR52.out (Ne.symm HNn7R.out) _)
      have HBQ53 := Lib.hid (show Blk w53 q 96 #[.int .i64 room, .slice (some ⟨g, 0, none⟩) ls.length c] by rw [hw]; exact Blk.row_far HBQ52.out (Ne.symm HNn7Q.out) _)
      have HBn753 := Lib.hid (show Blk w53 bn7 30 #[.int .i64 ((ls[k]'HLT.out).se), .int .i64 ((ls[k]'HLT.out).fl), .int .i64 ((ls[k]'HLT.out).fm), .int .i64 ((ls[k]'HLT.out).to), .int .i64 ((ls[k]'HLT.out).ma)] by rw [hw]; exact Blk.row HBn752.out _)
      have HFr_53 := Lib.hid (show (w53).ownsRow lo 30 5 (.slice (some ⟨g, 0, none⟩) ls.length c) ls.length (rowsOf askC ls) by rw [hw]; exact own_row_far HFr52.out HIn7_r.out _)
      clear hw HS52 HBR52 HBQ52 HBn752 HFr52
      refine wpList_nil ?_
      go_upto_region 6 with fail
      refine wp_region_lit ?_
      refine wpList_q (by rfl) (.slice fa fn fc) ?he ?_
      case he => (first | rfl | (go_simp; (try with_reducible rfl)))
      (try simp only [Act.put, sA, sB, sC])
      refine wpList_q (by rfl) (.pointer (some ⟨bn7, 1, none⟩)) ?he ?_
      case he => (first | rfl | (go_simp; (try with_reducible rfl)))
      (try simp only [Act.put, sA, sB, sC])
      refine wpList_q (by rfl) (.int .i64 ((ls[k]'HLT.out).fl)) ?he ?_
      case he => exact exec_cell 3 _ _ HBn753.out rfl rfl rfl Try.underlying3 rfl
      (try simp only [Act.put, sA, sB, sC])
      refine wpList_wp (by rfl) (fun K hK => ?_)
      (try go_simp)
      refine (containsV fa fn fc zs _ true _ (IV.keep HS53.out HV.out) HN.out (atF_none HF.out k HLT.out)).mono ?_
      rintro e w54 ⟨rfl, hb⟩
      (try go_wp2_with fail)
      refine hK.out _ _ ?_
      clear hK K
      (try simp only [Act.put, sA, sB, sC])
      have HS54 := Lib.hid (Since.trans HS53.out hb)
      have HBR54 := Lib.hid (keep_blk hb HBR53.out)
      have HBQ54 := Lib.hid (keep_blk hb HBQ53.out)
      have HBn754 := Lib.hid (keep_blk hb HBn753.out)
      have HFr54 := Lib.hid (keep_own hb HFr_53.out)
      clear HS53 HBR53 HBQ53 HBn753 HFr_53
      clear hb
      refine wpList_q (by rfl) (.bool false) ?he ?_
      case he => (go_simp; (try with_reducible rfl))
      (try simp only [Act.put, sA, sB, sC])
      refine wpList_nil ?_
      go_upto_region 8 with fail
      refine wp_region_lit ?_
      refine wpList_q (by rfl) (.int .i64 ((k : Int) + 1)) ?he ?_
      case he => (go_simp; (first | done | (refine wr64 _ ?_ ?_ <;> (have q0 := HLT.out; have q1 := HL.out; omega)) | (have q0 := HLT.out; have q1 := HL.out; omega) | (have q0 := HLT.out; have q1 := HL.out; split <;> omega) | (have q0 := HLT.out; have q1 := HL.out; intro hh; omega)))
      (try simp only [Act.put, sA, sB, sC])
      refine wpList_q (by rfl) (.int .i64 ((k : Int) + 1)) ?he ?_
      case he => (first | rfl | (go_simp; (try with_reducible rfl)))
      (try simp only [Act.put, sA, sB, sC])
      refine wpList_nil ?_
      go_wp2_with fail
      go_roundw
      case rel => exact ⟨k + 1, by have := HLT.out; omega, by go_num, Lib.hid ⟨HS54.out, HBR54.out, HBQ54.out, HFr54.out⟩⟩
      case measure => have := HLT.out; simp [intOf]; omega
theorem firstV (lo q : Nat) (room : Int) (ls : List AskV) (S : List Nat) (fa : Option Addr) (fn fc : Nat) (zs : List Int) (w : World) (hQ : QO lo q room ls S w) (hl : ls.length ≤ 10000) (hv : IV w fa fn zs) (hn : fn ≤ 1000000) (x : AskV) (b : Bool)
    (hx : (match atF ls zs with | some k => (ls.getD k ⟨0, 0, 0, 0, 0⟩, true) | none => (⟨0, 0, 0, 0, 0⟩, false)) = (x, b)) :
    Calls Try.prog 29 #[.pointer (some ⟨q, 0, none⟩), .slice fa fn fc] w fun e w' => e = .returned (.tuple #[.agg #[.int .i64 x.se, .int .i64 x.fl, .int .i64 x.fm, .int .i64 x.to, .int .i64 x.ma], .bool b]) ∧ Since w w' := by
  obtain ⟨h0, A, c, rfl, B, O⟩ := hQ
  cases hf : atF ls zs with
  | none =>
    rw [hf] at hx
    simp only [Prod.mk.injEq] at hx
    obtain ⟨rfl, rfl⟩ := hx
    exact firstMiss lo q room ls A c fa fn fc zs w B O hl hv hn hf
  | some k =>
    have hk := (atF_some hf).1
    rw [hf] at hx
    have hg : ls.getD k ⟨0, 0, 0, 0, 0⟩ = ls[k] := by simp [List.getD, hk]
    simp only [Prod.mk.injEq, hg] at hx
    obtain ⟨rfl, rfl⟩ := hx
    exact firstHit lo q room ls A c fa fn fc zs k hk w B O hl hv hn hf
end Go.Proofs.Ytggafipgfgbbiaa.Qu
