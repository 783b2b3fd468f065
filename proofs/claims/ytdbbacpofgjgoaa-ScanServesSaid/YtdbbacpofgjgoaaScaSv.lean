/-
  ScanServes, walked.
  Conditions: what stands ahead of each.
-/
import Derived.Test.YtdbbacpofgjgoaaProg
import Derived.Test.YtdbbacpofgjgoaaShort
import Derived.Test.YtdbbacpofgjgoaaScaSwp
import Derived.Test.YtdbbacpofgjgoaaUpd
import Derived.Test.YtdbbacpofgjgoaaStoRef
namespace Go.Proofs.Ytdbbacpofgjgoaa.Sc
set_option linter.unusedVariables false
set_option linter.unusedSimpArgs false
open Go.RowKit Go.Proofs.Ytdbbacpofgjgoaa.Ba Go.Proofs.Ytdbbacpofgjgoaa.Mem Go.Proofs.Ytdbbacpofgjgoaa.St
set_option maxRecDepth 100000
theorem a1 : nxW 32 0 4 2 1 (-1) = 1 := by decide +kernel
theorem a2 : nxO 32 0 4 2 1 (-1) = false := by decide +kernel
theorem a3 : nxW 0 0 4 2 1 (-1) = 2 := by decide +kernel
theorem a4 : nxO 0 0 4 2 1 (-1) = true := by decide +kernel
theorem ansS (w : World) : Calls Try.prog 37 #[] w fun e w' => e = .returned (.bool true) ∧ Since w w' := by
  have e1 := a1
  have e2 := a2
  have e3 := a3
  have e4 := a4
  go_enter Try.func37, Try.ntmps37
  go_wp2_with (first | (go_at_call 35; refine (nextT _ _ _ _ _ _ (by unfold R; omega) (by unfold R; omega) (by unfold R; omega) _).mono ?_; rintro e w1 ⟨rfl, hb1⟩))
  go_ret
  exact ⟨rfl, (by repeat (first | exact Since.refl _ | assumption | refine Since.setCell ?_ (by first | (simp; done) | (simp; omega)) _ | refine Since.drew ?_ | refine Since.drewN ?_ _ | refine Since.alloc ?_ _ | refine Since.trans ?_ (by assumption) | refine Since.trans ?_ (Hid.out (by assumption))))⟩
attribute [local irreducible] Go.wpList
theorem wrS (x : Int) (h0 : -9223372036854775808 ≤ x) (h1 : x ≤ 9223372036854775807) : IntKind.i64.wrap x = x := by
  simp only [IntKind.wrap, IntKind.bits, IntKind.signed]; simp; omega
theorem nextV (p u d f w j x : Int) (b : Bool) (W : World) (hx : nxW p u d f w j = x) (hb : nxO p u d f w j = b) (hp : R p) (hu : R u) (hd : R d) : Calls Try.prog 35 #[.agg #[.int .u64 p, .int .u64 u, .int .u64 d], .int .i64 f, .int .i64 w, .int .i64 j] W fun e w' => e = .returned (.tuple #[.int .i64 x, .bool b]) ∧ Since W w' := by
  subst hx; subst hb; exact nextT p u d f w j hp hu hd W
theorem anyV (p u d f : Int) (b : Bool) (W : World) (h : heB p u d f = b) (hp : R p) (hu : R u) (hd : R d) : Calls Try.prog 31 #[.agg #[.int .u64 p, .int .u64 u, .int .u64 d], .int .i64 f] W fun e w' => e = .returned (.bool b) ∧ Since W w' := by subst h; exact anyR p u d f hp hu hd W
/-- What holds ahead of round i. -/
def ServI (p u d f w j : Int) (i : Nat) : Prop := ∃ n : Int, Sw 63 p u d f w j n ∧ (i : Int) + n + (bc p + bc u + bc d : Nat) ≤ 445
theorem serv_i {p u d f w j : Int} {i : Nat} (h : ServI p u d f w j i) : (i : Int) ≤ 445 ∧ 0 ≤ f ∧ f ≤ 63 ∧ (R p ∧ R u ∧ R d) ∧ (w = 0 ∨ w = 1 ∨ w = 2) := by
  obtain ⟨n, hs, hn⟩ := h
  have := hs.1.2.2.2
  exact ⟨by omega, hs.1.1, hs.1.2.1, hs.2.2.1, hs.2.1⟩
theorem serv_first {p u d f w : Int} (hp : R p) (hu : R u) (hd : R d) (f0 : 0 ≤ f) (f1 : f ≤ 63) (hw : w = 0 ∨ w = 1 ∨ w = 2) : ServI p u d f w (-1) 0 := by
  have a1 := bc_hi p
  have a2 := bc_hi u
  have a3 := bc_hi d
  exact ⟨4 * 63 + 1, sw_first hp hu hd f0 f1 (by decide) hw (fun g hg _ => by omega), by omega⟩
theorem serv_open {p u d f w j x : Int} {i : Nat} (h : ServI p u d f w j i) (ho : nxO p u d f w j = true) (hx : nxW p u d f w j = x) : ServI (clP p f) (clU u f x) (clD d f x) f x f (i + 1) := by
  subst hx
  obtain ⟨n, hs, hn⟩ := h
  have hs' := sw_open hs ho
  have hb := bc_open hs.2.2.1.1 hs.2.2.1.2.1 hs.2.2.1.2.2 ⟨hs.1.1, by have := hs.1.2.1; omega⟩ hs'.2
  exact ⟨n, hs'.1, by push_cast at *; omega⟩
theorem serv_move {p u d f w j x f' : Int} {i : Nat} (h : ServI p u d f w j i) (ho : nxO p u d f w j = false) (hx : nxW p u d f w j = x) (h0 : ¬ x = 0) (hf : (if x = 1 then f + 1 else f - 1) = f') : ServI p u d f' x (-1) (i + 1) := by
  subst hx
  subst hf
  obtain ⟨n, hs, hn⟩ := h
  exact ⟨n - 1, sw_move hs ho h0, by push_cast at *; omega⟩
set_option maxHeartbeats 4000000 in
theorem servT (p u d f8 w8 : Int) (w : World) (hp : R p) (hu : R u) (hd : R d) (hf8 : 0 ≤ f8 ∧ f8 ≤ 255) (hw8 : 0 ≤ w8 ∧ w8 ≤ 255) : Calls Try.prog 10 #[.agg #[.int .u64 p, .int .u64 u, .int .u64 d], .int .u8 f8, .int .u8 w8] w fun e w' => e = .returned (.bool true) ∧ Since w w' := by
  have HP := Lib.hid hp
  clear hp
  have HU := Lib.hid hu
  clear hu
  have HD := Lib.hid hd
  clear hd
  have HF8 := Lib.hid hf8
  clear hf8
  have HW8 := Lib.hid hw8
  clear hw8
  go_enter Try.func10, Try.ntmps10
  go_upto_region 1 with fail
  obtain ⟨w1, hw1⟩ : ∃ w1, w1 = (w.alloc (.cells #[.int .u64 p, .int .u64 u, .int .u64 d] 28)) := ⟨_, rfl⟩
  rw [← hw1]
  have HBZ1 := Lib.hid (show Blk w1 (w.heap.size) 28 #[.int .u64 p, .int .u64 u, .int .u64 d] by rw [hw1]; exact Blk.at_ (by (try simp only [size_alloc])) _ _)
  have HS1 := Lib.hid (show Since w w1 by rw [hw1]; exact Since.alloc (Since.refl w) _)
  have hNE : w.heap.size ≤ w.heap.size := by omega
  have HNE := Lib.hid hNE
  clear hNE hw1
  have HNE3 := Lib.hid (show w.heap.size ≤ w.heap.size from HNE.out)
  clear HNE
  refine wp_region_lit ?_
  refine tkL (.int .u8 f8) (h := ?_)
  (try simp only [Act.put, sA, sB, sC])
  refine wpList_q (by rfl) (.int .u8 (f8 % 64)) ?he ?_
  case he => (have q := HF8.out; have t := Int.tmod_eq_emod_of_nonneg (b := 64) q.1; go_simp; (first | done | rfl | (rw [t]; done) | (simp only [t, IntKind.wrap, IntKind.bits, IntKind.signed]; simp; omega) | omega))
  (try simp only [Act.put, sA, sB, sC])
  refine wpList_q (by rfl) (.int .i64 (f8 % 64)) ?he ?_
  case he => (have q := HF8.out; go_simp; (first | done | rfl | (simp only [IntKind.wrap, IntKind.bits, IntKind.signed]; simp; omega) | omega))
  (try simp only [Act.put, sA, sB, sC])
  refine tkL (.int .u8 w8) (h := ?_)
  (try simp only [Act.put, sA, sB, sC])
  refine wpList_q (by rfl) (.int .u8 (w8 % 3)) ?he ?_
  case he => (have q := HW8.out; have t := Int.tmod_eq_emod_of_nonneg (b := 3) q.1; go_simp; (first | done | rfl | (rw [t]; done) | (simp only [t, IntKind.wrap, IntKind.bits, IntKind.signed]; simp; omega) | omega))
  (try simp only [Act.put, sA, sB, sC])
  refine wpList_q (by rfl) (.int .i64 (w8 % 3)) ?he ?_
  case he => (have q := HW8.out; go_simp; (first | done | rfl | (simp only [IntKind.wrap, IntKind.bits, IntKind.signed]; simp; omega) | omega))
  (try simp only [Act.put, sA, sB, sC])
  refine tkL (.int .i64 (f8 % 64)) (h := ?_)
  (try simp only [Act.put, sA, sB, sC])
  refine tkL (.int .i64 (w8 % 3)) (h := ?_)
  (try simp only [Act.put, sA, sB, sC])
  refine tkL (.int .i64 (-1)) (h := ?_)
  (try simp only [Act.put, sA, sB, sC])
  refine wpList_nil ?_
  go_upto_region 2 with fail
  refine wp_region_lit ?_
  refine tkL (.int .i64 0) (h := ?_)
  (try simp only [Act.put, sA, sB, sC])
  refine wpList_nil ?_
  go_wp2_with fail
  have HI0 := Lib.hid (serv_first (f := f8 % 64) (w := w8 % 3) HP.out HU.out HD.out (by omega) (by omega) (by omega))
  go_loopw [7, 8, 9, 10] (fun s7 s8 s9 s10 wr => ∃ (i : Nat) (p u d f v j : Int), s7 = .int .i64 f ∧ s8 = .int .i64 v ∧ s9 = .int .i64 j ∧ s10 = .int .i64 (i : Int) ∧ Hid (ServI p u d f v j i ∧ Since w wr ∧ Blk wr w.heap.size 28 #[.int .u64 p, .int .u64 u, .int .u64 d])) (fun s7 s8 s9 s10 wq => ((1000 : Int) - intOf s10).toNat)
  case atStart => exact ⟨0, p, u, d, (f8 % 64), (w8 % 3), (-1), rfl, rfl, rfl, rfl, Lib.hid ⟨HI0.out, HS1.out, HBZ1.out⟩⟩
  case round =>
    obtain ⟨i, p, u, d, f, v, j, rfl, rfl, rfl, rfl, HO⟩ := hrel
    obtain ⟨e0, g0, g1⟩ := HO.out
    clear HO HS1 HBZ1
    have HI := Lib.hid e0
    have HS51 := Lib.hid g0
    have HBZ51 := Lib.hid g1
    clear e0 g0 g1
    have HB := Lib.hid (serv_i HI.out)
    go_upto_region 3 with fail
    refine wp_region_lit ?_
    refine tkL (.int .i64 (i : Int)) (h := ?_)
    (try simp only [Act.put, sA, sB, sC])
    refine wpList_q (by rfl) (.bool true) ?he ?_
    case he => (have q := HB.out.1; go_simp; (first | done | rfl | omega))
    (try simp only [Act.put, sA, sB, sC])
    refine wpList_nil ?_
    obtain ⟨x, hx⟩ : ∃ x, nxW p u d f v j = x := ⟨_, rfl⟩
    have HX := Lib.hid hx; clear hx
    have HBR := Lib.hid HB.out.2.2.2.1; have HBF := Lib.hid (show 0 ≤ f ∧ f ≤ 63 from ⟨HB.out.2.1, HB.out.2.2.1⟩)
    by_cases hcs : nxO p u d f v j = true
    rotate_left
    · have HO := Lib.hid hcs; clear hcs
      go_upto_region 5 with fail
      refine wp_region_lit ?_
      refine wpList_q (by rfl) (.agg #[.int .u64 p, .int .u64 u, .int .u64 d]) ?he ?_
      case he => exact exec_load_row 28 _ _ HBZ51.out rfl rfl Try.underlying28 rfl (by kernel_rfl)
      (try simp only [Act.put, sA, sB, sC])
      refine tkL (.int .i64 f) (h := ?_)
      (try simp only [Act.put, sA, sB, sC])
      refine tkL (.int .i64 v) (h := ?_)
      (try simp only [Act.put, sA, sB, sC])
      refine tkL (.int .i64 j) (h := ?_)
      (try simp only [Act.put, sA, sB, sC])
      refine wpList_wp (by rfl) (fun K hK => ?_)
      (try go_simp)
      refine (nextV p u d f v j x false _ HX.out (Bool.eq_false_iff.2 HO.out) HBR.out.1 HBR.out.2.1 HBR.out.2.2).mono ?_
      rintro e w52 ⟨rfl, hb⟩
      (try go_wp2_with fail)
      refine hK.out _ _ ?_
      clear hK K
      (try simp only [Act.put, sA, sB, sC])
      have HS52 := Lib.hid (Since.trans HS51.out hb)
      have HBZ52 := Lib.hid (keep_blk hb HBZ51.out)
      clear HS51 HBZ51
      clear hb
      refine tkL (.tuple #[.int .i64 x, .bool false]) (h := ?_)
      (try simp only [Act.put, sA, sB, sC])
      refine tkL (.int .i64 x) (h := ?_)
      (try simp only [Act.put, sA, sB, sC])
      refine tkL (.bool false) (h := ?_)
      (try simp only [Act.put, sA, sB, sC])
      refine tkL (.int .i64 x) (h := ?_)
      (try simp only [Act.put, sA, sB, sC])
      refine tkL (.bool false) (h := ?_)
      (try simp only [Act.put, sA, sB, sC])
      refine wpList_nil ?_
      go_upto_region 6 with fail
      refine wp_region_lit ?_
      refine tkL (.bool false) (h := ?_)
      (try simp only [Act.put, sA, sB, sC])
      refine wpList_nil ?_
      by_cases hcs : x = 0
      rotate_left
      · have HX0 := Lib.hid hcs; clear hcs
        go_upto_region 15 with fail
        refine wp_region_lit ?_
        refine tkL (.int .i64 x) (h := ?_)
        (try simp only [Act.put, sA, sB, sC])
        refine wpList_q (by rfl) (.bool false) ?he ?_
        case he => (have q0 := HX0.out; go_simp; (first | done | rfl | omega))
        (try simp only [Act.put, sA, sB, sC])
        refine wpList_nil ?_
        go_upto_region 17 with fail
        refine wp_region_lit ?_
        refine tkL (.int .i64 x) (h := ?_)
        (try simp only [Act.put, sA, sB, sC])
        refine tkL (.int .i64 x) (h := ?_)
        (try simp only [Act.put, sA, sB, sC])
        refine tkL (.int .i64 (-1)) (h := ?_)
        (try simp only [Act.put, sA, sB, sC])
        refine wpList_nil ?_
        by_cases hcs : x = 1
        rotate_left
        · have HX1 := Lib.hid hcs; clear hcs
          have HIN := Lib.hid (serv_move (f' := (f - 1)) HI.out (Bool.eq_false_iff.2 HO.out) HX.out HX0.out (by rw [if_neg HX1.out]))
          have HBN := Lib.hid (serv_i HIN.out)
          go_upto_region 18 with fail
          refine wp_region_lit ?_
          refine tkL (.int .i64 x) (h := ?_)
          (try simp only [Act.put, sA, sB, sC])
          refine wpList_q (by rfl) (.bool false) ?he ?_
          case he => (have q0 := HX1.out; go_simp; (first | done | rfl | omega))
          (try simp only [Act.put, sA, sB, sC])
          refine wpList_nil ?_
          go_upto_region 20 with fail
          refine wp_region_lit ?_
          refine tkL (.int .i64 f) (h := ?_)
          (try simp only [Act.put, sA, sB, sC])
          refine wpList_q (by rfl) (.int .i64 (f - 1)) ?he ?_
          case he => (go_simp; (first | done | (refine wrS _ ?_ ?_ <;> (have q0 := HBF.out; omega)) | (have q0 := HBF.out; omega) | (have q0 := HBF.out; split <;> omega) | (have q0 := HBF.out; intro hh; omega)))
          (try simp only [Act.put, sA, sB, sC])
          refine tkL (.int .i64 (f - 1)) (h := ?_)
          (try simp only [Act.put, sA, sB, sC])
          refine wpList_nil ?_
          go_upto_region 21 with fail
          refine wp_region_lit ?_
          refine tkL (.int .i64 (f - 1)) (h := ?_)
          (try simp only [Act.put, sA, sB, sC])
          refine wpList_q (by rfl) (.bool false) ?he ?_
          case he => (have q := HBN.out.2.1; go_simp; (first | done | rfl | omega))
          (try simp only [Act.put, sA, sB, sC])
          refine tkL (.bool false) (h := ?_)
          (try simp only [Act.put, sA, sB, sC])
          refine tkL (.int .i64 (f - 1)) (h := ?_)
          (try simp only [Act.put, sA, sB, sC])
          refine wpList_q (by rfl) (.bool false) ?he ?_
          case he => (have q := HBN.out.2.2.1; go_simp; (first | done | rfl | omega))
          (try simp only [Act.put, sA, sB, sC])
          refine tkL (.bool false) (h := ?_)
          (try simp only [Act.put, sA, sB, sC])
          refine wpList_nil ?_
          go_upto_region 4 with fail
          refine wp_region_lit ?_
          refine tkL (.int .i64 (i : Int)) (h := ?_)
          (try simp only [Act.put, sA, sB, sC])
          refine wpList_q (by rfl) (.int .i64 ((i : Int) + 1)) ?he ?_
          case he => (have q := HB.out.1; go_simp; (first | done | (refine wrS _ ?_ ?_ <;> omega) | omega))
          (try simp only [Act.put, sA, sB, sC])
          refine tkL (.int .i64 ((i : Int) + 1)) (h := ?_)
          (try simp only [Act.put, sA, sB, sC])
          refine wpList_nil ?_
          go_wp2_with fail
          go_roundw
          case rel => exact ⟨i + 1, p, u, d, (f - 1), x, (-1), rfl, rfl, rfl, by go_num, Lib.hid ⟨HIN.out, HS52.out, HBZ52.out⟩⟩
          case measure => have := HB.out.1; simp [intOf]; omega
        · have HX1 := Lib.hid hcs; clear hcs
          have HIN := Lib.hid (serv_move (f' := (f + 1)) HI.out (Bool.eq_false_iff.2 HO.out) HX.out HX0.out (by rw [if_pos HX1.out]))
          have HBN := Lib.hid (serv_i HIN.out)
          go_upto_region 18 with fail
          refine wp_region_lit ?_
          refine tkL (.int .i64 x) (h := ?_)
          (try simp only [Act.put, sA, sB, sC])
          refine wpList_q (by rfl) (.bool true) ?he ?_
          case he => (have q0 := HX1.out; go_simp; (first | done | rfl | omega))
          (try simp only [Act.put, sA, sB, sC])
          refine wpList_nil ?_
          go_upto_region 19 with fail
          refine wp_region_lit ?_
          refine tkL (.int .i64 f) (h := ?_)
          (try simp only [Act.put, sA, sB, sC])
          refine wpList_q (by rfl) (.int .i64 (f + 1)) ?he ?_
          case he => (go_simp; (first | done | (refine wrS _ ?_ ?_ <;> (have q0 := HBF.out; omega)) | (have q0 := HBF.out; omega) | (have q0 := HBF.out; split <;> omega) | (have q0 := HBF.out; intro hh; omega)))
          (try simp only [Act.put, sA, sB, sC])
          refine tkL (.int .i64 (f + 1)) (h := ?_)
          (try simp only [Act.put, sA, sB, sC])
          refine wpList_nil ?_
          go_upto_region 21 with fail
          refine wp_region_lit ?_
          refine tkL (.int .i64 (f + 1)) (h := ?_)
          (try simp only [Act.put, sA, sB, sC])
          refine wpList_q (by rfl) (.bool false) ?he ?_
          case he => (have q := HBN.out.2.1; go_simp; (first | done | rfl | omega))
          (try simp only [Act.put, sA, sB, sC])
          refine tkL (.bool false) (h := ?_)
          (try simp only [Act.put, sA, sB, sC])
          refine tkL (.int .i64 (f + 1)) (h := ?_)
          (try simp only [Act.put, sA, sB, sC])
          refine wpList_q (by rfl) (.bool false) ?he ?_
          case he => (have q := HBN.out.2.2.1; go_simp; (first | done | rfl | omega))
          (try simp only [Act.put, sA, sB, sC])
          refine tkL (.bool false) (h := ?_)
          (try simp only [Act.put, sA, sB, sC])
          refine wpList_nil ?_
          go_upto_region 4 with fail
          refine wp_region_lit ?_
          refine tkL (.int .i64 (i : Int)) (h := ?_)
          (try simp only [Act.put, sA, sB, sC])
          refine wpList_q (by rfl) (.int .i64 ((i : Int) + 1)) ?he ?_
          case he => (have q := HB.out.1; go_simp; (first | done | (refine wrS _ ?_ ?_ <;> omega) | omega))
          (try simp only [Act.put, sA, sB, sC])
          refine tkL (.int .i64 ((i : Int) + 1)) (h := ?_)
          (try simp only [Act.put, sA, sB, sC])
          refine wpList_nil ?_
          go_wp2_with fail
          go_roundw
          case rel => exact ⟨i + 1, p, u, d, (f + 1), x, (-1), rfl, rfl, rfl, by go_num, Lib.hid ⟨HIN.out, HS52.out, HBZ52.out⟩⟩
          case measure => have := HB.out.1; simp [intOf]; omega
      · have HX0 := Lib.hid hcs; clear hcs
        go_upto_region 15 with fail
        refine wp_region_lit ?_
        refine tkL (.int .i64 x) (h := ?_)
        (try simp only [Act.put, sA, sB, sC])
        refine wpList_q (by rfl) (.bool true) ?he ?_
        case he => (have q0 := HX0.out; go_simp; (first | done | rfl | omega))
        (try simp only [Act.put, sA, sB, sC])
        refine wpList_nil ?_
        have HZ := Lib.hid (sw_none HBR.out.1 HBR.out.2.1 HBR.out.2.2 ⟨HBF.out.1, by have := HBF.out.2; omega⟩ HB.out.2.2.2.2 (Bool.eq_false_iff.2 HO.out) (HX.out.trans HX0.out))
        go_upto_region 16 with fail
        refine wp_region_lit ?_
        refine wpList_wp (by rfl) (fun K hK => ?_)
        (try go_simp)
        refine (ansS _).mono ?_
        rintro e w53 ⟨rfl, hb⟩
        (try go_wp2_with fail)
        refine hK.out _ _ ?_
        clear hK K
        (try simp only [Act.put, sA, sB, sC])
        have HS53 := Lib.hid (Since.trans HS52.out hb)
        have HBZ53 := Lib.hid (keep_blk hb HBZ52.out)
        clear HS52 HBZ52
        clear hb
        refine tkL (.bool true) (h := ?_)
        (try simp only [Act.put, sA, sB, sC])
        refine wpList_q (by rfl) (.agg #[.int .u64 p, .int .u64 u, .int .u64 d]) ?he ?_
        case he => exact exec_load_row 28 _ _ HBZ53.out rfl rfl Try.underlying28 rfl (by kernel_rfl)
        (try simp only [Act.put, sA, sB, sC])
        refine wpList_q (by rfl) (.agg #[.int .u64 0, .int .u64 0, .int .u64 0]) ?he ?_
        case he => kernel_rfl
        (try simp only [Act.put, sA, sB, sC])
        refine wpList_q (by rfl) (.bool true) ?he ?_
        case he => (have q := HZ.out; go_simp; (first | done | (simp [q.1, q.2.1, q.2.2]; done)))
        (try simp only [Act.put, sA, sB, sC])
        refine tkL (.bool true) (h := ?_)
        (try simp only [Act.put, sA, sB, sC])
        refine tkL (.bool true) (h := ?_)
        (try simp only [Act.put, sA, sB, sC])
        refine wpList_nil ?_
        (try go_wp2_with fail)
        go_ret
        exact ⟨rfl, HS53.out⟩
    · have HO := Lib.hid hcs; clear hcs
      go_upto_region 5 with fail
      refine wp_region_lit ?_
      refine wpList_q (by rfl) (.agg #[.int .u64 p, .int .u64 u, .int .u64 d]) ?he ?_
      case he => exact exec_load_row 28 _ _ HBZ51.out rfl rfl Try.underlying28 rfl (by kernel_rfl)
      (try simp only [Act.put, sA, sB, sC])
      refine tkL (.int .i64 f) (h := ?_)
      (try simp only [Act.put, sA, sB, sC])
      refine tkL (.int .i64 v) (h := ?_)
      (try simp only [Act.put, sA, sB, sC])
      refine tkL (.int .i64 j) (h := ?_)
      (try simp only [Act.put, sA, sB, sC])
      refine wpList_wp (by rfl) (fun K hK => ?_)
      (try go_simp)
      refine (nextV p u d f v j x true _ HX.out HO.out HBR.out.1 HBR.out.2.1 HBR.out.2.2).mono ?_
      rintro e w52 ⟨rfl, hb⟩
      (try go_wp2_with fail)
      refine hK.out _ _ ?_
      clear hK K
      (try simp only [Act.put, sA, sB, sC])
      have HS52 := Lib.hid (Since.trans HS51.out hb)
      have HBZ52 := Lib.hid (keep_blk hb HBZ51.out)
      clear HS51 HBZ51
      clear hb
      refine tkL (.tuple #[.int .i64 x, .bool true]) (h := ?_)
      (try simp only [Act.put, sA, sB, sC])
      refine tkL (.int .i64 x) (h := ?_)
      (try simp only [Act.put, sA, sB, sC])
      refine tkL (.bool true) (h := ?_)
      (try simp only [Act.put, sA, sB, sC])
      refine tkL (.int .i64 x) (h := ?_)
      (try simp only [Act.put, sA, sB, sC])
      refine tkL (.bool true) (h := ?_)
      (try simp only [Act.put, sA, sB, sC])
      refine wpList_nil ?_
      go_upto_region 6 with fail
      refine wp_region_lit ?_
      refine tkL (.bool true) (h := ?_)
      (try simp only [Act.put, sA, sB, sC])
      refine wpList_nil ?_
      go_upto_region 7 with fail
      refine wp_region_lit ?_
      refine wpList_q (by rfl) (.agg #[.int .u64 p, .int .u64 u, .int .u64 d]) ?he ?_
      case he => exact exec_load_row 28 _ _ HBZ52.out rfl rfl Try.underlying28 rfl (by kernel_rfl)
      (try simp only [Act.put, sA, sB, sC])
      refine tkL (.int .i64 f) (h := ?_)
      (try simp only [Act.put, sA, sB, sC])
      refine wpList_wp (by rfl) (fun K hK => ?_)
      (try go_simp)
      refine (anyV p u d f true _ (nx_he HO.out) HBR.out.1 HBR.out.2.1 HBR.out.2.2).mono ?_
      rintro e w53 ⟨rfl, hb⟩
      (try go_wp2_with fail)
      refine hK.out _ _ ?_
      clear hK K
      (try simp only [Act.put, sA, sB, sC])
      have HS53 := Lib.hid (Since.trans HS52.out hb)
      have HBZ53 := Lib.hid (keep_blk hb HBZ52.out)
      clear HS52 HBZ52
      clear hb
      refine wpList_q (by rfl) (.bool false) ?he ?_
      case he => (go_simp; (try with_reducible rfl))
      (try simp only [Act.put, sA, sB, sC])
      refine wpList_nil ?_
      go_upto_region 9 with fail
      go_cut [] (fun  wx => Hid (Since w wx ∧ Blk wx w.heap.size 28 #[.int .u64 (clP p f), .int .u64 u, .int .u64 d]))
      case first =>
        have hrK : ∀ W W' : World, Since W W' → (Since w W ∧ HasRow W w.heap.size 28 3) → (Since w W' ∧ HasRow W' w.heap.size 28 3) := fun W W' k ⟨h, h0⟩ => ⟨h.trans k, HasRow.keep k h0⟩
        have hrS : (fun W : World => Since w W ∧ HasRow W w.heap.size 28 3) w53 := ⟨HS53.out, HasRow.of HBZ53.out rfl⟩
        have HRK := Lib.hid hrK
        have HRD := Lib.hid (show (fun W : World => Since w W ∧ HasRow W w.heap.size 28 3) (World.drew w53) from hrK _ _ ((Since.refl w53).drew) hrS)
        clear hrK hrS
        have HPZ := Lib.hid (show Blk (World.drew w53) w.heap.size 28 #[.int .u64 p, .int .u64 u, .int .u64 d] from HBZ53.out)
        refine wp_region_held_drew (S := fun W : World => Since w W ∧ HasRow W w.heap.size 28 3) (by kernel_rfl) HRD.out (fun hHeld => ?_)
        refine tkQ 0 (.pointer (some ⟨w.heap.size, 0, none⟩)) hHeld (h := ?_)
        (try simp only [Act.put, sA, sB, sC])
        refine tkQ 2 (.int .i64 f) hHeld (h := ?_)
        (try simp only [Act.put, sA, sB, sC])
        refine wpAnyH_ready (rs := [1, 3]) (by kernel_rfl) (by simp) ?_
        refine AllReadyH.cons (o := ?o9__1b) ?h9__1b (fun K hK => ?g9__1b) (AllReadyH.cons (o := ?o9__3b) ?h9__3b (fun K hK => ?g9__3b) AllReadyH.nil)
        case h9__1b => (first | (simp only [gA, gB, gC]; done) | (simp only [gA, gB, gC]; exact rfl))
        case h9__3b => (first | (simp only [gA, gB, gC]; done) | (simp only [gA, gB, gC]; exact rfl))
        case g9__1b =>
          rw [if_pos (by rfl)]
          refine wp_q (.int .u64 p) ?e9_b1_1 ?_
          case e9_b1_1 => exact exec_cell 26 _ _ HPZ.out rfl rfl rfl Try.underlying26 rfl
          refine hK.out _ _ hHeld (fun hHeld2 => ?_)
          clear hK K hHeld2
          (try simp only [Act.put, sA, sB, sC])
          refine wpAnyH_ready (rs := [3]) (by kernel_rfl) (by simp) ?_
          refine AllReadyH.cons (o := ?o9_b1_3) ?h9_b1_3 (fun K hK => ?_) AllReadyH.nil
          case h9_b1_3 => (first | (simp only [gA, gB, gC]; done) | (simp only [gA, gB, gC]; exact rfl))
          (try go_simp)
          refine (bitR f _).mono ?_
          rintro e w' ⟨rfl, rfl⟩
          (try go_wp2_with fail)
          refine hK.out _ _ hHeld (fun hHeld2 => ?_)
          clear hK K hHeld2
          (try simp only [Act.put, sA, sB, sC])
          refine tkQ 4 (.int .u64 (clP p f)) hHeld (he := by intro w hSw; (unfold clP; go_simp; (first | done | rfl))) (h := ?_)
          (try simp only [Act.put, sA, sB, sC])
          refine tkQ 5 (.pointer (some ⟨w.heap.size, 0, none⟩)) hHeld (h := ?_)
          (try simp only [Act.put, sA, sB, sC])
          refine wpAnyH_ready (rs := [6]) (by kernel_rfl) (by simp) ?_
          refine AllReadyH.cons (o := ?o9_b1_6) ?h9_b1_6 (fun K hK => ?_) AllReadyH.nil
          case h9_b1_6 => (first | (simp only [gA, gB, gC]; done) | (simp only [gA, gB, gC]; exact rfl))
          rw [if_pos (by rfl)]
          refine wp_st_cell 26 _ _ rfl #[.int .u64 (clP p f), .int .u64 u, .int .u64 d] (.int .u64 (clP p f)) rfl rfl HPZ.out (by show 0 < 3; decide) rfl (by first | rfl | simp [Value.oneCell']) (by kernel_rfl) ?_
          clear HPZ
          intro w54 hw
          have HRZ := Lib.hid (show Blk w54 w.heap.size 28 #[.int .u64 (clP p f), .int .u64 u, .int .u64 d] by obtain ⟨old, Bo, _⟩ := hHeld.2; rw [hw]; exact Blk.row Bo _)
          have hHeld3 : (fun W : World => Since w W ∧ HasRow W w.heap.size 28 3) w54 := ⟨by rw [hw]; exact Since.setRow hHeld.1 (by have := HNE3.out; omega) _, HasRow.of HRZ.out rfl⟩
          refine hK.out _ _ hHeld3 (fun hHeld2 => ?_)
          clear hK K hHeld hHeld3 hw
          have hHeld := hHeld2
          clear hHeld2
          (try simp only [Act.put, sA, sB, sC])
          refine wpAnyH_done (by kernel_rfl) ?_ _
          have HSd9 := Lib.hid hHeld.1
          have HBZd9 := Lib.hid HRZ.out
          clear HRZ
          clear hHeld HRK HRD HS53 HBZ53
          go_wp2_with fail
          go_meet
          case rel => exact Lib.hid ⟨HSd9.out, HBZd9.out⟩
        case g9__3b =>
          (try go_simp)
          refine (bitR f _).mono ?_
          rintro e w' ⟨rfl, rfl⟩
          (try go_wp2_with fail)
          refine hK.out _ _ hHeld (fun hHeld2 => ?_)
          clear hK K hHeld2
          (try simp only [Act.put, sA, sB, sC])
          refine wpAnyH_ready (rs := [1]) (by kernel_rfl) (by simp) ?_
          refine AllReadyH.cons (o := ?o9_b3_1) ?h9_b3_1 (fun K hK => ?_) AllReadyH.nil
          case h9_b3_1 => (first | (simp only [gA, gB, gC]; done) | (simp only [gA, gB, gC]; exact rfl))
          rw [if_pos (by rfl)]
          refine wp_q (.int .u64 p) ?e9_b3_1 ?_
          case e9_b3_1 => exact exec_cell 26 _ _ HPZ.out rfl rfl rfl Try.underlying26 rfl
          refine hK.out _ _ hHeld (fun hHeld2 => ?_)
          clear hK K hHeld2
          (try simp only [Act.put, sA, sB, sC])
          refine tkQ 4 (.int .u64 (clP p f)) hHeld (he := by intro w hSw; (unfold clP; go_simp; (first | done | rfl))) (h := ?_)
          (try simp only [Act.put, sA, sB, sC])
          refine tkQ 5 (.pointer (some ⟨w.heap.size, 0, none⟩)) hHeld (h := ?_)
          (try simp only [Act.put, sA, sB, sC])
          refine wpAnyH_ready (rs := [6]) (by kernel_rfl) (by simp) ?_
          refine AllReadyH.cons (o := ?o9_b3_6) ?h9_b3_6 (fun K hK => ?_) AllReadyH.nil
          case h9_b3_6 => (first | (simp only [gA, gB, gC]; done) | (simp only [gA, gB, gC]; exact rfl))
          rw [if_pos (by rfl)]
          refine wp_st_cell 26 _ _ rfl #[.int .u64 (clP p f), .int .u64 u, .int .u64 d] (.int .u64 (clP p f)) rfl rfl HPZ.out (by show 0 < 3; decide) rfl (by first | rfl | simp [Value.oneCell']) (by kernel_rfl) ?_
          clear HPZ
          intro w54 hw
          have HRZ := Lib.hid (show Blk w54 w.heap.size 28 #[.int .u64 (clP p f), .int .u64 u, .int .u64 d] by obtain ⟨old, Bo, _⟩ := hHeld.2; rw [hw]; exact Blk.row Bo _)
          have hHeld3 : (fun W : World => Since w W ∧ HasRow W w.heap.size 28 3) w54 := ⟨by rw [hw]; exact Since.setRow hHeld.1 (by have := HNE3.out; omega) _, HasRow.of HRZ.out rfl⟩
          refine hK.out _ _ hHeld3 (fun hHeld2 => ?_)
          clear hK K hHeld hHeld3 hw
          have hHeld := hHeld2
          clear hHeld2
          (try simp only [Act.put, sA, sB, sC])
          refine wpAnyH_done (by kernel_rfl) ?_ _
          have HSd9v2 := Lib.hid hHeld.1
          have HBZd9v2 := Lib.hid HRZ.out
          clear HRZ
          clear hHeld HRK HRD HS53 HBZ53
          go_wp2_with fail
          go_meet
          case rel => exact Lib.hid ⟨HSd9v2.out, HBZd9v2.out⟩
      case rest =>
        clear HS53 HBZ53
        obtain ⟨g0, g1⟩ := hcut.out
        clear hcut
        have HS103 := Lib.hid g0
        have HBZ103 := Lib.hid g1
        clear g0 g1
        by_cases hcs : x = 1
        rotate_left
        · have HX1 := Lib.hid hcs; clear hcs
          go_upto_region 10 with fail
          refine wp_region_lit ?_
          refine tkL (.int .i64 x) (h := ?_)
          (try simp only [Act.put, sA, sB, sC])
          refine wpList_q (by rfl) (.bool false) ?he ?_
          case he => (have q0 := HX1.out; go_simp; (first | done | rfl | omega))
          (try simp only [Act.put, sA, sB, sC])
          refine wpList_nil ?_
          have HEU := Lib.hid (show clU u f x = u from if_neg HX1.out)
          by_cases hcs : x = 2
          rotate_left
          · have HX2 := Lib.hid hcs; clear hcs
            go_upto_region 12 with fail
            refine wp_region_lit ?_
            refine tkL (.int .i64 x) (h := ?_)
            (try simp only [Act.put, sA, sB, sC])
            refine wpList_q (by rfl) (.bool false) ?he ?_
            case he => (have q0 := HX2.out; go_simp; (first | done | rfl | omega))
            (try simp only [Act.put, sA, sB, sC])
            refine wpList_nil ?_
            have HED := Lib.hid (show clD d f x = d from if_neg HX2.out)
            go_upto_region 14 with fail
            refine wp_region_lit ?_
            refine tkL (.int .i64 x) (h := ?_)
            (try simp only [Act.put, sA, sB, sC])
            refine tkL (.int .i64 f) (h := ?_)
            (try simp only [Act.put, sA, sB, sC])
            refine tkL (.int .i64 x) (h := ?_)
            (try simp only [Act.put, sA, sB, sC])
            refine tkL (.int .i64 f) (h := ?_)
            (try simp only [Act.put, sA, sB, sC])
            refine wpList_nil ?_
            have HBSq := Lib.hid (show Blk wc w.heap.size 28 #[.int .u64 (clP p f), .int .u64 (clU u f x), .int .u64 (clD d f x)] by rw [HEU.out, HED.out]; exact HBZ103.out)
            go_upto_region 4 with fail
            refine wp_region_lit ?_
            refine tkL (.int .i64 (i : Int)) (h := ?_)
            (try simp only [Act.put, sA, sB, sC])
            refine wpList_q (by rfl) (.int .i64 ((i : Int) + 1)) ?he ?_
            case he => (have q := HB.out.1; go_simp; (first | done | (refine wrS _ ?_ ?_ <;> omega) | omega))
            (try simp only [Act.put, sA, sB, sC])
            refine tkL (.int .i64 ((i : Int) + 1)) (h := ?_)
            (try simp only [Act.put, sA, sB, sC])
            refine wpList_nil ?_
            go_wp2_with fail
            go_roundw
            case rel => exact ⟨i + 1, clP p f, clU u f x, clD d f x, f, x, f, rfl, rfl, rfl, by go_num, Lib.hid ⟨serv_open HI.out HO.out HX.out, HS103.out, HBSq.out⟩⟩
            case measure => have := HB.out.1; simp [intOf]; omega
          · have HX2 := Lib.hid hcs; clear hcs
            go_upto_region 12 with fail
            refine wp_region_lit ?_
            refine tkL (.int .i64 x) (h := ?_)
            (try simp only [Act.put, sA, sB, sC])
            refine wpList_q (by rfl) (.bool true) ?he ?_
            case he => (have q0 := HX2.out; go_simp; (first | done | rfl | omega))
            (try simp only [Act.put, sA, sB, sC])
            refine wpList_nil ?_
            go_upto_region 13 with fail
            go_cut [] (fun  wx => Hid (Since w wx ∧ Blk wx w.heap.size 28 #[.int .u64 (clP p f), .int .u64 u, .int .u64 (clD d f x)]))
            case first =>
              have hrK : ∀ W W' : World, Since W W' → (Since w W ∧ HasRow W w.heap.size 28 3) → (Since w W' ∧ HasRow W' w.heap.size 28 3) := fun W W' k ⟨h, h0⟩ => ⟨h.trans k, HasRow.keep k h0⟩
              have hrS : (fun W : World => Since w W ∧ HasRow W w.heap.size 28 3) wc := ⟨HS103.out, HasRow.of HBZ103.out rfl⟩
              have HRK := Lib.hid hrK
              have HRD := Lib.hid (show (fun W : World => Since w W ∧ HasRow W w.heap.size 28 3) (World.drew wc) from hrK _ _ ((Since.refl wc).drew) hrS)
              clear hrK hrS
              have HPZ := Lib.hid (show Blk (World.drew wc) w.heap.size 28 #[.int .u64 (clP p f), .int .u64 u, .int .u64 d] from HBZ103.out)
              refine wp_region_held_drew (S := fun W : World => Since w W ∧ HasRow W w.heap.size 28 3) (by kernel_rfl) HRD.out (fun hHeld => ?_)
              refine tkQ 0 (.pointer (some ⟨w.heap.size, 2, none⟩)) hHeld (h := ?_)
              (try simp only [Act.put, sA, sB, sC])
              refine tkQ 2 (.int .i64 f) hHeld (h := ?_)
              (try simp only [Act.put, sA, sB, sC])
              refine wpAnyH_ready (rs := [1, 3]) (by kernel_rfl) (by simp) ?_
              refine AllReadyH.cons (o := ?o13__1b) ?h13__1b (fun K hK => ?g13__1b) (AllReadyH.cons (o := ?o13__3b) ?h13__3b (fun K hK => ?g13__3b) AllReadyH.nil)
              case h13__1b => (first | (simp only [gA, gB, gC]; done) | (simp only [gA, gB, gC]; exact rfl))
              case h13__3b => (first | (simp only [gA, gB, gC]; done) | (simp only [gA, gB, gC]; exact rfl))
              case g13__1b =>
                rw [if_pos (by rfl)]
                refine wp_q (.int .u64 d) ?e13_b1_1 ?_
                case e13_b1_1 => exact exec_cell 26 _ _ HPZ.out rfl rfl rfl Try.underlying26 rfl
                refine hK.out _ _ hHeld (fun hHeld2 => ?_)
                clear hK K hHeld2
                (try simp only [Act.put, sA, sB, sC])
                refine wpAnyH_ready (rs := [3]) (by kernel_rfl) (by simp) ?_
                refine AllReadyH.cons (o := ?o13_b1_3) ?h13_b1_3 (fun K hK => ?_) AllReadyH.nil
                case h13_b1_3 => (first | (simp only [gA, gB, gC]; done) | (simp only [gA, gB, gC]; exact rfl))
                (try go_simp)
                refine (bitR f _).mono ?_
                rintro e w' ⟨rfl, rfl⟩
                (try go_wp2_with fail)
                refine hK.out _ _ hHeld (fun hHeld2 => ?_)
                clear hK K hHeld2
                (try simp only [Act.put, sA, sB, sC])
                refine tkQ 4 (.int .u64 (clD d f x)) hHeld (he := by intro w hSw; (have q := HX2.out; unfold clD; rw [if_pos q]; go_simp; (first | done | rfl))) (h := ?_)
                (try simp only [Act.put, sA, sB, sC])
                refine tkQ 5 (.pointer (some ⟨w.heap.size, 2, none⟩)) hHeld (h := ?_)
                (try simp only [Act.put, sA, sB, sC])
                refine wpAnyH_ready (rs := [6]) (by kernel_rfl) (by simp) ?_
                refine AllReadyH.cons (o := ?o13_b1_6) ?h13_b1_6 (fun K hK => ?_) AllReadyH.nil
                case h13_b1_6 => (first | (simp only [gA, gB, gC]; done) | (simp only [gA, gB, gC]; exact rfl))
                rw [if_pos (by rfl)]
                refine wp_st_cell 26 _ _ rfl #[.int .u64 (clP p f), .int .u64 u, .int .u64 (clD d f x)] (.int .u64 (clD d f x)) rfl rfl HPZ.out (by show 2 < 3; decide) rfl (by first | rfl | simp [Value.oneCell']) (by kernel_rfl) ?_
                clear HPZ
                intro w104 hw
                have HRZ := Lib.hid (show Blk w104 w.heap.size 28 #[.int .u64 (clP p f), .int .u64 u, .int .u64 (clD d f x)] by obtain ⟨old, Bo, _⟩ := hHeld.2; rw [hw]; exact Blk.row Bo _)
                have hHeld3 : (fun W : World => Since w W ∧ HasRow W w.heap.size 28 3) w104 := ⟨by rw [hw]; exact Since.setRow hHeld.1 (by have := HNE3.out; omega) _, HasRow.of HRZ.out rfl⟩
                refine hK.out _ _ hHeld3 (fun hHeld2 => ?_)
                clear hK K hHeld hHeld3 hw
                have hHeld := hHeld2
                clear hHeld2
                (try simp only [Act.put, sA, sB, sC])
                refine wpAnyH_done (by kernel_rfl) ?_ _
                have HSd13 := Lib.hid hHeld.1
                have HBZd13 := Lib.hid HRZ.out
                clear HRZ
                clear hHeld HRK HRD HS103 HBZ103
                go_wp2_with fail
                go_meet
                case rel => exact Lib.hid ⟨HSd13.out, HBZd13.out⟩
              case g13__3b =>
                (try go_simp)
                refine (bitR f _).mono ?_
                rintro e w' ⟨rfl, rfl⟩
                (try go_wp2_with fail)
                refine hK.out _ _ hHeld (fun hHeld2 => ?_)
                clear hK K hHeld2
                (try simp only [Act.put, sA, sB, sC])
                refine wpAnyH_ready (rs := [1]) (by kernel_rfl) (by simp) ?_
                refine AllReadyH.cons (o := ?o13_b3_1) ?h13_b3_1 (fun K hK => ?_) AllReadyH.nil
                case h13_b3_1 => (first | (simp only [gA, gB, gC]; done) | (simp only [gA, gB, gC]; exact rfl))
                rw [if_pos (by rfl)]
                refine wp_q (.int .u64 d) ?e13_b3_1 ?_
                case e13_b3_1 => exact exec_cell 26 _ _ HPZ.out rfl rfl rfl Try.underlying26 rfl
                refine hK.out _ _ hHeld (fun hHeld2 => ?_)
                clear hK K hHeld2
                (try simp only [Act.put, sA, sB, sC])
                refine tkQ 4 (.int .u64 (clD d f x)) hHeld (he := by intro w hSw; (have q := HX2.out; unfold clD; rw [if_pos q]; go_simp; (first | done | rfl))) (h := ?_)
                (try simp only [Act.put, sA, sB, sC])
                refine tkQ 5 (.pointer (some ⟨w.heap.size, 2, none⟩)) hHeld (h := ?_)
                (try simp only [Act.put, sA, sB, sC])
                refine wpAnyH_ready (rs := [6]) (by kernel_rfl) (by simp) ?_
                refine AllReadyH.cons (o := ?o13_b3_6) ?h13_b3_6 (fun K hK => ?_) AllReadyH.nil
                case h13_b3_6 => (first | (simp only [gA, gB, gC]; done) | (simp only [gA, gB, gC]; exact rfl))
                rw [if_pos (by rfl)]
                refine wp_st_cell 26 _ _ rfl #[.int .u64 (clP p f), .int .u64 u, .int .u64 (clD d f x)] (.int .u64 (clD d f x)) rfl rfl HPZ.out (by show 2 < 3; decide) rfl (by first | rfl | simp [Value.oneCell']) (by kernel_rfl) ?_
                clear HPZ
                intro w104 hw
                have HRZ := Lib.hid (show Blk w104 w.heap.size 28 #[.int .u64 (clP p f), .int .u64 u, .int .u64 (clD d f x)] by obtain ⟨old, Bo, _⟩ := hHeld.2; rw [hw]; exact Blk.row Bo _)
                have hHeld3 : (fun W : World => Since w W ∧ HasRow W w.heap.size 28 3) w104 := ⟨by rw [hw]; exact Since.setRow hHeld.1 (by have := HNE3.out; omega) _, HasRow.of HRZ.out rfl⟩
                refine hK.out _ _ hHeld3 (fun hHeld2 => ?_)
                clear hK K hHeld hHeld3 hw
                have hHeld := hHeld2
                clear hHeld2
                (try simp only [Act.put, sA, sB, sC])
                refine wpAnyH_done (by kernel_rfl) ?_ _
                have HSd13v2 := Lib.hid hHeld.1
                have HBZd13v2 := Lib.hid HRZ.out
                clear HRZ
                clear hHeld HRK HRD HS103 HBZ103
                go_wp2_with fail
                go_meet
                case rel => exact Lib.hid ⟨HSd13v2.out, HBZd13v2.out⟩
            case rest =>
              clear HS103 HBZ103
              obtain ⟨g0, g1⟩ := hcut.out
              clear hcut
              have HS153 := Lib.hid g0
              have HBZ153 := Lib.hid g1
              clear g0 g1
              go_upto_region 14 with fail
              refine wp_region_lit ?_
              refine tkL (.int .i64 x) (h := ?_)
              (try simp only [Act.put, sA, sB, sC])
              refine tkL (.int .i64 f) (h := ?_)
              (try simp only [Act.put, sA, sB, sC])
              refine tkL (.int .i64 x) (h := ?_)
              (try simp only [Act.put, sA, sB, sC])
              refine tkL (.int .i64 f) (h := ?_)
              (try simp only [Act.put, sA, sB, sC])
              refine wpList_nil ?_
              have HBSq := Lib.hid (show Blk wc w.heap.size 28 #[.int .u64 (clP p f), .int .u64 (clU u f x), .int .u64 (clD d f x)] by rw [HEU.out]; exact HBZ153.out)
              go_upto_region 4 with fail
              refine wp_region_lit ?_
              refine tkL (.int .i64 (i : Int)) (h := ?_)
              (try simp only [Act.put, sA, sB, sC])
              refine wpList_q (by rfl) (.int .i64 ((i : Int) + 1)) ?he ?_
              case he => (have q := HB.out.1; go_simp; (first | done | (refine wrS _ ?_ ?_ <;> omega) | omega))
              (try simp only [Act.put, sA, sB, sC])
              refine tkL (.int .i64 ((i : Int) + 1)) (h := ?_)
              (try simp only [Act.put, sA, sB, sC])
              refine wpList_nil ?_
              go_wp2_with fail
              go_roundw
              case rel => exact ⟨i + 1, clP p f, clU u f x, clD d f x, f, x, f, rfl, rfl, rfl, by go_num, Lib.hid ⟨serv_open HI.out HO.out HX.out, HS153.out, HBSq.out⟩⟩
              case measure => have := HB.out.1; simp [intOf]; omega
        · have HX1 := Lib.hid hcs; clear hcs
          go_upto_region 10 with fail
          refine wp_region_lit ?_
          refine tkL (.int .i64 x) (h := ?_)
          (try simp only [Act.put, sA, sB, sC])
          refine wpList_q (by rfl) (.bool true) ?he ?_
          case he => (have q0 := HX1.out; go_simp; (first | done | rfl | omega))
          (try simp only [Act.put, sA, sB, sC])
          refine wpList_nil ?_
          go_upto_region 11 with fail
          go_cut [] (fun  wx => Hid (Since w wx ∧ Blk wx w.heap.size 28 #[.int .u64 (clP p f), .int .u64 (clU u f x), .int .u64 d]))
          case first =>
            have hrK : ∀ W W' : World, Since W W' → (Since w W ∧ HasRow W w.heap.size 28 3) → (Since w W' ∧ HasRow W' w.heap.size 28 3) := fun W W' k ⟨h, h0⟩ => ⟨h.trans k, HasRow.keep k h0⟩
            have hrS : (fun W : World => Since w W ∧ HasRow W w.heap.size 28 3) wc := ⟨HS103.out, HasRow.of HBZ103.out rfl⟩
            have HRK := Lib.hid hrK
            have HRD := Lib.hid (show (fun W : World => Since w W ∧ HasRow W w.heap.size 28 3) (World.drew wc) from hrK _ _ ((Since.refl wc).drew) hrS)
            clear hrK hrS
            have HPZ := Lib.hid (show Blk (World.drew wc) w.heap.size 28 #[.int .u64 (clP p f), .int .u64 u, .int .u64 d] from HBZ103.out)
            refine wp_region_held_drew (S := fun W : World => Since w W ∧ HasRow W w.heap.size 28 3) (by kernel_rfl) HRD.out (fun hHeld => ?_)
            refine tkQ 0 (.pointer (some ⟨w.heap.size, 1, none⟩)) hHeld (h := ?_)
            (try simp only [Act.put, sA, sB, sC])
            refine tkQ 2 (.int .i64 f) hHeld (h := ?_)
            (try simp only [Act.put, sA, sB, sC])
            refine wpAnyH_ready (rs := [1, 3]) (by kernel_rfl) (by simp) ?_
            refine AllReadyH.cons (o := ?o11__1b) ?h11__1b (fun K hK => ?g11__1b) (AllReadyH.cons (o := ?o11__3b) ?h11__3b (fun K hK => ?g11__3b) AllReadyH.nil)
            case h11__1b => (first | (simp only [gA, gB, gC]; done) | (simp only [gA, gB, gC]; exact rfl))
            case h11__3b => (first | (simp only [gA, gB, gC]; done) | (simp only [gA, gB, gC]; exact rfl))
            case g11__1b =>
              rw [if_pos (by rfl)]
              refine wp_q (.int .u64 u) ?e11_b1_1 ?_
              case e11_b1_1 => exact exec_cell 26 _ _ HPZ.out rfl rfl rfl Try.underlying26 rfl
              refine hK.out _ _ hHeld (fun hHeld2 => ?_)
              clear hK K hHeld2
              (try simp only [Act.put, sA, sB, sC])
              refine wpAnyH_ready (rs := [3]) (by kernel_rfl) (by simp) ?_
              refine AllReadyH.cons (o := ?o11_b1_3) ?h11_b1_3 (fun K hK => ?_) AllReadyH.nil
              case h11_b1_3 => (first | (simp only [gA, gB, gC]; done) | (simp only [gA, gB, gC]; exact rfl))
              (try go_simp)
              refine (bitR f _).mono ?_
              rintro e w' ⟨rfl, rfl⟩
              (try go_wp2_with fail)
              refine hK.out _ _ hHeld (fun hHeld2 => ?_)
              clear hK K hHeld2
              (try simp only [Act.put, sA, sB, sC])
              refine tkQ 4 (.int .u64 (clU u f x)) hHeld (he := by intro w hSw; (have q := HX1.out; unfold clU; rw [if_pos q]; go_simp; (first | done | rfl))) (h := ?_)
              (try simp only [Act.put, sA, sB, sC])
              refine tkQ 5 (.pointer (some ⟨w.heap.size, 1, none⟩)) hHeld (h := ?_)
              (try simp only [Act.put, sA, sB, sC])
              refine wpAnyH_ready (rs := [6]) (by kernel_rfl) (by simp) ?_
              refine AllReadyH.cons (o := ?o11_b1_6) ?h11_b1_6 (fun K hK => ?_) AllReadyH.nil
              case h11_b1_6 => (first | (simp only [gA, gB, gC]; done) | (simp only [gA, gB, gC]; exact rfl))
              rw [if_pos (by rfl)]
              refine wp_st_cell 26 _ _ rfl #[.int .u64 (clP p f), .int .u64 (clU u f x), .int .u64 d] (.int .u64 (clU u f x)) rfl rfl HPZ.out (by show 1 < 3; decide) rfl (by first | rfl | simp [Value.oneCell']) (by kernel_rfl) ?_
              clear HPZ
              intro w104 hw
              have HRZ := Lib.hid (show Blk w104 w.heap.size 28 #[.int .u64 (clP p f), .int .u64 (clU u f x), .int .u64 d] by obtain ⟨old, Bo, _⟩ := hHeld.2; rw [hw]; exact Blk.row Bo _)
              have hHeld3 : (fun W : World => Since w W ∧ HasRow W w.heap.size 28 3) w104 := ⟨by rw [hw]; exact Since.setRow hHeld.1 (by have := HNE3.out; omega) _, HasRow.of HRZ.out rfl⟩
              refine hK.out _ _ hHeld3 (fun hHeld2 => ?_)
              clear hK K hHeld hHeld3 hw
              have hHeld := hHeld2
              clear hHeld2
              (try simp only [Act.put, sA, sB, sC])
              refine wpAnyH_done (by kernel_rfl) ?_ _
              have HSd11 := Lib.hid hHeld.1
              have HBZd11 := Lib.hid HRZ.out
              clear HRZ
              clear hHeld HRK HRD HS103 HBZ103
              go_wp2_with fail
              go_meet
              case rel => exact Lib.hid ⟨HSd11.out, HBZd11.out⟩
            case g11__3b =>
              (try go_simp)
              refine (bitR f _).mono ?_
              rintro e w' ⟨rfl, rfl⟩
              (try go_wp2_with fail)
              refine hK.out _ _ hHeld (fun hHeld2 => ?_)
              clear hK K hHeld2
              (try simp only [Act.put, sA, sB, sC])
              refine wpAnyH_ready (rs := [1]) (by kernel_rfl) (by simp) ?_
              refine AllReadyH.cons (o := ?o11_b3_1) ?h11_b3_1 (fun K hK => ?_) AllReadyH.nil
              case h11_b3_1 => (first | (simp only [gA, gB, gC]; done) | (simp only [gA, gB, gC]; exact rfl))
              rw [if_pos (by rfl)]
              refine wp_q (.int .u64 u) ?e11_b3_1 ?_
              case e11_b3_1 => exact exec_cell 26 _ _ HPZ.out rfl rfl rfl Try.underlying26 rfl
              refine hK.out _ _ hHeld (fun hHeld2 => ?_)
              clear hK K hHeld2
              (try simp only [Act.put, sA, sB, sC])
              refine tkQ 4 (.int .u64 (clU u f x)) hHeld (he := by intro w hSw; (have q := HX1.out; unfold clU; rw [if_pos q]; go_simp; (first | done | rfl))) (h := ?_)
              (try simp only [Act.put, sA, sB, sC])
              refine tkQ 5 (.pointer (some ⟨w.heap.size, 1, none⟩)) hHeld (h := ?_)
              (try simp only [Act.put, sA, sB, sC])
              refine wpAnyH_ready (rs := [6]) (by kernel_rfl) (by simp) ?_
              refine AllReadyH.cons (o := ?o11_b3_6) ?h11_b3_6 (fun K hK => ?_) AllReadyH.nil
              case h11_b3_6 => (first | (simp only [gA, gB, gC]; done) | (simp only [gA, gB, gC]; exact rfl))
              rw [if_pos (by rfl)]
              refine wp_st_cell 26 _ _ rfl #[.int .u64 (clP p f), .int .u64 (clU u f x), .int .u64 d] (.int .u64 (clU u f x)) rfl rfl HPZ.out (by show 1 < 3; decide) rfl (by first | rfl | simp [Value.oneCell']) (by kernel_rfl) ?_
              clear HPZ
              intro w104 hw
              have HRZ := Lib.hid (show Blk w104 w.heap.size 28 #[.int .u64 (clP p f), .int .u64 (clU u f x), .int .u64 d] by obtain ⟨old, Bo, _⟩ := hHeld.2; rw [hw]; exact Blk.row Bo _)
              have hHeld3 : (fun W : World => Since w W ∧ HasRow W w.heap.size 28 3) w104 := ⟨by rw [hw]; exact Since.setRow hHeld.1 (by have := HNE3.out; omega) _, HasRow.of HRZ.out rfl⟩
              refine hK.out _ _ hHeld3 (fun hHeld2 => ?_)
              clear hK K hHeld hHeld3 hw
              have hHeld := hHeld2
              clear hHeld2
              (try simp only [Act.put, sA, sB, sC])
              refine wpAnyH_done (by kernel_rfl) ?_ _
              have HSd11v2 := Lib.hid hHeld.1
              have HBZd11v2 := Lib.hid HRZ.out
              clear HRZ
              clear hHeld HRK HRD HS103 HBZ103
              go_wp2_with fail
              go_meet
              case rel => exact Lib.hid ⟨HSd11v2.out, HBZd11v2.out⟩
          case rest =>
            clear HS103 HBZ103
            obtain ⟨g0, g1⟩ := hcut.out
            clear hcut
            have HS153 := Lib.hid g0
            have HBZ153 := Lib.hid g1
            clear g0 g1
            by_cases hcs : x = 2
            rotate_left
            · have HX2 := Lib.hid hcs; clear hcs
              go_upto_region 12 with fail
              refine wp_region_lit ?_
              refine tkL (.int .i64 x) (h := ?_)
              (try simp only [Act.put, sA, sB, sC])
              refine wpList_q (by rfl) (.bool false) ?he ?_
              case he => (have q0 := HX2.out; go_simp; (first | done | rfl | omega))
              (try simp only [Act.put, sA, sB, sC])
              refine wpList_nil ?_
              have HED := Lib.hid (show clD d f x = d from if_neg HX2.out)
              go_upto_region 14 with fail
              refine wp_region_lit ?_
              refine tkL (.int .i64 x) (h := ?_)
              (try simp only [Act.put, sA, sB, sC])
              refine tkL (.int .i64 f) (h := ?_)
              (try simp only [Act.put, sA, sB, sC])
              refine tkL (.int .i64 x) (h := ?_)
              (try simp only [Act.put, sA, sB, sC])
              refine tkL (.int .i64 f) (h := ?_)
              (try simp only [Act.put, sA, sB, sC])
              refine wpList_nil ?_
              have HBSq := Lib.hid (show Blk wc w.heap.size 28 #[.int .u64 (clP p f), .int .u64 (clU u f x), .int .u64 (clD d f x)] by rw [HED.out]; exact HBZ153.out)
              go_upto_region 4 with fail
              refine wp_region_lit ?_
              refine tkL (.int .i64 (i : Int)) (h := ?_)
              (try simp only [Act.put, sA, sB, sC])
              refine wpList_q (by rfl) (.int .i64 ((i : Int) + 1)) ?he ?_
              case he => (have q := HB.out.1; go_simp; (first | done | (refine wrS _ ?_ ?_ <;> omega) | omega))
              (try simp only [Act.put, sA, sB, sC])
              refine tkL (.int .i64 ((i : Int) + 1)) (h := ?_)
              (try simp only [Act.put, sA, sB, sC])
              refine wpList_nil ?_
              go_wp2_with fail
              go_roundw
              case rel => exact ⟨i + 1, clP p f, clU u f x, clD d f x, f, x, f, rfl, rfl, rfl, by go_num, Lib.hid ⟨serv_open HI.out HO.out HX.out, HS153.out, HBSq.out⟩⟩
              case measure => have := HB.out.1; simp [intOf]; omega
            · have HX2 := Lib.hid hcs; clear hcs
              go_upto_region 12 with fail
              refine wp_region_lit ?_
              refine tkL (.int .i64 x) (h := ?_)
              (try simp only [Act.put, sA, sB, sC])
              refine wpList_q (by rfl) (.bool true) ?he ?_
              case he => (have q0 := HX2.out; go_simp; (first | done | rfl | omega))
              (try simp only [Act.put, sA, sB, sC])
              refine wpList_nil ?_
              go_upto_region 13 with fail
              go_cut [] (fun  wx => Hid (Since w wx ∧ Blk wx w.heap.size 28 #[.int .u64 (clP p f), .int .u64 (clU u f x), .int .u64 (clD d f x)]))
              case first =>
                have hrK : ∀ W W' : World, Since W W' → (Since w W ∧ HasRow W w.heap.size 28 3) → (Since w W' ∧ HasRow W' w.heap.size 28 3) := fun W W' k ⟨h, h0⟩ => ⟨h.trans k, HasRow.keep k h0⟩
                have hrS : (fun W : World => Since w W ∧ HasRow W w.heap.size 28 3) wc := ⟨HS153.out, HasRow.of HBZ153.out rfl⟩
                have HRK := Lib.hid hrK
                have HRD := Lib.hid (show (fun W : World => Since w W ∧ HasRow W w.heap.size 28 3) (World.drew wc) from hrK _ _ ((Since.refl wc).drew) hrS)
                clear hrK hrS
                have HPZ := Lib.hid (show Blk (World.drew wc) w.heap.size 28 #[.int .u64 (clP p f), .int .u64 (clU u f x), .int .u64 d] from HBZ153.out)
                refine wp_region_held_drew (S := fun W : World => Since w W ∧ HasRow W w.heap.size 28 3) (by kernel_rfl) HRD.out (fun hHeld => ?_)
                refine tkQ 0 (.pointer (some ⟨w.heap.size, 2, none⟩)) hHeld (h := ?_)
                (try simp only [Act.put, sA, sB, sC])
                refine tkQ 2 (.int .i64 f) hHeld (h := ?_)
                (try simp only [Act.put, sA, sB, sC])
                refine wpAnyH_ready (rs := [1, 3]) (by kernel_rfl) (by simp) ?_
                refine AllReadyH.cons (o := ?o13__1b) ?h13__1b (fun K hK => ?g13__1b) (AllReadyH.cons (o := ?o13__3b) ?h13__3b (fun K hK => ?g13__3b) AllReadyH.nil)
                case h13__1b => (first | (simp only [gA, gB, gC]; done) | (simp only [gA, gB, gC]; exact rfl))
                case h13__3b => (first | (simp only [gA, gB, gC]; done) | (simp only [gA, gB, gC]; exact rfl))
                case g13__1b =>
                  rw [if_pos (by rfl)]
                  refine wp_q (.int .u64 d) ?e13_b1_1 ?_
                  case e13_b1_1 => exact exec_cell 26 _ _ HPZ.out rfl rfl rfl Try.underlying26 rfl
                  refine hK.out _ _ hHeld (fun hHeld2 => ?_)
                  clear hK K hHeld2
                  (try simp only [Act.put, sA, sB, sC])
                  refine wpAnyH_ready (rs := [3]) (by kernel_rfl) (by simp) ?_
                  refine AllReadyH.cons (o := ?o13_b1_3) ?h13_b1_3 (fun K hK => ?_) AllReadyH.nil
                  case h13_b1_3 => (first | (simp only [gA, gB, gC]; done) | (simp only [gA, gB, gC]; exact rfl))
                  (try go_simp)
                  refine (bitR f _).mono ?_
                  rintro e w' ⟨rfl, rfl⟩
                  (try go_wp2_with fail)
                  refine hK.out _ _ hHeld (fun hHeld2 => ?_)
                  clear hK K hHeld2
                  (try simp only [Act.put, sA, sB, sC])
                  refine tkQ 4 (.int .u64 (clD d f x)) hHeld (he := by intro w hSw; (have q := HX2.out; unfold clD; rw [if_pos q]; go_simp; (first | done | rfl))) (h := ?_)
                  (try simp only [Act.put, sA, sB, sC])
                  refine tkQ 5 (.pointer (some ⟨w.heap.size, 2, none⟩)) hHeld (h := ?_)
                  (try simp only [Act.put, sA, sB, sC])
                  refine wpAnyH_ready (rs := [6]) (by kernel_rfl) (by simp) ?_
                  refine AllReadyH.cons (o := ?o13_b1_6) ?h13_b1_6 (fun K hK => ?_) AllReadyH.nil
                  case h13_b1_6 => (first | (simp only [gA, gB, gC]; done) | (simp only [gA, gB, gC]; exact rfl))
                  rw [if_pos (by rfl)]
                  refine wp_st_cell 26 _ _ rfl #[.int .u64 (clP p f), .int .u64 (clU u f x), .int .u64 (clD d f x)] (.int .u64 (clD d f x)) rfl rfl HPZ.out (by show 2 < 3; decide) rfl (by first | rfl | simp [Value.oneCell']) (by kernel_rfl) ?_
                  clear HPZ
                  intro w154 hw
                  have HRZ := Lib.hid (show Blk w154 w.heap.size 28 #[.int .u64 (clP p f), .int .u64 (clU u f x), .int .u64 (clD d f x)] by obtain ⟨old, Bo, _⟩ := hHeld.2; rw [hw]; exact Blk.row Bo _)
                  have hHeld3 : (fun W : World => Since w W ∧ HasRow W w.heap.size 28 3) w154 := ⟨by rw [hw]; exact Since.setRow hHeld.1 (by have := HNE3.out; omega) _, HasRow.of HRZ.out rfl⟩
                  refine hK.out _ _ hHeld3 (fun hHeld2 => ?_)
                  clear hK K hHeld hHeld3 hw
                  have hHeld := hHeld2
                  clear hHeld2
                  (try simp only [Act.put, sA, sB, sC])
                  refine wpAnyH_done (by kernel_rfl) ?_ _
                  have HSd13 := Lib.hid hHeld.1
                  have HBZd13 := Lib.hid HRZ.out
                  clear HRZ
                  clear hHeld HRK HRD HS153 HBZ153
                  go_wp2_with fail
                  go_meet
                  case rel => exact Lib.hid ⟨HSd13.out, HBZd13.out⟩
                case g13__3b =>
                  (try go_simp)
                  refine (bitR f _).mono ?_
                  rintro e w' ⟨rfl, rfl⟩
                  (try go_wp2_with fail)
                  refine hK.out _ _ hHeld (fun hHeld2 => ?_)
                  clear hK K hHeld2
                  (try simp only [Act.put, sA, sB, sC])
                  refine wpAnyH_ready (rs := [1]) (by kernel_rfl) (by simp) ?_
                  refine AllReadyH.cons (o := ?o13_b3_1) ?h13_b3_1 (fun K hK => ?_) AllReadyH.nil
                  case h13_b3_1 => (first | (simp only [gA, gB, gC]; done) | (simp only [gA, gB, gC]; exact rfl))
                  rw [if_pos (by rfl)]
                  refine wp_q (.int .u64 d) ?e13_b3_1 ?_
                  case e13_b3_1 => exact exec_cell 26 _ _ HPZ.out rfl rfl rfl Try.underlying26 rfl
                  refine hK.out _ _ hHeld (fun hHeld2 => ?_)
                  clear hK K hHeld2
                  (try simp only [Act.put, sA, sB, sC])
                  refine tkQ 4 (.int .u64 (clD d f x)) hHeld (he := by intro w hSw; (have q := HX2.out; unfold clD; rw [if_pos q]; go_simp; (first | done | rfl))) (h := ?_)
                  (try simp only [Act.put, sA, sB, sC])
                  refine tkQ 5 (.pointer (some ⟨w.heap.size, 2, none⟩)) hHeld (h := ?_)
                  (try simp only [Act.put, sA, sB, sC])
                  refine wpAnyH_ready (rs := [6]) (by kernel_rfl) (by simp) ?_
                  refine AllReadyH.cons (o := ?o13_b3_6) ?h13_b3_6 (fun K hK => ?_) AllReadyH.nil
                  case h13_b3_6 => (first | (simp only [gA, gB, gC]; done) | (simp only [gA, gB, gC]; exact rfl))
                  rw [if_pos (by rfl)]
                  refine wp_st_cell 26 _ _ rfl #[.int .u64 (clP p f), .int .u64 (clU u f x), .int .u64 (clD d f x)] (.int .u64 (clD d f x)) rfl rfl HPZ.out (by show 2 < 3; decide) rfl (by first | rfl | simp [Value.oneCell']) (by kernel_rfl) ?_
                  clear HPZ
                  intro w154 hw
                  have HRZ := Lib.hid (show Blk w154 w.heap.size 28 #[.int .u64 (clP p f), .int .u64 (clU u f x), .int .u64 (clD d f x)] by obtain ⟨old, Bo, _⟩ := hHeld.2; rw [hw]; exact Blk.row Bo _)
                  have hHeld3 : (fun W : World => Since w W ∧ HasRow W w.heap.size 28 3) w154 := ⟨by rw [hw]; exact Since.setRow hHeld.1 (by have := HNE3.out; omega) _, HasRow.of HRZ.out rfl⟩
                  refine hK.out _ _ hHeld3 (fun hHeld2 => ?_)
                  clear hK K hHeld hHeld3 hw
                  have hHeld := hHeld2
                  clear hHeld2
                  (try simp only [Act.put, sA, sB, sC])
                  refine wpAnyH_done (by kernel_rfl) ?_ _
                  have HSd13v2 := Lib.hid hHeld.1
                  have HBZd13v2 := Lib.hid HRZ.out
                  clear HRZ
                  clear hHeld HRK HRD HS153 HBZ153
                  go_wp2_with fail
                  go_meet
                  case rel => exact Lib.hid ⟨HSd13v2.out, HBZd13v2.out⟩
              case rest =>
                clear HS153 HBZ153
                obtain ⟨g0, g1⟩ := hcut.out
                clear hcut
                have HS203 := Lib.hid g0
                have HBZ203 := Lib.hid g1
                clear g0 g1
                go_upto_region 14 with fail
                refine wp_region_lit ?_
                refine tkL (.int .i64 x) (h := ?_)
                (try simp only [Act.put, sA, sB, sC])
                refine tkL (.int .i64 f) (h := ?_)
                (try simp only [Act.put, sA, sB, sC])
                refine tkL (.int .i64 x) (h := ?_)
                (try simp only [Act.put, sA, sB, sC])
                refine tkL (.int .i64 f) (h := ?_)
                (try simp only [Act.put, sA, sB, sC])
                refine wpList_nil ?_
                have HBSq := Lib.hid (show Blk wc w.heap.size 28 #[.int .u64 (clP p f), .int .u64 (clU u f x), .int .u64 (clD d f x)] by exact HBZ203.out)
                go_upto_region 4 with fail
                refine wp_region_lit ?_
                refine tkL (.int .i64 (i : Int)) (h := ?_)
                (try simp only [Act.put, sA, sB, sC])
                refine wpList_q (by rfl) (.int .i64 ((i : Int) + 1)) ?he ?_
                case he => (have q := HB.out.1; go_simp; (first | done | (refine wrS _ ?_ ?_ <;> omega) | omega))
                (try simp only [Act.put, sA, sB, sC])
                refine tkL (.int .i64 ((i : Int) + 1)) (h := ?_)
                (try simp only [Act.put, sA, sB, sC])
                refine wpList_nil ?_
                go_wp2_with fail
                go_roundw
                case rel => exact ⟨i + 1, clP p f, clU u f x, clD d f x, f, x, f, rfl, rfl, rfl, by go_num, Lib.hid ⟨serv_open HI.out HO.out HX.out, HS203.out, HBSq.out⟩⟩
                case measure => have := HB.out.1; simp [intOf]; omega
theorem rW {x : Int} (h : (Lit.int .u64 x).wf = true) : R x := by have := bounds_u64 h; unfold R; omega
theorem u8W {n : Int} (hn : (Lit.int .u8 n).wf = true) : 0 ≤ n ∧ n ≤ 255 := by
  simp only [Lit.wf, IntKind.has, IntKind.min, IntKind.max, IntKind.bits, IntKind.signed] at hn
  simp at hn
  omega
theorem servF (p u d f8 w8 : Int) (w : World) (wp : (Lit.int .u64 p).wf = true) (wu : (Lit.int .u64 u).wf = true) (wd : (Lit.int .u64 d).wf = true) (wf : (Lit.int .u8 f8).wf = true) (ww : (Lit.int .u8 w8).wf = true) :
    Calls Try.prog 10 #[.agg #[.int .u64 p, .int .u64 u, .int .u64 d], .int .u8 f8, .int .u8 w8] w fun e w' => e = .returned (.bool true) ∧ Since w w' := servT p u d f8 w8 w (rW wp) (rW wu) (rW wd) (u8W wf) (u8W ww)
end Go.Proofs.Ytdbbacpofgjgoaa.Sc
