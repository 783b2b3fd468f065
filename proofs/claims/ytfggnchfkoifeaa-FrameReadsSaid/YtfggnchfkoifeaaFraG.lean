/-
  FrameNone: walked.
  Conditions: what stands ahead of each.
-/
import Derived.Test.YtfggnchfkoifeaaProg
import Derived.Test.YtfggnchfkoifeaaFraF
namespace Go.Proofs.Ytfggnchfkoifeaa.Fq
set_option linter.unusedVariables false
set_option linter.unusedSimpArgs false
open Go.RowKit Go.Proofs.Ytfggnchfkoifeaa.Ba Go.Proofs.Ytfggnchfkoifeaa.Mem Go.Proofs.Ytfggnchfkoifeaa.Cm Go.Proofs.Ytfggnchfkoifeaa.Fm
open Go.Proofs.Ytfggnchfkoifeaa.Byt (BV isB cells)
set_option maxRecDepth 100000
attribute [local irreducible] Go.wpList
set_option maxHeartbeats 4000000 in
theorem nonLow (A : Option Addr) (n c : Nat) (zs : List Int) (w : World) (hb : BV w A n zs) (h1 : n < 1) : Calls Try.prog 10 #[.slice A n c] w fun e w' => e = .returned (.bool true) ∧ Since w w' := by
  have HB := Lib.hid hb
  clear hb
  have H1 := Lib.hid h1
  clear h1
  go_enter Try.func10, Try.ntmps10
  go_upto_region 1 with fail
  have HS1 := Lib.hid (Since.refl w)
  refine wp_region_lit ?_
  refine wpList_q (by rfl) (.slice A n c) ?he ?_
  case he => (first | rfl | (go_simp; (try with_reducible rfl)))
  (try simp only [Act.put, sA, sB, sC])
  refine wpList_q (by rfl) (.int .i64 (n : Int)) ?he ?_
  case he => (first | rfl | (go_simp; (try with_reducible rfl)))
  (try simp only [Act.put, sA, sB, sC])
  refine wpList_q (by rfl) (.bool true) ?he ?_
  case he => (have q0 := H1.out; go_simp; (first | done | rfl | omega))
  (try simp only [Act.put, sA, sB, sC])
  refine wpList_q (by rfl) (.bool true) ?he ?_
  case he => (first | rfl | (go_simp; (try with_reducible rfl)))
  (try simp only [Act.put, sA, sB, sC])
  refine wpList_no (by rfl) ?_
  (try simp only [Act.put, sA, sB, sC])
  refine wpList_no (by rfl) ?_
  (try simp only [Act.put, sA, sB, sC])
  refine wpList_no (by rfl) ?_
  (try simp only [Act.put, sA, sB, sC])
  refine wpList_q (by rfl) (.bool true) ?he ?_
  case he => (first | rfl | (go_simp; (try with_reducible rfl)))
  (try simp only [Act.put, sA, sB, sC])
  refine wpList_nil ?_
  go_upto_region 2 with fail
  refine wp_region_lit ?_
  refine wpList_wp (by rfl) (fun K hK => ?_)
  (try go_simp)
  refine (ans _).mono ?_
  rintro e w2 ⟨rfl, hb⟩
  (try go_wp2_with fail)
  refine hK.out _ _ ?_
  clear hK K
  (try simp only [Act.put, sA, sB, sC])
  have HS2 := Lib.hid (Since.trans HS1.out hb)
  clear HS1 
  clear hb
  refine wpList_q (by rfl) (.bool true) ?he ?_
  case he => (first | rfl | (go_simp; (try with_reducible rfl)))
  (try simp only [Act.put, sA, sB, sC])
  refine wpList_nil ?_
  (try go_wp2_with fail)
  go_ret
  exact ⟨rfl, HS2.out⟩
set_option maxHeartbeats 4000000 in
theorem nonHigh (A : Option Addr) (n c : Nat) (zs : List Int) (w : World) (hb : BV w A n zs) (h1 : ¬ n < 1) (h6 : 64 < n) : Calls Try.prog 10 #[.slice A n c] w fun e w' => e = .returned (.bool true) ∧ Since w w' := by
  have HB := Lib.hid hb
  clear hb
  have H1 := Lib.hid h1
  clear h1
  have H6 := Lib.hid h6
  clear h6
  go_enter Try.func10, Try.ntmps10
  go_upto_region 1 with fail
  have HS1 := Lib.hid (Since.refl w)
  refine wp_region_lit ?_
  refine wpList_q (by rfl) (.slice A n c) ?he ?_
  case he => (first | rfl | (go_simp; (try with_reducible rfl)))
  (try simp only [Act.put, sA, sB, sC])
  refine wpList_q (by rfl) (.int .i64 (n : Int)) ?he ?_
  case he => (first | rfl | (go_simp; (try with_reducible rfl)))
  (try simp only [Act.put, sA, sB, sC])
  refine wpList_q (by rfl) (.bool false) ?he ?_
  case he => (have q0 := H1.out; go_simp; (first | done | rfl | omega))
  (try simp only [Act.put, sA, sB, sC])
  refine wpList_q (by rfl) (.bool false) ?he ?_
  case he => (first | rfl | (go_simp; (try with_reducible rfl)))
  (try simp only [Act.put, sA, sB, sC])
  refine wpList_q (by rfl) (.slice A n c) ?he ?_
  case he => (first | rfl | (go_simp; (try with_reducible rfl)))
  (try simp only [Act.put, sA, sB, sC])
  refine wpList_q (by rfl) (.int .i64 (n : Int)) ?he ?_
  case he => (first | rfl | (go_simp; (try with_reducible rfl)))
  (try simp only [Act.put, sA, sB, sC])
  refine wpList_q (by rfl) (.bool true) ?he ?_
  case he => (have q0 := H6.out; go_simp; (first | done | rfl | omega))
  (try simp only [Act.put, sA, sB, sC])
  refine wpList_q (by rfl) (.bool true) ?he ?_
  case he => (first | rfl | (go_simp; (try with_reducible rfl)))
  (try simp only [Act.put, sA, sB, sC])
  refine wpList_nil ?_
  go_upto_region 2 with fail
  refine wp_region_lit ?_
  refine wpList_wp (by rfl) (fun K hK => ?_)
  (try go_simp)
  refine (ans _).mono ?_
  rintro e w2 ⟨rfl, hb⟩
  (try go_wp2_with fail)
  refine hK.out _ _ ?_
  clear hK K
  (try simp only [Act.put, sA, sB, sC])
  have HS2 := Lib.hid (Since.trans HS1.out hb)
  clear HS1 
  clear hb
  refine wpList_q (by rfl) (.bool true) ?he ?_
  case he => (first | rfl | (go_simp; (try with_reducible rfl)))
  (try simp only [Act.put, sA, sB, sC])
  refine wpList_nil ?_
  (try go_wp2_with fail)
  go_ret
  exact ⟨rfl, HS2.out⟩
set_option maxHeartbeats 4000000 in
theorem nonOk (A : Option Addr) (n c : Nat) (zs : List Int) (w : World) (hb : BV w A n zs) (h1 : ¬ n < 1) (h6 : ¬ 64 < n) : Calls Try.prog 10 #[.slice A n c] w fun e w' => e = .returned (.bool true) ∧ Since w w' := by
  have HB := Lib.hid hb
  clear hb
  have H1 := Lib.hid h1
  clear h1
  have H6 := Lib.hid h6
  clear h6
  go_enter Try.func10, Try.ntmps10
  go_upto_region 1 with fail
  have HS1 := Lib.hid (Since.refl w)
  refine wp_region_lit ?_
  refine wpList_q (by rfl) (.slice A n c) ?he ?_
  case he => (first | rfl | (go_simp; (try with_reducible rfl)))
  (try simp only [Act.put, sA, sB, sC])
  refine wpList_q (by rfl) (.int .i64 (n : Int)) ?he ?_
  case he => (first | rfl | (go_simp; (try with_reducible rfl)))
  (try simp only [Act.put, sA, sB, sC])
  refine wpList_q (by rfl) (.bool false) ?he ?_
  case he => (have q0 := H1.out; go_simp; (first | done | rfl | omega))
  (try simp only [Act.put, sA, sB, sC])
  refine wpList_q (by rfl) (.bool false) ?he ?_
  case he => (first | rfl | (go_simp; (try with_reducible rfl)))
  (try simp only [Act.put, sA, sB, sC])
  refine wpList_q (by rfl) (.slice A n c) ?he ?_
  case he => (first | rfl | (go_simp; (try with_reducible rfl)))
  (try simp only [Act.put, sA, sB, sC])
  refine wpList_q (by rfl) (.int .i64 (n : Int)) ?he ?_
  case he => (first | rfl | (go_simp; (try with_reducible rfl)))
  (try simp only [Act.put, sA, sB, sC])
  refine wpList_q (by rfl) (.bool false) ?he ?_
  case he => (have q0 := H6.out; go_simp; (first | done | rfl | omega))
  (try simp only [Act.put, sA, sB, sC])
  refine wpList_q (by rfl) (.bool false) ?he ?_
  case he => (first | rfl | (go_simp; (try with_reducible rfl)))
  (try simp only [Act.put, sA, sB, sC])
  refine wpList_nil ?_
  go_upto_region 3 with fail
  refine wp_region_lit ?_
  refine wpList_q (by rfl) (.pointer none) ?he ?_
  case he => (first | rfl | (go_simp; (try with_reducible rfl)))
  (try simp only [Act.put, sA, sB, sC])
  refine wpList_nil ?_
  go_upto_region 4 with fail
  refine wp_region_lit ?_
  refine wpList_q (by rfl) (.pointer none) ?he ?_
  case he => (first | rfl | (go_simp; (try with_reducible rfl)))
  (try simp only [Act.put, sA, sB, sC])
  refine wpList_q (by rfl) (.slice A n c) ?he ?_
  case he => (first | rfl | (go_simp; (try with_reducible rfl)))
  (try simp only [Act.put, sA, sB, sC])
  refine wpList_wp (by rfl) (fun K hK => ?_)
  (try go_simp)
  refine (feedNil A n c _).mono ?_
  rintro e w2 ⟨rfl, hb⟩
  (try go_wp2_with fail)
  refine hK.out _ _ ?_
  clear hK K
  (try simp only [Act.put, sA, sB, sC])
  have HS2 := Lib.hid (Since.trans HS1.out hb)
  clear HS1 
  clear hb
  refine wpList_nil ?_
  go_upto_region 5 with fail
  refine wp_region_lit ?_
  refine wpList_q (by rfl) (.pointer none) ?he ?_
  case he => (first | rfl | (go_simp; (try with_reducible rfl)))
  (try simp only [Act.put, sA, sB, sC])
  refine wpList_wp (by rfl) (fun K hK => ?_)
  (try go_simp)
  refine (nextNil _).mono ?_
  rintro e w3 ⟨rfl, hb⟩
  (try go_wp2_with fail)
  refine hK.out _ _ ?_
  clear hK K
  (try simp only [Act.put, sA, sB, sC])
  have HS3 := Lib.hid (Since.trans HS2.out hb)
  clear HS2 
  clear hb
  refine wpList_q (by rfl) (.tuple #[.slice none 0 0, .bool false]) ?he ?_
  case he => (first | rfl | (go_simp; (try with_reducible rfl)))
  (try simp only [Act.put, sA, sB, sC])
  refine wpList_q (by rfl) (.slice none 0 0) ?he ?_
  case he => (first | rfl | (go_simp; (try with_reducible rfl)))
  (try simp only [Act.put, sA, sB, sC])
  refine wpList_q (by rfl) (.bool false) ?he ?_
  case he => (first | rfl | (go_simp; (try with_reducible rfl)))
  (try simp only [Act.put, sA, sB, sC])
  refine wpList_q (by rfl) (.slice none 0 0) ?he ?_
  case he => (first | rfl | (go_simp; (try with_reducible rfl)))
  (try simp only [Act.put, sA, sB, sC])
  refine wpList_q (by rfl) (.bool false) ?he ?_
  case he => (first | rfl | (go_simp; (try with_reducible rfl)))
  (try simp only [Act.put, sA, sB, sC])
  refine wpList_nil ?_
  go_upto_region 6 with fail
  refine wp_region_lit ?_
  refine wpList_q (by rfl) (.slice A n c) ?he ?_
  case he => (first | rfl | (go_simp; (try with_reducible rfl)))
  (try simp only [Act.put, sA, sB, sC])
  refine wpList_wp (by rfl) (fun K hK => ?_)
  (try go_simp)
  refine (frameV A n c zs _ (keep_bv HS3.out HB.out) (by have := H6.out; omega)).mono ?_
  rintro e w4 ⟨Af, cf, rfl, hown, hb⟩
  (try go_wp2_with fail)
  refine hK.out _ _ ?_
  clear hK K
  (try simp only [Act.put, sA, sB, sC])
  have hown2 := own_base (lo' := w.heap.size) hown (Since.size HS3.out)
  have HS4 := Lib.hid (Since.trans HS3.out hb)
  clear HS3 
  clear hb
  have HFf := Lib.hid hown2
  clear hown hown2
  refine wpList_q (by rfl) (.slice Af (n + 6) cf) ?he ?_
  case he => (first | rfl | (go_simp; (try with_reducible rfl)))
  (try simp only [Act.put, sA, sB, sC])
  refine wpList_nil ?_
  obtain ⟨gf, hg⟩ := own_addr HFf.out (by omega)
  subst hg
  go_upto_region 7 with fail
  refine wp_region_lit ?_
  refine wpList_wp (by rfl) (fun K hK => ?_)
  refine wp_new (fun b => .pointer (some ⟨b, 0, none⟩)) 40 #[.slice none 0 0, .int .i64 0] (by rintro b rfl; first | rfl | kernel_rfl) ?_
  intro bn30 w5 hge hB hb
  refine hK.out _ _ ?_
  clear hK K
  (try simp only [Act.put, sA, sB, sC])
  have HGn30 := Lib.hid (show w.heap.size ≤ bn30 by have := Since.size HS4.out; omega)
  have HIn30_f := Lib.hid (own_far HFf.out hge)
  have HS5 := Lib.hid (Since.trans HS4.out hb)
  have HFf5 := Lib.hid (keep_own hb HFf.out)
  clear HS4 HFf
  clear hb hge
  have HBn305 := Lib.hid hB
  clear hB
  refine wpList_q (by rfl) (.pointer (some ⟨bn30, 0, none⟩)) ?he ?_
  case he => (first | rfl | (go_simp; (try with_reducible rfl)))
  (try simp only [Act.put, sA, sB, sC])
  refine wpList_nil ?_
  have HDDf_s := Lib.hid (show ∀ g ∈ (blkOf (some ⟨gf, 0, none⟩)), g ∉ [bn30] from fun g hg h => HIn30_f.out (by simp at h; rw [← h]; exact hg))
  have HFs := Lib.hid (SO.new HBn305.out HGn30.out)
  clear HBn305
  go_upto_region 8 with fail
  refine wp_region_lit ?_
  refine wpList_q (by rfl) (.pointer (some ⟨bn30, 0, none⟩)) ?he ?_
  case he => (first | rfl | (go_simp; (try with_reducible rfl)))
  (try simp only [Act.put, sA, sB, sC])
  refine wpList_q (by rfl) (.slice (some ⟨gf, 0, none⟩) (n + 6) cf) ?he ?_
  case he => (first | rfl | (go_simp; (try with_reducible rfl)))
  (try simp only [Act.put, sA, sB, sC])
  refine wpList_wp (by rfl) (fun K hK => ?_)
  (try go_simp)
  refine (feedV w.heap.size bn30 0 ([]) [bn30] (some ⟨gf, 0, none⟩) (n + 6) cf (frm zs) _ HFs.out (BV.of_own HFf5.out (frm_isB HB.out.2.2.1)) (by have := H6.out; omega) (0 + (n + 6)) (frm zs) rfl (List.nil_append _)).mono ?_
  rintro e w6 ⟨Ss_1, rfl, hobj, hupd, hfar⟩
  (try go_wp2_with fail)
  refine hK.out _ _ ?_
  clear hK K
  (try simp only [Act.put, sA, sB, sC])
  have HS6 := Lib.hid (Since.upd HS5.out hupd (SO.low HFs.out))
  have HFf6 := Lib.hid (Upd.own hupd HFf5.out HDDf_s.out)
  have HDDf_s_6 := Lib.hid (dis_next hfar HDDf_s.out (own_lt HFf5.out))
  have HFs6 := Lib.hid hobj
  clear hupd hobj hfar HS5 HFf5 HFs
  refine wpList_nil ?_
  go_upto_region 9 with fail
  refine wp_region_lit ?_
  refine wpList_q (by rfl) (.int .i64 0) ?he ?_
  case he => (first | rfl | (go_simp; (try with_reducible rfl)))
  (try simp only [Act.put, sA, sB, sC])
  refine wpList_nil ?_
  go_wp2_with fail
  have HSF := Lib.hid (show gf ∉ Ss_1 from fun h => HDDf_s_6.out gf (by simp [blkOf]) h)
  go_loopw [8] (fun s8 wr => ∃ (k : Nat) (ys : List Int), k ≤ n + 6 ∧ ys.length = n + 6 ∧ s8 = .int .i64 (k : Int) ∧ Hid ((∀ z ∈ ys, isB z) ∧ Since w wr ∧ (wr).ownsRow w.heap.size 5 1 (.slice (some ⟨gf, 0, none⟩) (n + 6) cf) (n + 6) (cells ys) ∧ SO w.heap.size bn30 (0 + (n + 6)) (frm zs) Ss_1 wr)) (fun s8 wq => ((n + 6 : Nat) - intOf s8).toNat)
  case atStart => exact ⟨0, (frm zs), by omega, by rw [frm_length, HB.out.1], rfl, Lib.hid ⟨(frm_isB HB.out.2.2.1), HS6.out, HFf6.out, HFs6.out⟩⟩
  case round =>
    obtain ⟨k, ys, hk, hyl, rfl, HO⟩ := hrel
    obtain ⟨e0, g0, g1, g2⟩ := HO.out
    clear HO HS6 HFf6 HFs6
    have HYB := Lib.hid e0
    have HS56 := Lib.hid g0
    have HFf56 := Lib.hid g1
    have HFs56 := Lib.hid g2
    clear e0 g0 g1 g2
    have HK := Lib.hid hk; have HYL := Lib.hid hyl; clear hk hyl
    by_cases hcs : k < n + 6
    rotate_left
    · have HGE := Lib.hid hcs; clear hcs
      go_upto_region 10 with fail
      refine wp_region_lit ?_
      refine wpList_q (by rfl) (.int .i64 (k : Int)) ?he ?_
      case he => (first | rfl | (go_simp; (try with_reducible rfl)))
      (try simp only [Act.put, sA, sB, sC])
      refine wpList_q (by rfl) (.slice (some ⟨gf, 0, none⟩) (n + 6) cf) ?he ?_
      case he => (first | rfl | (go_simp; (try with_reducible rfl)))
      (try simp only [Act.put, sA, sB, sC])
      refine wpList_q (by rfl) (.int .i64 ((n + 6 : Nat) : Int)) ?he ?_
      case he => (first | rfl | (go_simp; (try with_reducible rfl)))
      (try simp only [Act.put, sA, sB, sC])
      refine wpList_q (by rfl) (.bool false) ?he ?_
      case he => (have q0 := HGE.out; go_simp; (first | done | rfl | omega))
      (try simp only [Act.put, sA, sB, sC])
      refine wpList_nil ?_
      go_upto_region 13 with fail
      refine wp_region_lit ?_
      refine wpList_q (by rfl) (.pointer (some ⟨bn30, 0, none⟩)) ?he ?_
      case he => (first | rfl | (go_simp; (try with_reducible rfl)))
      (try simp only [Act.put, sA, sB, sC])
      refine wpList_wp (by rfl) (fun K hK => ?_)
      (try go_simp)
      refine (nextS w.heap.size bn30 (0 + (n + 6)) (frm zs) zs ([]) Ss_1 _ HFs56.out (by have := H6.out; omega) n HB.out.1 HB.out.2.2.1 (by have q := nextF_frame zs [] (by have := HB.out.1; have := H1.out; omega) (by have := HB.out.1; have := H6.out; omega); rw [List.append_nil] at q; exact q)).mono ?_
      rintro e w57 ⟨Ss_2, Ap, cp, rfl, hobj, hupd, hfar, hbvp, hcp⟩
      (try go_wp2_with fail)
      refine hK.out _ _ ?_
      clear hK K
      (try simp only [Act.put, sA, sB, sC])
      have HS57 := Lib.hid (Since.upd HS56.out hupd (SO.low HFs56.out))
      have HFs57 := Lib.hid hobj
      clear hupd hobj hfar HS56 HFs56
      have HBVP := Lib.hid hbvp; have HCPP := Lib.hid hcp; clear hbvp hcp
      refine wpList_q (by rfl) (.tuple #[.slice Ap n cp, .bool true]) ?he ?_
      case he => (first | rfl | (go_simp; (try with_reducible rfl)))
      (try simp only [Act.put, sA, sB, sC])
      refine wpList_q (by rfl) (.slice Ap n cp) ?he ?_
      case he => (first | rfl | (go_simp; (try with_reducible rfl)))
      (try simp only [Act.put, sA, sB, sC])
      refine wpList_q (by rfl) (.bool true) ?he ?_
      case he => (first | rfl | (go_simp; (try with_reducible rfl)))
      (try simp only [Act.put, sA, sB, sC])
      refine wpList_q (by rfl) (.slice Ap n cp) ?he ?_
      case he => (first | rfl | (go_simp; (try with_reducible rfl)))
      (try simp only [Act.put, sA, sB, sC])
      refine wpList_q (by rfl) (.bool true) ?he ?_
      case he => (first | rfl | (go_simp; (try with_reducible rfl)))
      (try simp only [Act.put, sA, sB, sC])
      refine wpList_nil ?_
      go_upto_region 14 with fail
      refine wp_region_lit ?_
      refine wpList_wp (by rfl) (fun K hK => ?_)
      (try go_simp)
      refine (ans _).mono ?_
      rintro e w58 ⟨rfl, hb⟩
      (try go_wp2_with fail)
      refine hK.out _ _ ?_
      clear hK K
      (try simp only [Act.put, sA, sB, sC])
      have HS58 := Lib.hid (Since.trans HS57.out hb)
      have HFbp58 := Lib.hid (keep_bv hb HBVP.out)
      clear HS57 HBVP
      clear hb
      refine wpList_q (by rfl) (.bool true) ?he ?_
      case he => (first | rfl | (go_simp; (try with_reducible rfl)))
      (try simp only [Act.put, sA, sB, sC])
      refine wpList_q (by rfl) (.bool false) ?he ?_
      case he => (first | rfl | (go_simp; (try with_reducible rfl)))
      (try simp only [Act.put, sA, sB, sC])
      refine wpList_q (by rfl) (.bool true) ?he ?_
      case he => (go_simp; (try with_reducible rfl))
      (try simp only [Act.put, sA, sB, sC])
      refine wpList_q (by rfl) (.bool true) ?he ?_
      case he => (first | rfl | (go_simp; (try with_reducible rfl)))
      (try simp only [Act.put, sA, sB, sC])
      refine wpList_q (by rfl) (.bool true) ?he ?_
      case he => (first | rfl | (go_simp; (try with_reducible rfl)))
      (try simp only [Act.put, sA, sB, sC])
      refine wpList_q (by rfl) (.pointer none) ?he ?_
      case he => (first | rfl | (go_simp; (try with_reducible rfl)))
      (try simp only [Act.put, sA, sB, sC])
      refine wpList_wp (by rfl) (fun K hK => ?_)
      (try go_simp)
      refine (heldNil _).mono ?_
      rintro e w59 ⟨rfl, hb⟩
      (try go_wp2_with fail)
      refine hK.out _ _ ?_
      clear hK K
      (try simp only [Act.put, sA, sB, sC])
      have HS59 := Lib.hid (Since.trans HS58.out hb)
      have HFbp59 := Lib.hid (keep_bv hb HFbp58.out)
      clear HS58 HFbp58
      clear hb
      refine wpList_q (by rfl) (.bool true) ?he ?_
      case he => (go_simp; (try with_reducible rfl))
      (try simp only [Act.put, sA, sB, sC])
      refine wpList_q (by rfl) (.bool true) ?he ?_
      case he => (first | rfl | (go_simp; (try with_reducible rfl)))
      (try simp only [Act.put, sA, sB, sC])
      refine wpList_q (by rfl) (.bool true) ?he ?_
      case he => (first | rfl | (go_simp; (try with_reducible rfl)))
      (try simp only [Act.put, sA, sB, sC])
      refine wpList_q (by rfl) (.bool true) ?he ?_
      case he => (first | rfl | (go_simp; (try with_reducible rfl)))
      (try simp only [Act.put, sA, sB, sC])
      refine wpList_q (by rfl) (.bool true) ?he ?_
      case he => (first | rfl | (go_simp; (try with_reducible rfl)))
      (try simp only [Act.put, sA, sB, sC])
      refine wpList_q (by rfl) (.bool true) ?he ?_
      case he => (first | rfl | (go_simp; (try with_reducible rfl)))
      (try simp only [Act.put, sA, sB, sC])
      refine wpList_q (by rfl) (.slice Ap n cp) ?he ?_
      case he => (first | rfl | (go_simp; (try with_reducible rfl)))
      (try simp only [Act.put, sA, sB, sC])
      refine wpList_q (by rfl) (.string (strOfNums zs)) ?he ?_
      case he => exact exec_str 22 5 9 _ HFbp59.out rfl rfl Try.underlying22 Try.underlying5 Try.underlying9
      (try simp only [Act.put, sA, sB, sC])
      refine wpList_q (by rfl) (.slice A n c) ?he ?_
      case he => (first | rfl | (go_simp; (try with_reducible rfl)))
      (try simp only [Act.put, sA, sB, sC])
      refine wpList_q (by rfl) (.string (strOfNums zs)) ?he ?_
      case he => exact exec_str 22 5 9 _ (keep_bv HS59.out HB.out) rfl rfl Try.underlying22 Try.underlying5 Try.underlying9
      (try simp only [Act.put, sA, sB, sC])
      refine wpList_q (by rfl) (.bool true) ?he ?_
      case he => (go_simp; (first | done | rfl))
      (try simp only [Act.put, sA, sB, sC])
      refine wpList_q (by rfl) (.bool true) ?he ?_
      case he => (first | rfl | (go_simp; (try with_reducible rfl)))
      (try simp only [Act.put, sA, sB, sC])
      refine wpList_q (by rfl) (.bool true) ?he ?_
      case he => (first | rfl | (go_simp; (try with_reducible rfl)))
      (try simp only [Act.put, sA, sB, sC])
      refine wpList_nil ?_
      (try go_wp2_with fail)
      go_ret
      exact ⟨rfl, HS59.out⟩
    · have HLT := Lib.hid hcs; clear hcs
      go_upto_region 10 with fail
      refine wp_region_lit ?_
      refine wpList_q (by rfl) (.int .i64 (k : Int)) ?he ?_
      case he => (first | rfl | (go_simp; (try with_reducible rfl)))
      (try simp only [Act.put, sA, sB, sC])
      refine wpList_q (by rfl) (.slice (some ⟨gf, 0, none⟩) (n + 6) cf) ?he ?_
      case he => (first | rfl | (go_simp; (try with_reducible rfl)))
      (try simp only [Act.put, sA, sB, sC])
      refine wpList_q (by rfl) (.int .i64 ((n + 6 : Nat) : Int)) ?he ?_
      case he => (first | rfl | (go_simp; (try with_reducible rfl)))
      (try simp only [Act.put, sA, sB, sC])
      refine wpList_q (by rfl) (.bool true) ?he ?_
      case he => (have q0 := HLT.out; go_simp; (first | done | rfl | omega))
      (try simp only [Act.put, sA, sB, sC])
      refine wpList_nil ?_
      go_upto_region 12 with fail
      refine wp_region_lit ?_
      refine wpList_q (by rfl) (.slice (some ⟨gf, 0, none⟩) (n + 6) cf) ?he ?_
      case he => (first | rfl | (go_simp; (try with_reducible rfl)))
      (try simp only [Act.put, sA, sB, sC])
      refine wpList_q (by rfl) (.int .i64 (k : Int)) ?he ?_
      case he => (first | rfl | (go_simp; (try with_reducible rfl)))
      (try simp only [Act.put, sA, sB, sC])
      refine wpList_q (by rfl) (.slice (some ⟨gf, 0, none⟩) (n + 6) cf) ?he ?_
      case he => (first | rfl | (go_simp; (try with_reducible rfl)))
      (try simp only [Act.put, sA, sB, sC])
      refine wpList_q (by rfl) (.int .i64 (k : Int)) ?he ?_
      case he => (first | rfl | (go_simp; (try with_reducible rfl)))
      (try simp only [Act.put, sA, sB, sC])
      refine wpList_q (by rfl) (.pointer (some ⟨gf, k, none⟩)) ?he ?_
      case he => (refine (exec_index (i := k) (s := 1) (off := 0) 22 5 _ _ rfl rfl rfl rfl HLT.out Try.underlying22 (by kernel_rfl)).trans ?_; rw [Nat.zero_add, Nat.mul_one])
      (try simp only [Act.put, sA, sB, sC])
      refine wpList_q (by rfl) (.int .u8 (ys.getD k 0)) ?he ?_
      case he => exact exec_at 5 _ _ (own_cell HFf56.out (by rw [HYL.out]; exact HLT.out)) rfl rfl Try.underlying5 rfl
      (try simp only [Act.put, sA, sB, sC])
      refine wpList_q (by rfl) (.int .u8 (bits .xor .u8 (ys.getD k 0) 255)) ?he ?_
      case he => (go_simp; (first | done | rfl))
      (try simp only [Act.put, sA, sB, sC])
      refine wpList_q (by rfl) (.pointer (some ⟨gf, k, none⟩)) ?he ?_
      case he => (refine (exec_index (i := k) (s := 1) (off := 0) 22 5 _ _ rfl rfl rfl rfl HLT.out Try.underlying22 (by kernel_rfl)).trans ?_; rw [Nat.zero_add, Nat.mul_one])
      (try simp only [Act.put, sA, sB, sC])
      refine wpList_wp (by rfl) (fun K hK => ?_)
      obtain ⟨cur, hcur, hcz, hown⟩ := own_setb HFf56.out HLT.out (bits .xor .u8 (ys.getD k 0) 255)
      refine wp_st_cell 5 _ _ rfl (cur.setIfInBounds k (.int .u8 (bits .xor .u8 (ys.getD k 0) 255))) (.int .u8 (bits .xor .u8 (ys.getD k 0) 255)) rfl rfl hcur hcz rfl (by first | rfl | simp [Value.oneCell']) (by kernel_rfl) ?_
      intro w57 hw
      refine hK.out _ _ ?_
      clear hK K
      (try simp only [Act.put, sA, sB, sC])
      rw [← hw] at hown
      clear hcur hcz
      have HS57 := Lib.hid (show Since w w57 by rw [hw]; exact Since.setRow HS56.out (own_low HFf56.out gf (by simp [blkOf])) _)
      have HFs57 := Lib.hid (show SO w.heap.size bn30 (0 + (n + 6)) (frm zs) Ss_1 w57 by rw [hw]; exact SO.row_far HFs56.out HSF.out _)
      clear hw HS56 HFs56
      have HFg := Lib.hid hown; clear hown HFf56
      refine wpList_nil ?_
      go_upto_region 11 with fail
      refine wp_region_lit ?_
      refine wpList_q (by rfl) (.int .i64 (k : Int)) ?he ?_
      case he => (first | rfl | (go_simp; (try with_reducible rfl)))
      (try simp only [Act.put, sA, sB, sC])
      refine wpList_q (by rfl) (.int .i64 ((k : Int) + 1)) ?he ?_
      case he => (go_simp; (first | done | (refine wr64 _ ?_ ?_ <;> (have q0 := HLT.out; have q1 := H6.out; omega)) | (have q0 := HLT.out; have q1 := H6.out; omega) | (have q0 := HLT.out; have q1 := H6.out; split <;> omega) | (have q0 := HLT.out; have q1 := H6.out; intro hh; omega)))
      (try simp only [Act.put, sA, sB, sC])
      refine wpList_q (by rfl) (.int .i64 ((k : Int) + 1)) ?he ?_
      case he => (first | rfl | (go_simp; (try with_reducible rfl)))
      (try simp only [Act.put, sA, sB, sC])
      refine wpList_nil ?_
      go_wp2_with fail
      go_roundw
      case rel => exact ⟨k + 1, _, by have := HLT.out; omega, by rw [List.length_set]; exact HYL.out, by go_num, Lib.hid ⟨set_isB HYB.out (isB_xor (getD_isB HYB.out k) (by unfold isB; omega)), HS57.out, HFg.out, HFs57.out⟩⟩
      case measure => have := HLT.out; simp [intOf]; omega
theorem nons (A : Option Addr) (n c : Nat) (zs : List Int) (w : World) (hb : BV w A n zs) : Calls Try.prog 10 #[.slice A n c] w fun e w' => e = .returned (.bool true) ∧ Since w w' := by
  by_cases h1 : n < 1
  · exact nonLow A n c zs w hb h1
  · by_cases h6 : 64 < n
    · exact nonHigh A n c zs w hb h1 h6
    · exact nonOk A n c zs w hb h1 h6
end Go.Proofs.Ytfggnchfkoifeaa.Fq
