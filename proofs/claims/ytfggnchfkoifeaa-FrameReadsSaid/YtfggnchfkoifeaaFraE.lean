/-
  the law's answers; FramePuts: walked.
  Conditions: what stands ahead of each.
-/
import Derived.Test.YtfggnchfkoifeaaProg
import Derived.Test.YtfggnchfkoifeaaFraD
import Derived.Test.YtfggnchfkoifeaaFrsRef
namespace Go.Proofs.Ytfggnchfkoifeaa.Fq
set_option linter.unusedVariables false
set_option linter.unusedSimpArgs false
open Go.RowKit Go.Proofs.Ytfggnchfkoifeaa.Ba Go.Proofs.Ytfggnchfkoifeaa.Mem Go.Proofs.Ytfggnchfkoifeaa.Cm Go.Proofs.Ytfggnchfkoifeaa.Fm
open Go.Proofs.Ytfggnchfkoifeaa.Byt (BV isB cells)
set_option maxRecDepth 100000
attribute [local irreducible] Go.wpList
theorem nextN (lo s N : Nat) (xs rest : List Int) (S : List Nat) (w : World) (h : SO lo s N xs S w) (hN : N ≤ 1000000) (hx : nextF xs = (none, rest)) : Calls Try.prog 20 #[.pointer (some ⟨s, 0, none⟩)] w fun e w' => ∃ S', e = .returned (.tuple #[.slice none 0 0, .bool false]) ∧ SO lo s N rest S' w' ∧ Upd S w w' ∧ ∀ g ∈ S', g ∈ S ∨ w.heap.size ≤ g := by
  refine (nextT lo s N xs S w h hN).mono ?_
  rw [hx]
  rintro e w1 ⟨S', h1, h2, h3, h4⟩
  exact ⟨S', h4, h1, h2, h3⟩
theorem nextS (lo s N : Nat) (xs p rest : List Int) (S : List Nat) (w : World) (h : SO lo s N xs S w) (hN : N ≤ 1000000) (n : Nat) (hn : p.length = n) (hp : ∀ z ∈ p, isB z) (hx : nextF xs = (some p, rest)) : Calls Try.prog 20 #[.pointer (some ⟨s, 0, none⟩)] w fun e w' => ∃ S' A c, e = .returned (.tuple #[.slice A n c, .bool true]) ∧ SO lo s N rest S' w' ∧ Upd S w w' ∧ (∀ g ∈ S', g ∈ S ∨ w.heap.size ≤ g) ∧ BV w' A n p ∧ n ≤ c := by
  subst hn
  refine (nextT lo s N xs S w h hN).mono ?_
  rw [hx]
  rintro e w1 ⟨S', h1, h2, h3, A, c, he, ho, _⟩
  exact ⟨S', A, c, he, h1, h2, h3, BV.of_own ho hp, own_cap2 ho⟩
theorem feedV (lo s N : Nat) (xs : List Int) (S : List Nat) (A2 : Option Addr) (m c2 : Nat) (ys : List Int) (w : World) (h : SO lo s N xs S w) (hb : BV w A2 m ys) (hN : N + m ≤ 1000000) (N2 : Nat) (zs : List Int) (h1 : N + m = N2) (h2 : xs ++ ys = zs) :
    Calls Try.prog 18 #[.pointer (some ⟨s, 0, none⟩), .slice A2 m c2] w fun e w' => ∃ S', e = .returned (.tuple #[]) ∧ SO lo s N2 zs S' w' ∧ Upd S w w' ∧ ∀ g ∈ S', g ∈ S ∨ w.heap.size ≤ g := by
  subst h1 h2; exact feedT lo s N xs S A2 m c2 ys w h hb hN
theorem heldV (lo s N : Nat) (xs : List Int) (S : List Nat) (w : World) (h : SO lo s N xs S w) (hN : N ≤ 1000000) (n : Nat) (hn : xs.length = n) : Calls Try.prog 21 #[.pointer (some ⟨s, 0, none⟩)] w fun e w' => e = .returned (.int .i64 (n : Int)) ∧ Since w w' := by
  subst hn; exact heldT lo s N xs S w h hN
theorem putV (A : Option Addr) (n c : Nat) (zs : List Int) (w : World) (hb : BV w A n zs) (ho : okN (n : Int) = true) : Calls Try.prog 16 #[.slice A n c] w fun e w' => ∃ A' c', e = .returned (.tuple #[.slice A' (n + 6) c', .bool true]) ∧ w'.ownsRow w.heap.size 5 1 (.slice A' (n + 6) c') (n + 6) (cells (frm zs)) ∧ Since w w' := putOk A n c zs w hb ho
theorem frameV (A : Option Addr) (n c : Nat) (zs : List Int) (w : World) (hb : BV w A n zs) (hn : n ≤ 1000) : Calls Try.prog 17 #[.slice A n c] w fun e w' => ∃ A' c', e = .returned (.slice A' (n + 6) c') ∧ w'.ownsRow w.heap.size 5 1 (.slice A' (n + 6) c') (n + 6) (cells (frm zs)) ∧ Since w w' := by
  have hl := hb.1
  refine (Fw.frameR A n c zs w hb hn).mono ?_
  rintro e w1 ⟨A', c', he, ho, hs⟩
  rw [frm_length, hl] at he ho
  exact ⟨A', c', he, ho, hs⟩
theorem str_ne {x y : List Int} (hx : ∀ z ∈ x, isB z) (hy : ∀ z ∈ y, isB z) (h : x ≠ y) : ¬ (strOfNums x).toList = (strOfNums y).toList := fun e =>
  h ((Byt.strOfNums_eq hx hy).1 (Go.WideShapes.bytes_inj (by rw [← Lib.toList_data, ← Lib.toList_data]; exact e)))
set_option maxHeartbeats 4000000 in
theorem ans (w : World) : Calls Try.prog 15 #[] w fun e w' => e = .returned (.bool true) ∧ Since w w' := by
  go_enter Try.func15, Try.ntmps15
  go_upto_region 1 with fail
  have HS1 := Lib.hid (Since.refl w)
  refine wp_region_lit ?_
  refine wpList_mk rfl (.slice (some ⟨w.heap.size, 0, none⟩) 1 1) (w.alloc (.cells #[.int .u8 97] 5)) ?he0 ?_
  case he0 => first | rfl | kernel_rfl | (go_simp; (try rfl))
  (try simp only [Act.put, sA, sB, sC])
  have kc := Lib.run_convert_bytes_const (P := Try.prog) w 22 5 #[.int .u8 97] 1 1 Try.underlying22 Try.underlying5
  refine wpList_mk rfl (.slice (some ⟨w.heap.size, 0, none⟩) 1 1) (w.alloc (.cells #[.int .u8 97] 5 (1, 2))) ?he1 ?_
  case he1 => (unfold execOp; (first | (simp only [Sem.run_bind, Sem.run_pure, Result.andThen_ok]; exact congrArg _ kc) | (simp [kc, Act.eval]) | (go_simp; simp [kc])))
  clear kc
  (try simp only [Act.put, sA, sB, sC])
  have HSl := Lib.hid (show Since w (w.alloc (.cells #[.int .u8 97] 5 (1, 2))) from (Since.refl w).alloc _)
  have HBl := Lib.hid (Fw.BV.lit w 5 (1, 2) [97] 1 rfl (by decide) (by intro z hz; simp at hz; subst hz; unfold isB; omega))
  have HLl := Lib.hid (show w.heap.size ≤ w.heap.size from Nat.le_refl _)
  clear HS1
  obtain ⟨wl, hwl⟩ : ∃ wl, wl = w.alloc (.cells #[.int .u8 97] 5 (1, 2)) := ⟨_, rfl⟩
  have HSm := Lib.hid (show Since w wl by rw [hwl]; exact HSl.out)
  have HBm := Lib.hid (show BV wl (some ⟨w.heap.size, 0, none⟩) 1 [97] by rw [hwl]; exact HBl.out)
  rw [← hwl]
  clear hwl HSl HBl HLl
  refine wpList_wp (by rfl) (fun K hK => ?_)
  (try go_simp)
  refine (putV (some ⟨w.heap.size, 0, none⟩) 1 1 [97] _ HBm.out rfl).mono ?_
  rintro e w2 ⟨Af, cf, rfl, hown, hb⟩
  (try go_wp2_with fail)
  refine hK.out _ _ ?_
  clear hK K
  (try simp only [Act.put, sA, sB, sC])
  have hown2 := own_base (lo' := w.heap.size) hown (Since.size HSm.out)
  have HS2 := Lib.hid (Since.trans HSm.out hb)
  have HFbl2 := Lib.hid (keep_bv hb HBm.out)
  clear HSm HBm
  clear hb
  have HFf := Lib.hid hown2
  clear hown hown2
  refine wpList_q (by rfl) (.tuple #[.slice Af (1 + 6) cf, .bool true]) ?he ?_
  case he => (first | rfl | (go_simp; (try with_reducible rfl)))
  (try simp only [Act.put, sA, sB, sC])
  refine wpList_q (by rfl) (.slice Af (1 + 6) cf) ?he ?_
  case he => (first | rfl | (go_simp; (try with_reducible rfl)))
  (try simp only [Act.put, sA, sB, sC])
  refine wpList_q (by rfl) (.bool true) ?he ?_
  case he => (first | rfl | (go_simp; (try with_reducible rfl)))
  (try simp only [Act.put, sA, sB, sC])
  refine wpList_q (by rfl) (.slice Af (1 + 6) cf) ?he ?_
  case he => (first | rfl | (go_simp; (try with_reducible rfl)))
  (try simp only [Act.put, sA, sB, sC])
  refine wpList_q (by rfl) (.bool true) ?he ?_
  case he => (first | rfl | (go_simp; (try with_reducible rfl)))
  (try simp only [Act.put, sA, sB, sC])
  refine wpList_nil ?_
  go_upto_region 2 with fail
  refine wp_region_lit ?_
  refine wpList_wp (by rfl) (fun K hK => ?_)
  refine wp_new (fun b => .pointer (some ⟨b, 0, none⟩)) 40 #[.slice none 0 0, .int .i64 0] (by rintro b rfl; first | rfl | kernel_rfl) ?_
  intro bn12 w3 hge hB hb
  refine hK.out _ _ ?_
  clear hK K
  (try simp only [Act.put, sA, sB, sC])
  have HGn12 := Lib.hid (show w.heap.size ≤ bn12 by have := Since.size HS2.out; omega)
  have HIn12_f := Lib.hid (own_far HFf.out hge)
  have HS3 := Lib.hid (Since.trans HS2.out hb)
  have HFf3 := Lib.hid (keep_own hb HFf.out)
  clear HS2 HFf
  clear hb hge
  have HBn123 := Lib.hid hB
  clear hB
  refine wpList_q (by rfl) (.pointer (some ⟨bn12, 0, none⟩)) ?he ?_
  case he => (first | rfl | (go_simp; (try with_reducible rfl)))
  (try simp only [Act.put, sA, sB, sC])
  refine wpList_nil ?_
  have HDDf_s := Lib.hid (show ∀ g ∈ (blkOf Af), g ∉ [bn12] from fun g hg h => HIn12_f.out (by simp at h; rw [← h]; exact hg))
  have HFs := Lib.hid (SO.new HBn123.out HGn12.out)
  clear HBn123
  go_upto_region 3 with fail
  refine wp_region_lit ?_
  refine wpList_q (by rfl) (.pointer (some ⟨bn12, 0, none⟩)) ?he ?_
  case he => (first | rfl | (go_simp; (try with_reducible rfl)))
  (try simp only [Act.put, sA, sB, sC])
  refine wpList_wp (by rfl) (fun K hK => ?_)
  refine wp_new (fun b => .slice (some ⟨b, 0, none⟩) 1 1) 5 #[.int .u8 0] (by rintro b rfl; first | rfl | kernel_rfl) ?_
  intro bn14 w4 hge hB hb
  refine hK.out _ _ ?_
  clear hK K
  (try simp only [Act.put, sA, sB, sC])
  have HGn14 := Lib.hid (show w.heap.size ≤ bn14 by have := Since.size HS3.out; omega)
  have HIn14_f := Lib.hid (own_far HFf3.out hge)
  have HIn14_s := Lib.hid (SO.far HFs.out hge)
  have HS4 := Lib.hid (Since.trans HS3.out hb)
  have HFf4 := Lib.hid (keep_own hb HFf3.out)
  have HFs4 := Lib.hid (SO.keep hb HFs.out)
  clear HS3 HFf3 HFs
  clear hb hge
  have HBn144 := Lib.hid hB
  clear hB
  refine wpList_wp (by rfl) (fun K hK => ?_)
  (try go_simp)
  refine (feedV w.heap.size bn12 0 ([]) [bn12] (some ⟨bn14, 0, none⟩) 1 1 ([0]) _ HFs4.out (bv_blk (zs := [0]) HBn144.out rfl (by decide) (by intro z hz; simp at hz; subst hz; unfold isB; omega)) (by decide) 1 ([0]) rfl rfl).mono ?_
  rintro e w5 ⟨Ss_1, rfl, hobj, hupd, hfar⟩
  (try go_wp2_with fail)
  refine hK.out _ _ ?_
  clear hK K
  (try simp only [Act.put, sA, sB, sC])
  have HS5 := Lib.hid (Since.upd HS4.out hupd (SO.low HFs4.out))
  have HBn145 := Lib.hid (Upd.blk hupd HBn144.out HIn14_s.out)
  have HIn14_s_5 := Lib.hid (nin_next hfar HIn14_s.out (Blk.lt HBn144.out))
  have HFf5 := Lib.hid (Upd.own hupd HFf4.out HDDf_s.out)
  have HDDf_s_5 := Lib.hid (dis_next hfar HDDf_s.out (own_lt HFf4.out))
  have HFs5 := Lib.hid hobj
  clear hupd hobj hfar HS4 HBn144 HFf4 HFs4
  refine wpList_nil ?_
  go_upto_region 4 with fail
  refine wp_region_lit ?_
  refine wpList_q (by rfl) (.pointer (some ⟨bn12, 0, none⟩)) ?he ?_
  case he => (first | rfl | (go_simp; (try with_reducible rfl)))
  (try simp only [Act.put, sA, sB, sC])
  refine wpList_q (by rfl) (.slice Af (1 + 6) cf) ?he ?_
  case he => (first | rfl | (go_simp; (try with_reducible rfl)))
  (try simp only [Act.put, sA, sB, sC])
  refine wpList_wp (by rfl) (fun K hK => ?_)
  (try go_simp)
  refine (feedV w.heap.size bn12 1 ([0]) Ss_1 Af (1 + 6) cf (frm [97]) _ HFs5.out (BV.of_own HFf5.out (by intro z hz; exact frm_isB (by intro z hz; simp at hz; subst hz; unfold isB; omega) z hz)) (by decide) 8 ([0] ++ frm [97]) rfl rfl).mono ?_
  rintro e w6 ⟨Ss_2, rfl, hobj, hupd, hfar⟩
  (try go_wp2_with fail)
  refine hK.out _ _ ?_
  clear hK K
  (try simp only [Act.put, sA, sB, sC])
  have HS6 := Lib.hid (Since.upd HS5.out hupd (SO.low HFs5.out))
  have HBn146 := Lib.hid (Upd.blk hupd HBn145.out HIn14_s_5.out)
  have HIn14_s_6 := Lib.hid (nin_next hfar HIn14_s_5.out (Blk.lt HBn145.out))
  have HFf6 := Lib.hid (Upd.own hupd HFf5.out HDDf_s_5.out)
  have HDDf_s_6 := Lib.hid (dis_next hfar HDDf_s_5.out (own_lt HFf5.out))
  have HFs6 := Lib.hid hobj
  clear hupd hobj hfar HS5 HBn145 HFf5 HFs5
  refine wpList_nil ?_
  go_upto_region 5 with fail
  refine wp_region_lit ?_
  refine wpList_q (by rfl) (.pointer (some ⟨bn12, 0, none⟩)) ?he ?_
  case he => (first | rfl | (go_simp; (try with_reducible rfl)))
  (try simp only [Act.put, sA, sB, sC])
  refine wpList_wp (by rfl) (fun K hK => ?_)
  (try go_simp)
  refine (nextS w.heap.size bn12 8 ([0] ++ frm [97]) ([97]) ([]) Ss_2 _ HFs6.out (by decide) 1 rfl (by intro z hz; simp at hz; subst hz; unfold isB; omega) (by rw [nextF_junk [0] _ (by intro z hz; simp at hz; subst hz; decide)]; have q := nextF_frame [97] [] (by decide) (by decide); rw [List.append_nil] at q; exact q)).mono ?_
  rintro e w7 ⟨Ss_3, Ap, cp, rfl, hobj, hupd, hfar, hbvp, hcp⟩
  (try go_wp2_with fail)
  refine hK.out _ _ ?_
  clear hK K
  (try simp only [Act.put, sA, sB, sC])
  have HS7 := Lib.hid (Since.upd HS6.out hupd (SO.low HFs6.out))
  have HBn147 := Lib.hid (Upd.blk hupd HBn146.out HIn14_s_6.out)
  have HIn14_s_7 := Lib.hid (nin_next hfar HIn14_s_6.out (Blk.lt HBn146.out))
  have HFf7 := Lib.hid (Upd.own hupd HFf6.out HDDf_s_6.out)
  have HDDf_s_7 := Lib.hid (dis_next hfar HDDf_s_6.out (own_lt HFf6.out))
  have HFs7 := Lib.hid hobj
  clear hupd hobj hfar HS6 HBn146 HFf6 HFs6
  have HBVP := Lib.hid hbvp; have HCPP := Lib.hid hcp; clear hbvp hcp
  refine wpList_q (by rfl) (.tuple #[.slice Ap 1 cp, .bool true]) ?he ?_
  case he => (first | rfl | (go_simp; (try with_reducible rfl)))
  (try simp only [Act.put, sA, sB, sC])
  refine wpList_q (by rfl) (.slice Ap 1 cp) ?he ?_
  case he => (first | rfl | (go_simp; (try with_reducible rfl)))
  (try simp only [Act.put, sA, sB, sC])
  refine wpList_q (by rfl) (.bool true) ?he ?_
  case he => (first | rfl | (go_simp; (try with_reducible rfl)))
  (try simp only [Act.put, sA, sB, sC])
  refine wpList_q (by rfl) (.slice Ap 1 cp) ?he ?_
  case he => (first | rfl | (go_simp; (try with_reducible rfl)))
  (try simp only [Act.put, sA, sB, sC])
  refine wpList_q (by rfl) (.bool true) ?he ?_
  case he => (first | rfl | (go_simp; (try with_reducible rfl)))
  (try simp only [Act.put, sA, sB, sC])
  refine wpList_nil ?_
  obtain ⟨gf, hg⟩ := own_addr HFf7.out (by decide)
  subst hg
  go_upto_region 6 with fail
  refine wp_region_lit ?_
  refine wpList_q (by rfl) (.bool true) ?he ?_
  case he => (first | rfl | (go_simp; (try with_reducible rfl)))
  (try simp only [Act.put, sA, sB, sC])
  refine wpList_q (by rfl) (.bool true) ?he ?_
  case he => (first | rfl | (go_simp; (try with_reducible rfl)))
  (try simp only [Act.put, sA, sB, sC])
  refine wpList_q (by rfl) (.slice (some ⟨gf, 0, none⟩) (1 + 6) cf) ?he ?_
  case he => (first | rfl | (go_simp; (try with_reducible rfl)))
  (try simp only [Act.put, sA, sB, sC])
  refine wpList_q (by rfl) (.int .i64 7) ?he ?_
  case he => (first | rfl | (go_simp; (try with_reducible rfl)))
  (try simp only [Act.put, sA, sB, sC])
  refine wpList_q (by rfl) (.bool true) ?he ?_
  case he => (go_simp; (try with_reducible rfl))
  (try simp only [Act.put, sA, sB, sC])
  refine wpList_q (by rfl) (.bool true) ?he ?_
  case he => (first | rfl | (go_simp; (try with_reducible rfl)))
  (try simp only [Act.put, sA, sB, sC])
  refine wpList_q (by rfl) (.bool true) ?he ?_
  case he => (first | rfl | (go_simp; (try with_reducible rfl)))
  (try simp only [Act.put, sA, sB, sC])
  refine wpList_q (by rfl) (.slice (some ⟨gf, 0, none⟩) (1 + 6) cf) ?he ?_
  case he => (first | rfl | (go_simp; (try with_reducible rfl)))
  (try simp only [Act.put, sA, sB, sC])
  refine wpList_q (by rfl) (.pointer (some ⟨gf, 0, none⟩)) ?he ?_
  case he => exact exec_index (i := 0) (s := 1) (off := 0) 22 5 _ _ rfl rfl rfl rfl (by decide) Try.underlying22 (by kernel_rfl)
  (try simp only [Act.put, sA, sB, sC])
  refine wpList_q (by rfl) (.int .u8 165) ?he ?_
  case he => exact exec_at 5 _ _ (own_rng (i := 0) (m := 7) HFf7.out (by first | rfl | (rw [List.drop_zero]; exact List.take_of_length_le (by simp [cells, frm_length]))) 0 _ rfl) rfl rfl Try.underlying5 rfl
  (try simp only [Act.put, sA, sB, sC])
  refine wpList_q (by rfl) (.bool true) ?he ?_
  case he => (go_simp; (try with_reducible rfl))
  (try simp only [Act.put, sA, sB, sC])
  refine wpList_q (by rfl) (.bool true) ?he ?_
  case he => (first | rfl | (go_simp; (try with_reducible rfl)))
  (try simp only [Act.put, sA, sB, sC])
  refine wpList_q (by rfl) (.bool true) ?he ?_
  case he => (first | rfl | (go_simp; (try with_reducible rfl)))
  (try simp only [Act.put, sA, sB, sC])
  refine wpList_q (by rfl) (.bool true) ?he ?_
  case he => (first | rfl | (go_simp; (try with_reducible rfl)))
  (try simp only [Act.put, sA, sB, sC])
  refine wpList_q (by rfl) (.bool true) ?he ?_
  case he => (first | rfl | (go_simp; (try with_reducible rfl)))
  (try simp only [Act.put, sA, sB, sC])
  refine wpList_q (by rfl) (.bool true) ?he ?_
  case he => (first | rfl | (go_simp; (try with_reducible rfl)))
  (try simp only [Act.put, sA, sB, sC])
  refine wpList_q (by rfl) (.slice Ap 1 cp) ?he ?_
  case he => (first | rfl | (go_simp; (try with_reducible rfl)))
  (try simp only [Act.put, sA, sB, sC])
  refine wpList_q (by rfl) (.string ⟨#[97]⟩) ?he ?_
  case he => (rw [show (⟨#[97]⟩ : ByteArray) = strOfNums [97] from by kernel_rfl]; exact exec_str 22 5 9 _ HBVP.out rfl rfl Try.underlying22 Try.underlying5 Try.underlying9)
  (try simp only [Act.put, sA, sB, sC])
  refine wpList_q (by rfl) (.bool true) ?he ?_
  case he => (go_simp; (first | done | rfl | decide))
  (try simp only [Act.put, sA, sB, sC])
  refine wpList_q (by rfl) (.bool true) ?he ?_
  case he => (first | rfl | (go_simp; (try with_reducible rfl)))
  (try simp only [Act.put, sA, sB, sC])
  refine wpList_q (by rfl) (.bool true) ?he ?_
  case he => (first | rfl | (go_simp; (try with_reducible rfl)))
  (try simp only [Act.put, sA, sB, sC])
  refine wpList_q (by rfl) (.pointer (some ⟨bn12, 0, none⟩)) ?he ?_
  case he => (first | rfl | (go_simp; (try with_reducible rfl)))
  (try simp only [Act.put, sA, sB, sC])
  refine wpList_wp (by rfl) (fun K hK => ?_)
  (try go_simp)
  refine (heldV w.heap.size bn12 8 [] Ss_3 _ HFs7.out (by decide) 0 rfl).mono ?_
  rintro e w8 ⟨rfl, hb⟩
  (try go_wp2_with fail)
  refine hK.out _ _ ?_
  clear hK K
  (try simp only [Act.put, sA, sB, sC])
  have HS8 := Lib.hid (Since.trans HS7.out hb)
  have HBn148 := Lib.hid (keep_blk hb HBn147.out)
  have HFf8 := Lib.hid (keep_own hb HFf7.out)
  have HFs8 := Lib.hid (SO.keep hb HFs7.out)
  clear HS7 HBn147 HFf7 HFs7
  clear hb
  refine wpList_q (by rfl) (.bool true) ?he ?_
  case he => (go_simp; (try with_reducible rfl))
  (try simp only [Act.put, sA, sB, sC])
  refine wpList_q (by rfl) (.bool true) ?he ?_
  case he => (first | rfl | (go_simp; (try with_reducible rfl)))
  (try simp only [Act.put, sA, sB, sC])
  refine wpList_q (by rfl) (.bool true) ?he ?_
  case he => (first | rfl | (go_simp; (try with_reducible rfl)))
  (try simp only [Act.put, sA, sB, sC])
  refine wpList_nil ?_
  (try go_wp2_with fail)
  go_ret
  exact ⟨rfl, HS8.out⟩
set_option maxHeartbeats 4000000 in
theorem putsLong (A : Option Addr) (n c : Nat) (zs : List Int) (w : World) (hb : BV w A n zs) (h5 : 1000 < n) : Calls Try.prog 6 #[.slice A n c] w fun e w' => e = .returned (.bool true) ∧ Since w w' := by
  have HB := Lib.hid hb
  clear hb
  have H5 := Lib.hid h5
  clear h5
  go_enter Try.func6, Try.ntmps6
  go_upto_region 1 with fail
  have HS1 := Lib.hid (Since.refl w)
  refine wp_region_lit ?_
  refine wpList_q (by rfl) (.slice A n c) ?he ?_
  case he => (first | rfl | (go_simp; (try with_reducible rfl)))
  (try simp only [Act.put, sA, sB, sC])
  refine wpList_q (by rfl) (.int .i64 (n : Int)) ?he ?_
  case he => (first | rfl | (go_simp; (try with_reducible rfl)))
  (try simp only [Act.put, sA, sB, sC])
  refine wpList_q (by rfl) (.bool true) ?he ?_
  case he => (have q0 := H5.out; go_simp; (first | done | rfl | omega))
  (try simp only [Act.put, sA, sB, sC])
  refine wpList_nil ?_
  go_upto_region 2 with fail
  refine wp_region_lit ?_
  refine wpList_wp (by rfl) (fun K hK => ?_)
  (try go_simp)
  refine (ans _).mono ?_
  rintro e w2 ⟨rfl, hb⟩
  (try go_wp2_with fail)
  refine hK.out _ _ ?_
  clear hK K
  (try simp only [Act.put, sA, sB, sC])
  have HS2 := Lib.hid (Since.trans HS1.out hb)
  clear HS1 
  clear hb
  refine wpList_q (by rfl) (.bool true) ?he ?_
  case he => (first | rfl | (go_simp; (try with_reducible rfl)))
  (try simp only [Act.put, sA, sB, sC])
  refine wpList_nil ?_
  (try go_wp2_with fail)
  go_ret
  exact ⟨rfl, HS2.out⟩
set_option maxHeartbeats 4000000 in
theorem putsLow (A : Option Addr) (n c : Nat) (zs : List Int) (w : World) (hb : BV w A n zs) (h5 : ¬ 1000 < n) (h1 : n < 1) (ho : okN (n : Int) = false) : Calls Try.prog 6 #[.slice A n c] w fun e w' => e = .returned (.bool true) ∧ Since w w' := by
  have HB := Lib.hid hb
  clear hb
  have H5 := Lib.hid h5
  clear h5
  have H1 := Lib.hid h1
  clear h1
  have HO := Lib.hid ho
  clear ho
  go_enter Try.func6, Try.ntmps6
  go_upto_region 1 with fail
  have HS1 := Lib.hid (Since.refl w)
  refine wp_region_lit ?_
  refine wpList_q (by rfl) (.slice A n c) ?he ?_
  case he => (first | rfl | (go_simp; (try with_reducible rfl)))
  (try simp only [Act.put, sA, sB, sC])
  refine wpList_q (by rfl) (.int .i64 (n : Int)) ?he ?_
  case he => (first | rfl | (go_simp; (try with_reducible rfl)))
  (try simp only [Act.put, sA, sB, sC])
  refine wpList_q (by rfl) (.bool false) ?he ?_
  case he => (have q0 := H5.out; go_simp; (first | done | rfl | omega))
  (try simp only [Act.put, sA, sB, sC])
  refine wpList_nil ?_
  go_upto_region 3 with fail
  refine wp_region_lit ?_
  refine wpList_wp (by rfl) (fun K hK => ?_)
  refine wp_new (fun b => .slice (some ⟨b, 0, none⟩) 0 0) 5 #[] (by rintro b rfl; first | rfl | kernel_rfl) ?_
  intro bn10 w2 hge hB hb
  refine hK.out _ _ ?_
  clear hK K
  (try simp only [Act.put, sA, sB, sC])
  have HGn10 := Lib.hid (show w.heap.size ≤ bn10 by have := Since.size HS1.out; omega)
  have HS2 := Lib.hid (Since.trans HS1.out hb)
  clear HS1 
  clear hb hge
  have HBn102 := Lib.hid hB
  clear hB
  refine wpList_q (by rfl) (.slice A n c) ?he ?_
  case he => (first | rfl | (go_simp; (try with_reducible rfl)))
  (try simp only [Act.put, sA, sB, sC])
  refine wpList_wp (by rfl) (fun K hK => ?_)
  have HOE := Lib.hid (own_empty (e := 5) (size := 1) HBn102.out HGn10.out)
  clear HBn102
  refine wp_append_row (.tmp 10) (.tmp 11) 22 rfl w.heap.size 5 (Value.int .u8 0) 1 1 Try.underlying22 (by kernel_rfl) rfl (by decide) (by decide) (some ⟨bn10, 0, none⟩) 0 0 ([]) rfl HOE.out _ A n c (cells zs) rfl (bv_reads (keep_bv HS2.out HB.out)) (Byt.cells_one zs) (by have := H5.out; omega) (Since.size HS2.out) n (cells zs) (Nat.zero_add _) rfl ?_
  intro A_1 c_1 w3 hown hupd hfar
  refine hK.out _ _ ?_
  clear hK K
  (try simp only [Act.put, sA, sB, sC])
  have HS3 := Lib.hid (Since.upd HS2.out hupd (own_low HOE.out))
  have HFr3 := Lib.hid hown
  clear hupd hown hfar HS2 HOE
  refine wpList_wp (by rfl) (fun K hK => ?_)
  (try go_simp)
  refine (putNo A_1 n c_1 zs _ (BV.of_own HFr3.out HB.out.2.2.1) HO.out).mono ?_
  rintro e w4 ⟨rfl, hb⟩
  (try go_wp2_with fail)
  refine hK.out _ _ ?_
  clear hK K
  (try simp only [Act.put, sA, sB, sC])
  have HS4 := Lib.hid (Since.trans HS3.out hb)
  have HFr4 := Lib.hid (keep_own hb HFr3.out)
  clear HS3 HFr3
  clear hb
  refine wpList_q (by rfl) (.tuple #[.slice none 0 0, .bool false]) ?he ?_
  case he => (first | rfl | (go_simp; (try with_reducible rfl)))
  (try simp only [Act.put, sA, sB, sC])
  refine wpList_q (by rfl) (.slice none 0 0) ?he ?_
  case he => (first | rfl | (go_simp; (try with_reducible rfl)))
  (try simp only [Act.put, sA, sB, sC])
  refine wpList_q (by rfl) (.bool false) ?he ?_
  case he => (first | rfl | (go_simp; (try with_reducible rfl)))
  (try simp only [Act.put, sA, sB, sC])
  refine wpList_q (by rfl) (.slice none 0 0) ?he ?_
  case he => (first | rfl | (go_simp; (try with_reducible rfl)))
  (try simp only [Act.put, sA, sB, sC])
  refine wpList_q (by rfl) (.bool false) ?he ?_
  case he => (first | rfl | (go_simp; (try with_reducible rfl)))
  (try simp only [Act.put, sA, sB, sC])
  refine wpList_nil ?_
  go_upto_region 4 with fail
  refine wp_region_lit ?_
  refine wpList_q (by rfl) (.slice A n c) ?he ?_
  case he => (first | rfl | (go_simp; (try with_reducible rfl)))
  (try simp only [Act.put, sA, sB, sC])
  refine wpList_q (by rfl) (.int .i64 (n : Int)) ?he ?_
  case he => (first | rfl | (go_simp; (try with_reducible rfl)))
  (try simp only [Act.put, sA, sB, sC])
  refine wpList_q (by rfl) (.bool true) ?he ?_
  case he => (have q0 := H1.out; go_simp; (first | done | rfl | omega))
  (try simp only [Act.put, sA, sB, sC])
  refine wpList_q (by rfl) (.bool true) ?he ?_
  case he => (first | rfl | (go_simp; (try with_reducible rfl)))
  (try simp only [Act.put, sA, sB, sC])
  refine wpList_no (by rfl) ?_
  (try simp only [Act.put, sA, sB, sC])
  refine wpList_no (by rfl) ?_
  (try simp only [Act.put, sA, sB, sC])
  refine wpList_no (by rfl) ?_
  (try simp only [Act.put, sA, sB, sC])
  refine wpList_q (by rfl) (.bool true) ?he ?_
  case he => (first | rfl | (go_simp; (try with_reducible rfl)))
  (try simp only [Act.put, sA, sB, sC])
  refine wpList_nil ?_
  go_upto_region 5 with fail
  refine wp_region_lit ?_
  refine wpList_wp (by rfl) (fun K hK => ?_)
  (try go_simp)
  refine (ans _).mono ?_
  rintro e w5 ⟨rfl, hb⟩
  (try go_wp2_with fail)
  refine hK.out _ _ ?_
  clear hK K
  (try simp only [Act.put, sA, sB, sC])
  have HS5 := Lib.hid (Since.trans HS4.out hb)
  have HFr5 := Lib.hid (keep_own hb HFr4.out)
  clear HS4 HFr4
  clear hb
  refine wpList_q (by rfl) (.bool true) ?he ?_
  case he => (first | rfl | (go_simp; (try with_reducible rfl)))
  (try simp only [Act.put, sA, sB, sC])
  refine wpList_q (by rfl) (.bool false) ?he ?_
  case he => (first | rfl | (go_simp; (try with_reducible rfl)))
  (try simp only [Act.put, sA, sB, sC])
  refine wpList_q (by rfl) (.bool true) ?he ?_
  case he => (go_simp; (try with_reducible rfl))
  (try simp only [Act.put, sA, sB, sC])
  refine wpList_q (by rfl) (.bool true) ?he ?_
  case he => (first | rfl | (go_simp; (try with_reducible rfl)))
  (try simp only [Act.put, sA, sB, sC])
  refine wpList_q (by rfl) (.bool true) ?he ?_
  case he => (first | rfl | (go_simp; (try with_reducible rfl)))
  (try simp only [Act.put, sA, sB, sC])
  refine wpList_q (by rfl) (.slice none 0 0) ?he ?_
  case he => (first | rfl | (go_simp; (try with_reducible rfl)))
  (try simp only [Act.put, sA, sB, sC])
  refine wpList_q (by rfl) (.int .i64 0) ?he ?_
  case he => (first | rfl | (go_simp; (try with_reducible rfl)))
  (try simp only [Act.put, sA, sB, sC])
  refine wpList_q (by rfl) (.bool true) ?he ?_
  case he => (go_simp; (try with_reducible rfl))
  (try simp only [Act.put, sA, sB, sC])
  refine wpList_q (by rfl) (.bool true) ?he ?_
  case he => (first | rfl | (go_simp; (try with_reducible rfl)))
  (try simp only [Act.put, sA, sB, sC])
  refine wpList_q (by rfl) (.bool true) ?he ?_
  case he => (first | rfl | (go_simp; (try with_reducible rfl)))
  (try simp only [Act.put, sA, sB, sC])
  refine wpList_nil ?_
  (try go_wp2_with fail)
  go_ret
  exact ⟨rfl, HS5.out⟩
set_option maxHeartbeats 4000000 in
theorem putsHigh (A : Option Addr) (n c : Nat) (zs : List Int) (w : World) (hb : BV w A n zs) (h5 : ¬ 1000 < n) (h1 : ¬ n < 1) (h6 : 64 < n) (ho : okN (n : Int) = false) : Calls Try.prog 6 #[.slice A n c] w fun e w' => e = .returned (.bool true) ∧ Since w w' := by
  have HB := Lib.hid hb
  clear hb
  have H5 := Lib.hid h5
  clear h5
  have H1 := Lib.hid h1
  clear h1
  have H6 := Lib.hid h6
  clear h6
  have HO := Lib.hid ho
  clear ho
  go_enter Try.func6, Try.ntmps6
  go_upto_region 1 with fail
  have HS1 := Lib.hid (Since.refl w)
  refine wp_region_lit ?_
  refine wpList_q (by rfl) (.slice A n c) ?he ?_
  case he => (first | rfl | (go_simp; (try with_reducible rfl)))
  (try simp only [Act.put, sA, sB, sC])
  refine wpList_q (by rfl) (.int .i64 (n : Int)) ?he ?_
  case he => (first | rfl | (go_simp; (try with_reducible rfl)))
  (try simp only [Act.put, sA, sB, sC])
  refine wpList_q (by rfl) (.bool false) ?he ?_
  case he => (have q0 := H5.out; go_simp; (first | done | rfl | omega))
  (try simp only [Act.put, sA, sB, sC])
  refine wpList_nil ?_
  go_upto_region 3 with fail
  refine wp_region_lit ?_
  refine wpList_wp (by rfl) (fun K hK => ?_)
  refine wp_new (fun b => .slice (some ⟨b, 0, none⟩) 0 0) 5 #[] (by rintro b rfl; first | rfl | kernel_rfl) ?_
  intro bn10 w2 hge hB hb
  refine hK.out _ _ ?_
  clear hK K
  (try simp only [Act.put, sA, sB, sC])
  have HGn10 := Lib.hid (show w.heap.size ≤ bn10 by have := Since.size HS1.out; omega)
  have HS2 := Lib.hid (Since.trans HS1.out hb)
  clear HS1 
  clear hb hge
  have HBn102 := Lib.hid hB
  clear hB
  refine wpList_q (by rfl) (.slice A n c) ?he ?_
  case he => (first | rfl | (go_simp; (try with_reducible rfl)))
  (try simp only [Act.put, sA, sB, sC])
  refine wpList_wp (by rfl) (fun K hK => ?_)
  have HOE := Lib.hid (own_empty (e := 5) (size := 1) HBn102.out HGn10.out)
  clear HBn102
  refine wp_append_row (.tmp 10) (.tmp 11) 22 rfl w.heap.size 5 (Value.int .u8 0) 1 1 Try.underlying22 (by kernel_rfl) rfl (by decide) (by decide) (some ⟨bn10, 0, none⟩) 0 0 ([]) rfl HOE.out _ A n c (cells zs) rfl (bv_reads (keep_bv HS2.out HB.out)) (Byt.cells_one zs) (by have := H5.out; omega) (Since.size HS2.out) n (cells zs) (Nat.zero_add _) rfl ?_
  intro A_1 c_1 w3 hown hupd hfar
  refine hK.out _ _ ?_
  clear hK K
  (try simp only [Act.put, sA, sB, sC])
  have HS3 := Lib.hid (Since.upd HS2.out hupd (own_low HOE.out))
  have HFr3 := Lib.hid hown
  clear hupd hown hfar HS2 HOE
  refine wpList_wp (by rfl) (fun K hK => ?_)
  (try go_simp)
  refine (putNo A_1 n c_1 zs _ (BV.of_own HFr3.out HB.out.2.2.1) HO.out).mono ?_
  rintro e w4 ⟨rfl, hb⟩
  (try go_wp2_with fail)
  refine hK.out _ _ ?_
  clear hK K
  (try simp only [Act.put, sA, sB, sC])
  have HS4 := Lib.hid (Since.trans HS3.out hb)
  have HFr4 := Lib.hid (keep_own hb HFr3.out)
  clear HS3 HFr3
  clear hb
  refine wpList_q (by rfl) (.tuple #[.slice none 0 0, .bool false]) ?he ?_
  case he => (first | rfl | (go_simp; (try with_reducible rfl)))
  (try simp only [Act.put, sA, sB, sC])
  refine wpList_q (by rfl) (.slice none 0 0) ?he ?_
  case he => (first | rfl | (go_simp; (try with_reducible rfl)))
  (try simp only [Act.put, sA, sB, sC])
  refine wpList_q (by rfl) (.bool false) ?he ?_
  case he => (first | rfl | (go_simp; (try with_reducible rfl)))
  (try simp only [Act.put, sA, sB, sC])
  refine wpList_q (by rfl) (.slice none 0 0) ?he ?_
  case he => (first | rfl | (go_simp; (try with_reducible rfl)))
  (try simp only [Act.put, sA, sB, sC])
  refine wpList_q (by rfl) (.bool false) ?he ?_
  case he => (first | rfl | (go_simp; (try with_reducible rfl)))
  (try simp only [Act.put, sA, sB, sC])
  refine wpList_nil ?_
  go_upto_region 4 with fail
  refine wp_region_lit ?_
  refine wpList_q (by rfl) (.slice A n c) ?he ?_
  case he => (first | rfl | (go_simp; (try with_reducible rfl)))
  (try simp only [Act.put, sA, sB, sC])
  refine wpList_q (by rfl) (.int .i64 (n : Int)) ?he ?_
  case he => (first | rfl | (go_simp; (try with_reducible rfl)))
  (try simp only [Act.put, sA, sB, sC])
  refine wpList_q (by rfl) (.bool false) ?he ?_
  case he => (have q0 := H1.out; go_simp; (first | done | rfl | omega))
  (try simp only [Act.put, sA, sB, sC])
  refine wpList_q (by rfl) (.bool false) ?he ?_
  case he => (first | rfl | (go_simp; (try with_reducible rfl)))
  (try simp only [Act.put, sA, sB, sC])
  refine wpList_q (by rfl) (.slice A n c) ?he ?_
  case he => (first | rfl | (go_simp; (try with_reducible rfl)))
  (try simp only [Act.put, sA, sB, sC])
  refine wpList_q (by rfl) (.int .i64 (n : Int)) ?he ?_
  case he => (first | rfl | (go_simp; (try with_reducible rfl)))
  (try simp only [Act.put, sA, sB, sC])
  refine wpList_q (by rfl) (.bool true) ?he ?_
  case he => (have q0 := H6.out; go_simp; (first | done | rfl | omega))
  (try simp only [Act.put, sA, sB, sC])
  refine wpList_q (by rfl) (.bool true) ?he ?_
  case he => (first | rfl | (go_simp; (try with_reducible rfl)))
  (try simp only [Act.put, sA, sB, sC])
  refine wpList_nil ?_
  go_upto_region 5 with fail
  refine wp_region_lit ?_
  refine wpList_wp (by rfl) (fun K hK => ?_)
  (try go_simp)
  refine (ans _).mono ?_
  rintro e w5 ⟨rfl, hb⟩
  (try go_wp2_with fail)
  refine hK.out _ _ ?_
  clear hK K
  (try simp only [Act.put, sA, sB, sC])
  have HS5 := Lib.hid (Since.trans HS4.out hb)
  have HFr5 := Lib.hid (keep_own hb HFr4.out)
  clear HS4 HFr4
  clear hb
  refine wpList_q (by rfl) (.bool true) ?he ?_
  case he => (first | rfl | (go_simp; (try with_reducible rfl)))
  (try simp only [Act.put, sA, sB, sC])
  refine wpList_q (by rfl) (.bool false) ?he ?_
  case he => (first | rfl | (go_simp; (try with_reducible rfl)))
  (try simp only [Act.put, sA, sB, sC])
  refine wpList_q (by rfl) (.bool true) ?he ?_
  case he => (go_simp; (try with_reducible rfl))
  (try simp only [Act.put, sA, sB, sC])
  refine wpList_q (by rfl) (.bool true) ?he ?_
  case he => (first | rfl | (go_simp; (try with_reducible rfl)))
  (try simp only [Act.put, sA, sB, sC])
  refine wpList_q (by rfl) (.bool true) ?he ?_
  case he => (first | rfl | (go_simp; (try with_reducible rfl)))
  (try simp only [Act.put, sA, sB, sC])
  refine wpList_q (by rfl) (.slice none 0 0) ?he ?_
  case he => (first | rfl | (go_simp; (try with_reducible rfl)))
  (try simp only [Act.put, sA, sB, sC])
  refine wpList_q (by rfl) (.int .i64 0) ?he ?_
  case he => (first | rfl | (go_simp; (try with_reducible rfl)))
  (try simp only [Act.put, sA, sB, sC])
  refine wpList_q (by rfl) (.bool true) ?he ?_
  case he => (go_simp; (try with_reducible rfl))
  (try simp only [Act.put, sA, sB, sC])
  refine wpList_q (by rfl) (.bool true) ?he ?_
  case he => (first | rfl | (go_simp; (try with_reducible rfl)))
  (try simp only [Act.put, sA, sB, sC])
  refine wpList_q (by rfl) (.bool true) ?he ?_
  case he => (first | rfl | (go_simp; (try with_reducible rfl)))
  (try simp only [Act.put, sA, sB, sC])
  refine wpList_nil ?_
  (try go_wp2_with fail)
  go_ret
  exact ⟨rfl, HS5.out⟩
set_option maxHeartbeats 4000000 in
theorem putsOk (A : Option Addr) (n c : Nat) (zs : List Int) (w : World) (hb : BV w A n zs) (h5 : ¬ 1000 < n) (h1 : ¬ n < 1) (h6 : ¬ 64 < n) (ho : okN (n : Int) = true) : Calls Try.prog 6 #[.slice A n c] w fun e w' => e = .returned (.bool true) ∧ Since w w' := by
  have HB := Lib.hid hb
  clear hb
  have H5 := Lib.hid h5
  clear h5
  have H1 := Lib.hid h1
  clear h1
  have H6 := Lib.hid h6
  clear h6
  have HO := Lib.hid ho
  clear ho
  go_enter Try.func6, Try.ntmps6
  go_upto_region 1 with fail
  have HS1 := Lib.hid (Since.refl w)
  refine wp_region_lit ?_
  refine wpList_q (by rfl) (.slice A n c) ?he ?_
  case he => (first | rfl | (go_simp; (try with_reducible rfl)))
  (try simp only [Act.put, sA, sB, sC])
  refine wpList_q (by rfl) (.int .i64 (n : Int)) ?he ?_
  case he => (first | rfl | (go_simp; (try with_reducible rfl)))
  (try simp only [Act.put, sA, sB, sC])
  refine wpList_q (by rfl) (.bool false) ?he ?_
  case he => (have q0 := H5.out; go_simp; (first | done | rfl | omega))
  (try simp only [Act.put, sA, sB, sC])
  refine wpList_nil ?_
  go_upto_region 3 with fail
  refine wp_region_lit ?_
  refine wpList_wp (by rfl) (fun K hK => ?_)
  refine wp_new (fun b => .slice (some ⟨b, 0, none⟩) 0 0) 5 #[] (by rintro b rfl; first | rfl | kernel_rfl) ?_
  intro bn10 w2 hge hB hb
  refine hK.out _ _ ?_
  clear hK K
  (try simp only [Act.put, sA, sB, sC])
  have HGn10 := Lib.hid (show w.heap.size ≤ bn10 by have := Since.size HS1.out; omega)
  have HS2 := Lib.hid (Since.trans HS1.out hb)
  clear HS1 
  clear hb hge
  have HBn102 := Lib.hid hB
  clear hB
  refine wpList_q (by rfl) (.slice A n c) ?he ?_
  case he => (first | rfl | (go_simp; (try with_reducible rfl)))
  (try simp only [Act.put, sA, sB, sC])
  refine wpList_wp (by rfl) (fun K hK => ?_)
  have HOE := Lib.hid (own_empty (e := 5) (size := 1) HBn102.out HGn10.out)
  clear HBn102
  refine wp_append_row (.tmp 10) (.tmp 11) 22 rfl w.heap.size 5 (Value.int .u8 0) 1 1 Try.underlying22 (by kernel_rfl) rfl (by decide) (by decide) (some ⟨bn10, 0, none⟩) 0 0 ([]) rfl HOE.out _ A n c (cells zs) rfl (bv_reads (keep_bv HS2.out HB.out)) (Byt.cells_one zs) (by have := H5.out; omega) (Since.size HS2.out) n (cells zs) (Nat.zero_add _) rfl ?_
  intro A_1 c_1 w3 hown hupd hfar
  refine hK.out _ _ ?_
  clear hK K
  (try simp only [Act.put, sA, sB, sC])
  have HS3 := Lib.hid (Since.upd HS2.out hupd (own_low HOE.out))
  have HFr3 := Lib.hid hown
  clear hupd hown hfar HS2 HOE
  refine wpList_wp (by rfl) (fun K hK => ?_)
  (try go_simp)
  refine (putV A_1 n c_1 zs _ (BV.of_own HFr3.out HB.out.2.2.1) HO.out).mono ?_
  rintro e w4 ⟨Af, cf, rfl, hown, hb⟩
  (try go_wp2_with fail)
  refine hK.out _ _ ?_
  clear hK K
  (try simp only [Act.put, sA, sB, sC])
  have HDDr_f := Lib.hid (show ∀ g ∈ (blkOf A_1), g ∉ blkOf Af from fun g hg hA => by have q1 := own_lt HFr3.out g hg; have q2 := own_low hown g hA; omega)
  have hown2 := own_base (lo' := w.heap.size) hown (Since.size HS3.out)
  have HS4 := Lib.hid (Since.trans HS3.out hb)
  have HFr4 := Lib.hid (keep_own hb HFr3.out)
  clear HS3 HFr3
  clear hb
  have HFf := Lib.hid hown2
  clear hown hown2
  refine wpList_q (by rfl) (.tuple #[.slice Af (n + 6) cf, .bool true]) ?he ?_
  case he => (first | rfl | (go_simp; (try with_reducible rfl)))
  (try simp only [Act.put, sA, sB, sC])
  refine wpList_q (by rfl) (.slice Af (n + 6) cf) ?he ?_
  case he => (first | rfl | (go_simp; (try with_reducible rfl)))
  (try simp only [Act.put, sA, sB, sC])
  refine wpList_q (by rfl) (.bool true) ?he ?_
  case he => (first | rfl | (go_simp; (try with_reducible rfl)))
  (try simp only [Act.put, sA, sB, sC])
  refine wpList_q (by rfl) (.slice Af (n + 6) cf) ?he ?_
  case he => (first | rfl | (go_simp; (try with_reducible rfl)))
  (try simp only [Act.put, sA, sB, sC])
  refine wpList_q (by rfl) (.bool true) ?he ?_
  case he => (first | rfl | (go_simp; (try with_reducible rfl)))
  (try simp only [Act.put, sA, sB, sC])
  refine wpList_nil ?_
  go_upto_region 4 with fail
  refine wp_region_lit ?_
  refine wpList_q (by rfl) (.slice A n c) ?he ?_
  case he => (first | rfl | (go_simp; (try with_reducible rfl)))
  (try simp only [Act.put, sA, sB, sC])
  refine wpList_q (by rfl) (.int .i64 (n : Int)) ?he ?_
  case he => (first | rfl | (go_simp; (try with_reducible rfl)))
  (try simp only [Act.put, sA, sB, sC])
  refine wpList_q (by rfl) (.bool false) ?he ?_
  case he => (have q0 := H1.out; go_simp; (first | done | rfl | omega))
  (try simp only [Act.put, sA, sB, sC])
  refine wpList_q (by rfl) (.bool false) ?he ?_
  case he => (first | rfl | (go_simp; (try with_reducible rfl)))
  (try simp only [Act.put, sA, sB, sC])
  refine wpList_q (by rfl) (.slice A n c) ?he ?_
  case he => (first | rfl | (go_simp; (try with_reducible rfl)))
  (try simp only [Act.put, sA, sB, sC])
  refine wpList_q (by rfl) (.int .i64 (n : Int)) ?he ?_
  case he => (first | rfl | (go_simp; (try with_reducible rfl)))
  (try simp only [Act.put, sA, sB, sC])
  refine wpList_q (by rfl) (.bool false) ?he ?_
  case he => (have q0 := H6.out; go_simp; (first | done | rfl | omega))
  (try simp only [Act.put, sA, sB, sC])
  refine wpList_q (by rfl) (.bool false) ?he ?_
  case he => (first | rfl | (go_simp; (try with_reducible rfl)))
  (try simp only [Act.put, sA, sB, sC])
  refine wpList_nil ?_
  go_upto_region 6 with fail
  have hrK : ∀ W W' : World, Since W W' → (Since w W ∧ (W).ownsRow w.heap.size 5 1 (.slice Af (n + 6) cf) (n + 6) (cells (frm zs))) → (Since w W' ∧ (W').ownsRow w.heap.size 5 1 (.slice Af (n + 6) cf) (n + 6) (cells (frm zs))) := fun W W' k ⟨h, h0⟩ => ⟨h.trans k, keep_own k h0⟩
  have hrS : (fun W : World => Since w W ∧ (W).ownsRow w.heap.size 5 1 (.slice Af (n + 6) cf) (n + 6) (cells (frm zs))) w4 := ⟨HS4.out, HFf.out⟩
  have HRK := Lib.hid hrK
  have HRD := Lib.hid (show (fun W : World => Since w W ∧ (W).ownsRow w.heap.size 5 1 (.slice Af (n + 6) cf) (n + 6) (cells (frm zs))) (World.drew w4) from ⟨Since.drew hrS.1, hrS.2⟩)
  clear hrK hrS
  refine wp_region_held_drew (S := fun W : World => Since w W ∧ (W).ownsRow w.heap.size 5 1 (.slice Af (n + 6) cf) (n + 6) (cells (frm zs))) (by kernel_rfl) HRD.out (fun hHeld => ?_)
  refine wpAnyH_ready (rs := [0]) (by kernel_rfl) (by simp) ?_
  refine AllReadyH.cons (o := ?o6__0) ?h6__0 (fun K hK => ?_) AllReadyH.nil
  case h6__0 => (first | (simp only [gA, gB, gC]; done) | (simp only [gA, gB, gC]; exact rfl))
  (try go_simp)
  refine (ans _).mono ?_
  rintro e w5 ⟨rfl, hb⟩
  (try go_wp2_with fail)
  refine hK.out _ _ (by (apply HRK.out; exact hb; exact hHeld)) (fun hHeld2 => ?_)
  clear hK K hHeld hb
  have hHeld := hHeld2
  clear hHeld2
  (try simp only [Act.put, sA, sB, sC])
  refine wpAnyH_take (i := 1) (oi := ?o6__1) (v := .bool true) ?h6__1 (by kernel_rfl) (by kernel_rfl) (by kernel_rfl) ?q6__1 ?y6__1 (by assumption) ?_
  case h6__1 => (first | (simp only [gA, gB, gC]; done) | (simp only [gA, gB, gC]; exact rfl))
  case q6__1 => exact fun _ _ _ h => h
  case y6__1 => (refine Or.inl ⟨rfl, ?_⟩; intro w hSw; (first | rfl | (go_simp; (try with_reducible rfl))))
  (try simp only [Act.put, sA, sB, sC])
  refine wpAnyH_take (i := 2) (oi := ?o6__2) (v := .bool true) ?h6__2 (by kernel_rfl) (by kernel_rfl) (by kernel_rfl) ?q6__2 ?y6__2 (by assumption) ?_
  case h6__2 => (first | (simp only [gA, gB, gC]; done) | (simp only [gA, gB, gC]; exact rfl))
  case q6__2 => exact fun _ _ _ h => h
  case y6__2 => (refine Or.inl ⟨rfl, ?_⟩; intro w hSw; (first | rfl | (go_simp; (try with_reducible rfl))))
  (try simp only [Act.put, sA, sB, sC])
  refine wpAnyH_take (i := 3) (oi := ?o6__3) (v := .bool true) ?h6__3 (by kernel_rfl) (by kernel_rfl) (by kernel_rfl) ?q6__3 ?y6__3 (by assumption) ?_
  case h6__3 => (first | (simp only [gA, gB, gC]; done) | (simp only [gA, gB, gC]; exact rfl))
  case q6__3 => exact fun _ _ _ h => h
  case y6__3 => (refine Or.inl ⟨rfl, ?_⟩; intro w hSw; (first | rfl | (go_simp; (try with_reducible rfl))))
  (try simp only [Act.put, sA, sB, sC])
  refine wpAnyH_take (i := 4) (oi := ?o6__4) (v := .bool true) ?h6__4 (by kernel_rfl) (by kernel_rfl) (by kernel_rfl) ?q6__4 ?y6__4 (by assumption) ?_
  case h6__4 => (first | (simp only [gA, gB, gC]; done) | (simp only [gA, gB, gC]; exact rfl))
  case q6__4 => exact fun _ _ _ h => h
  case y6__4 => (refine Or.inl ⟨rfl, ?_⟩; intro w hSw; (first | rfl | (go_simp; (try with_reducible rfl))))
  (try simp only [Act.put, sA, sB, sC])
  refine wpAnyH_take (i := 5) (oi := ?o6__5) (v := .slice Af (n + 6) cf) ?h6__5 (by kernel_rfl) (by kernel_rfl) (by kernel_rfl) ?q6__5 ?y6__5 (by assumption) ?_
  case h6__5 => (first | (simp only [gA, gB, gC]; done) | (simp only [gA, gB, gC]; exact rfl))
  case q6__5 => exact fun _ _ _ h => h
  case y6__5 => (refine Or.inl ⟨rfl, ?_⟩; intro w hSw; (first | rfl | (go_simp; (try with_reducible rfl))))
  (try simp only [Act.put, sA, sB, sC])
  refine wpAnyH_take (i := 6) (oi := ?o6__6) (v := .string (strOfNums (frm zs))) ?h6__6 (by kernel_rfl) (by kernel_rfl) (by kernel_rfl) ?q6__6 ?y6__6 (by assumption) ?_
  case h6__6 => (first | (simp only [gA, gB, gC]; done) | (simp only [gA, gB, gC]; exact rfl))
  case q6__6 => exact fun _ _ _ h => h
  case y6__6 => (refine Or.inl ⟨rfl, ?_⟩; intro w hSw; exact exec_str 22 5 9 _ (BV.of_own hSw.2 (frm_isB HB.out.2.2.1)) rfl rfl Try.underlying22 Try.underlying5 Try.underlying9)
  (try simp only [Act.put, sA, sB, sC])
  refine wpAnyH_take (i := 7) (oi := ?o6__7) (v := .slice A n c) ?h6__7 (by kernel_rfl) (by kernel_rfl) (by kernel_rfl) ?q6__7 ?y6__7 (by assumption) ?_
  case h6__7 => (first | (simp only [gA, gB, gC]; done) | (simp only [gA, gB, gC]; exact rfl))
  case q6__7 => exact fun _ _ _ h => h
  case y6__7 => (refine Or.inl ⟨rfl, ?_⟩; intro w hSw; (first | rfl | (go_simp; (try with_reducible rfl))))
  (try simp only [Act.put, sA, sB, sC])
  refine wpAnyH_ready (rs := [8]) (by kernel_rfl) (by simp) ?_
  refine AllReadyH.cons (o := ?o6__8) ?h6__8 (fun K hK => ?_) AllReadyH.nil
  case h6__8 => (first | (simp only [gA, gB, gC]; done) | (simp only [gA, gB, gC]; exact rfl))
  (try go_simp)
  refine (frameV A n c zs _ (keep_bv hHeld.1 HB.out) (by have := H5.out; omega)).mono ?_
  rintro e w6 ⟨A2, c2, rfl, hown, hb⟩
  (try go_wp2_with fail)
  refine hK.out _ _ (by (apply HRK.out; exact hb; exact hHeld)) (fun hHeld2 => ?_)
  have HBV2 := Lib.hid (BV.of_own hown (frm_isB HB.out.2.2.1))
  clear hown
  clear hK K hHeld hb
  have hHeld := hHeld2
  clear hHeld2
  (try simp only [Act.put, sA, sB, sC])
  refine wpAnyH_ready (rs := [9]) (by kernel_rfl) (by simp) ?_
  refine AllReadyH.cons (o := ?o6__9) ?h6__9 (fun K hK => ?_) AllReadyH.nil
  case h6__9 => (first | (simp only [gA, gB, gC]; done) | (simp only [gA, gB, gC]; exact rfl))
  rw [if_pos (by rfl)]
  refine wp_q (.string (strOfNums (frm zs))) ?e6__9 ?_
  case e6__9 => exact exec_str 22 5 9 _ HBV2.out rfl rfl Try.underlying22 Try.underlying5 Try.underlying9
  refine hK.out _ _ hHeld (fun hHeld2 => ?_)
  clear hK K hHeld2
  (try simp only [Act.put, sA, sB, sC])
  refine wpAnyH_take (i := 10) (oi := ?o6__10) (v := .bool true) ?h6__10 (by kernel_rfl) (by kernel_rfl) (by kernel_rfl) ?q6__10 ?y6__10 (by assumption) ?_
  case h6__10 => (first | (simp only [gA, gB, gC]; done) | (simp only [gA, gB, gC]; exact rfl))
  case q6__10 => exact fun _ _ _ h => h
  case y6__10 => (refine Or.inl ⟨rfl, ?_⟩; intro w hSw; (go_simp; (first | done | rfl)))
  (try simp only [Act.put, sA, sB, sC])
  refine wpAnyH_take (i := 11) (oi := ?o6__11) (v := .bool true) ?h6__11 (by kernel_rfl) (by kernel_rfl) (by kernel_rfl) ?q6__11 ?y6__11 (by assumption) ?_
  case h6__11 => (first | (simp only [gA, gB, gC]; done) | (simp only [gA, gB, gC]; exact rfl))
  case q6__11 => exact fun _ _ _ h => h
  case y6__11 => (refine Or.inl ⟨rfl, ?_⟩; intro w hSw; (first | rfl | (go_simp; (try with_reducible rfl))))
  (try simp only [Act.put, sA, sB, sC])
  refine wpAnyH_take (i := 12) (oi := ?o6__12) (v := .bool true) ?h6__12 (by kernel_rfl) (by kernel_rfl) (by kernel_rfl) ?q6__12 ?y6__12 (by assumption) ?_
  case h6__12 => (first | (simp only [gA, gB, gC]; done) | (simp only [gA, gB, gC]; exact rfl))
  case q6__12 => exact fun _ _ _ h => h
  case y6__12 => (refine Or.inl ⟨rfl, ?_⟩; intro w hSw; (first | rfl | (go_simp; (try with_reducible rfl))))
  (try simp only [Act.put, sA, sB, sC])
  refine wpAnyH_done (by kernel_rfl) ?_ _
  have HSd6 := Lib.hid hHeld.1
  have HFfd6 := Lib.hid (hHeld.2)
  clear hHeld HRK HRD HS4 HFf
  (try go_wp2_with fail)
  go_ret
  exact ⟨rfl, HSd6.out⟩
theorem puts (A : Option Addr) (n c : Nat) (zs : List Int) (w : World) (hb : BV w A n zs) : Calls Try.prog 6 #[.slice A n c] w fun e w' => e = .returned (.bool true) ∧ Since w w' := by
  by_cases h5 : 1000 < n
  · exact putsLong A n c zs w hb h5
  · by_cases h1 : n < 1
    · exact putsLow A n c zs w hb h5 h1 (decide_eq_false (by omega))
    · by_cases h6 : 64 < n
      · exact putsHigh A n c zs w hb h5 h1 h6 (decide_eq_false (by omega))
      · exact putsOk A n c zs w hb h5 h1 h6 (decide_eq_true (by omega))
end Go.Proofs.Ytfggnchfkoifeaa.Fq
