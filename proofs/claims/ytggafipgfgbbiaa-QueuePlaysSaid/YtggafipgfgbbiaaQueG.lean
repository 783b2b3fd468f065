/-
  a model's small functions: walked.
  Conditions: what stands ahead of each.
-/
import Derived.Test.YtggafipgfgbbiaaProg
import Derived.Test.YtggafipgfgbbiaaShort
import Derived.Test.YtggafipgfgbbiaaCut
import Derived.Test.YtggafipgfgbbiaaQuP
import Derived.Test.YtggafipgfgbbiaaQueC
namespace Go.Proofs.Ytggafipgfgbbiaa.Qu
set_option linter.unusedVariables false
set_option linter.unusedSimpArgs false
open Go.RowKit Go.Proofs.Ytggafipgfgbbiaa.Ba Go.Proofs.Ytggafipgfgbbiaa.Mem Go.Proofs.Ytggafipgfgbbiaa.Ty
set_option maxRecDepth 100000
attribute [local irreducible] Go.wpList
theorem row_q {w : World} {lo g n c i : Nat} {ls : List AskV} {a : AskV} (h : w.ownsRow lo 30 5 (.slice (some ⟨g, 0, none⟩) n c) n (rowsOf askC ls)) (hi : ls[i]? = some a) : ∀ j v, (askC a)[j]? = some v → w.cell? ⟨g, 0 + i * 5 + j, none⟩ = some v := by
  obtain ⟨h1, h2⟩ := List.getElem?_eq_some_iff.1 hi
  rw [← h2, Nat.zero_add]
  exact own_rng h (rowsOf_at askC_len h1)
set_option maxHeartbeats 4000000 in
theorem nearA (n lo hi : Int) (w : World) (h0 : n < lo) : Calls Try.prog 63 #[.int .i64 n, .int .i64 lo, .int .i64 hi] w fun e w' => e = .returned (.int .i64 lo) ∧ w = w' := by
 have H0 := Lib.hid h0
 clear h0
 go_enter Try.func63, Try.ntmps63
 go_upto_region 1 with fail
 have HS1 := Lib.hid (Since.refl w)
 refine wp_region_lit ?_
 refine tkL (.int .i64 n) (h := ?_)
 (try simp only [Act.put, sA, sB, sC])
 refine tkL (.int .i64 lo) (h := ?_)
 (try simp only [Act.put, sA, sB, sC])
 refine wpList_q (by rfl) (.bool true) ?he ?_
 case he => (have q0 := H0.out; go_simp; (first | done | rfl | omega))
 (try simp only [Act.put, sA, sB, sC])
 refine wpList_nil ?_
 go_upto_region 2 with fail
 refine wp_region_lit ?_
 refine tkL (.int .i64 lo) (h := ?_)
 (try simp only [Act.put, sA, sB, sC])
 refine tkL (.int .i64 lo) (h := ?_)
 (try simp only [Act.put, sA, sB, sC])
 refine wpList_nil ?_
 (try go_wp2_with fail)
 go_ret
 exact ⟨rfl, rfl⟩
set_option maxHeartbeats 4000000 in
theorem nearB (n lo hi : Int) (w : World) (h0 : ¬ n < lo) (h1 : hi < n) : Calls Try.prog 63 #[.int .i64 n, .int .i64 lo, .int .i64 hi] w fun e w' => e = .returned (.int .i64 hi) ∧ w = w' := by
 have H0 := Lib.hid h0
 clear h0
 have H1 := Lib.hid h1
 clear h1
 go_enter Try.func63, Try.ntmps63
 go_upto_region 1 with fail
 have HS1 := Lib.hid (Since.refl w)
 refine wp_region_lit ?_
 refine tkL (.int .i64 n) (h := ?_)
 (try simp only [Act.put, sA, sB, sC])
 refine tkL (.int .i64 lo) (h := ?_)
 (try simp only [Act.put, sA, sB, sC])
 refine wpList_q (by rfl) (.bool false) ?he ?_
 case he => (have q0 := H0.out; go_simp; (first | done | rfl | omega))
 (try simp only [Act.put, sA, sB, sC])
 refine wpList_nil ?_
 go_upto_region 3 with fail
 refine wp_region_lit ?_
 refine tkL (.int .i64 n) (h := ?_)
 (try simp only [Act.put, sA, sB, sC])
 refine tkL (.int .i64 hi) (h := ?_)
 (try simp only [Act.put, sA, sB, sC])
 refine wpList_q (by rfl) (.bool true) ?he ?_
 case he => (have q0 := H1.out; go_simp; (first | done | rfl | omega))
 (try simp only [Act.put, sA, sB, sC])
 refine wpList_nil ?_
 go_upto_region 4 with fail
 refine wp_region_lit ?_
 refine tkL (.int .i64 hi) (h := ?_)
 (try simp only [Act.put, sA, sB, sC])
 refine tkL (.int .i64 hi) (h := ?_)
 (try simp only [Act.put, sA, sB, sC])
 refine wpList_nil ?_
 (try go_wp2_with fail)
 go_ret
 exact ⟨rfl, rfl⟩
set_option maxHeartbeats 4000000 in
theorem nearC (n lo hi : Int) (w : World) (h0 : ¬ n < lo) (h1 : ¬ hi < n) : Calls Try.prog 63 #[.int .i64 n, .int .i64 lo, .int .i64 hi] w fun e w' => e = .returned (.int .i64 n) ∧ w = w' := by
 have H0 := Lib.hid h0
 clear h0
 have H1 := Lib.hid h1
 clear h1
 go_enter Try.func63, Try.ntmps63
 go_upto_region 1 with fail
 have HS1 := Lib.hid (Since.refl w)
 refine wp_region_lit ?_
 refine tkL (.int .i64 n) (h := ?_)
 (try simp only [Act.put, sA, sB, sC])
 refine tkL (.int .i64 lo) (h := ?_)
 (try simp only [Act.put, sA, sB, sC])
 refine wpList_q (by rfl) (.bool false) ?he ?_
 case he => (have q0 := H0.out; go_simp; (first | done | rfl | omega))
 (try simp only [Act.put, sA, sB, sC])
 refine wpList_nil ?_
 go_upto_region 3 with fail
 refine wp_region_lit ?_
 refine tkL (.int .i64 n) (h := ?_)
 (try simp only [Act.put, sA, sB, sC])
 refine tkL (.int .i64 hi) (h := ?_)
 (try simp only [Act.put, sA, sB, sC])
 refine wpList_q (by rfl) (.bool false) ?he ?_
 case he => (have q0 := H1.out; go_simp; (first | done | rfl | omega))
 (try simp only [Act.put, sA, sB, sC])
 refine wpList_nil ?_
 go_upto_region 5 with fail
 refine wp_region_lit ?_
 refine tkL (.int .i64 n) (h := ?_)
 (try simp only [Act.put, sA, sB, sC])
 refine tkL (.int .i64 n) (h := ?_)
 (try simp only [Act.put, sA, sB, sC])
 refine wpList_nil ?_
 (try go_wp2_with fail)
 go_ret
 exact ⟨rfl, rfl⟩
theorem nearT (n lo hi : Int) (w : World) : Calls Try.prog 63 #[.int .i64 n, .int .i64 lo, .int .i64 hi] w fun e w' => e = .returned (.int .i64 (btw n lo hi)) ∧ w = w' := by
  unfold btw
  by_cases h0 : n < lo
  · rw [if_pos h0]; exact nearA n lo hi w h0
  · by_cases h1 : hi < n
    · rw [if_neg h0, if_pos h1]; exact nearB n lo hi w h0 h1
    · rw [if_neg h0, if_neg h1]; exact nearC n lo hi w h0 h1
set_option maxHeartbeats 4000000 in
theorem roomT (n : Int) (w : World) : Calls Try.prog 25 #[.int .i64 n] w fun e w' => e = .returned (.int .i64 (btw n 0 64)) ∧ w = w' := by
 go_enter Try.func25, Try.ntmps25
 go_upto_region 1 with fail
 have HS1 := Lib.hid (Since.refl w)
 refine wp_region_lit ?_
 refine tkL (.int .i64 n) (h := ?_)
 (try simp only [Act.put, sA, sB, sC])
 refine wpList_wp (by rfl) (fun K hK => ?_)
 (try go_simp)
 refine (nearT n 0 64 _).mono ?_
 rintro e w' ⟨rfl, rfl⟩
 (try go_wp2_with fail)
 refine hK.out _ _ ?_
 clear hK K
 (try simp only [Act.put, sA, sB, sC])
 refine tkL (.int .i64 (btw n 0 64)) (h := ?_)
 (try simp only [Act.put, sA, sB, sC])
 refine wpList_nil ?_
 (try go_wp2_with fail)
 go_ret
 exact ⟨rfl, rfl⟩
set_option maxHeartbeats 4000000 in
theorem sameT (la lb : Nat) (A B : Option Addr) (ca cb : Nat) (ls : List AskV) (w : World) (hl : ls.length ≤ 10000) (ha : (w).ownsRow la 30 5 (.slice A ls.length ca) ls.length (rowsOf askC ls)) (hb : (w).ownsRow lb 30 5 (.slice B ls.length cb) ls.length (rowsOf askC ls)) : Calls Try.prog 31 #[.slice A ls.length ca, .slice B ls.length cb] w fun e w' => e = .returned (.bool true) ∧ Since w w' := by
 have HL := Lib.hid hl
 clear hl
 have HA := Lib.hid ha
 clear ha
 have HBR := Lib.hid hb
 clear hb
 go_enter Try.func31, Try.ntmps31
 go_upto_region 1 with fail
 have HS1 := Lib.hid (Since.refl w)
 refine wp_region_lit ?_
 refine tkL (.slice A ls.length ca) (h := ?_)
 (try simp only [Act.put, sA, sB, sC])
 refine tkL (.int .i64 (ls.length : Int)) (h := ?_)
 (try simp only [Act.put, sA, sB, sC])
 refine tkL (.slice B ls.length cb) (h := ?_)
 (try simp only [Act.put, sA, sB, sC])
 refine tkL (.int .i64 (ls.length : Int)) (h := ?_)
 (try simp only [Act.put, sA, sB, sC])
 refine wpList_q (by rfl) (.bool false) ?he ?_
 case he => (go_simp; (try with_reducible rfl))
 (try simp only [Act.put, sA, sB, sC])
 refine wpList_nil ?_
 go_upto_region 3 with fail
 refine wp_region_lit ?_
 refine tkL (.int .i64 0) (h := ?_)
 (try simp only [Act.put, sA, sB, sC])
 refine wpList_nil ?_
 go_wp2_with fail
 refine wp_uloop (ds := []) (fun n fr wr => ∃ k : Nat, (ls.length - k) = n ∧ Fits fr 26 [(0, .slice A ls.length ca), (1, .slice B ls.length cb), (4, .bool false), (5, .int .i64 (k : Int))] ∧ Hid (k ≤ ls.length ∧ Since w wr ∧ (wr).ownsRow la 30 5 (.slice A ls.length ca) ls.length (rowsOf askC ls) ∧ (wr).ownsRow lb 30 5 (.slice B ls.length cb) ls.length (rowsOf askC ls))) (ls.length - 0) ?start1 ?round1
 case start1 => exact ⟨0, rfl, ⟨rfl, rfl, rfl, rfl, rfl, trivial⟩, Lib.hid ⟨Nat.zero_le _, HS1.out, HA.out, HBR.out⟩⟩
 case round1 =>
  intro n fr wr hR J1 K1 hJ1 hK1
  clear HS1 HA HBR
  obtain ⟨k, hn, hF, HO⟩ := hR
  have HM := Lib.hid hn; clear hn
  obtain ⟨e0, g0, g1, g2⟩ := HO.out
  clear HO
  have HK := Lib.hid e0
  have HS51 := Lib.hid g0
  have HFa51 := Lib.hid g1
  have HFb51 := Lib.hid g2
  clear e0 g0 g1 g2
  obtain ⟨u, hu⟩ := hF.open_
  have hu2 := hu.trans (show _ = #[.slice A ls.length ca, .slice B ls.length cb, u 2, u 3, .bool false, .int .i64 (k : Int), u 6, u 7, u 8, u 9, u 10, u 11, u 12, u 13, u 14, u 15, u 16, u 17, u 18, u 19, u 20, u 21, u 22, u 23, u 24, u 25] by kernel_rfl)
  clear hu hF
  subst hu2
  by_cases hcs : k < ls.length
  rotate_left
  · have HKL := Lib.hid hcs; clear hcs
    go_upto_region 4 with fail
    refine wp_region_lit ?_
    refine tkL (.int .i64 (k : Int)) (h := ?_)
    (try simp only [Act.put, sA, sB, sC])
    refine tkL (.slice A ls.length ca) (h := ?_)
    (try simp only [Act.put, sA, sB, sC])
    refine tkL (.int .i64 (ls.length : Int)) (h := ?_)
    (try simp only [Act.put, sA, sB, sC])
    refine wpList_q (by rfl) (.bool false) ?he ?_
    case he => (have q0 := HKL.out; go_simp; (first | done | rfl | omega))
    (try simp only [Act.put, sA, sB, sC])
    refine wpList_nil ?_
    go_upto_region 8 with fail
    refine wp_region_lit ?_
    refine tkL (.bool true) (h := ?_)
    (try simp only [Act.put, sA, sB, sC])
    refine wpList_nil ?_
    (try go_wp2_with fail)
    go_ret
    exact ⟨rfl, HS51.out⟩
  · have HKL := Lib.hid hcs; clear hcs
    go_upto_region 4 with fail
    refine wp_region_lit ?_
    refine tkL (.int .i64 (k : Int)) (h := ?_)
    (try simp only [Act.put, sA, sB, sC])
    refine tkL (.slice A ls.length ca) (h := ?_)
    (try simp only [Act.put, sA, sB, sC])
    refine tkL (.int .i64 (ls.length : Int)) (h := ?_)
    (try simp only [Act.put, sA, sB, sC])
    refine wpList_q (by rfl) (.bool true) ?he ?_
    case he => (have q0 := HKL.out; go_simp; (first | done | rfl | omega))
    (try simp only [Act.put, sA, sB, sC])
    refine wpList_nil ?_
    obtain ⟨x, hx⟩ : ∃ x, ls[k]? = some x := ⟨_, List.getElem?_eq_getElem HKL.out⟩
    have HX := Lib.hid hx; clear hx
    obtain ⟨ga, hga⟩ := own_addr HFa51.out (show 0 < ls.length by have := HKL.out; omega)
    subst hga
    obtain ⟨gb, hgb⟩ := own_addr HFb51.out (show 0 < ls.length by have := HKL.out; omega)
    subst hgb
    go_upto_region 6 with fail
    have HKS : Hid (KeepS (fun W : World => Since w W ∧ (W).ownsRow la 30 5 (.slice (some ⟨ga, 0, none⟩) ls.length ca) ls.length (rowsOf askC ls) ∧ (W).ownsRow lb 30 5 (.slice (some ⟨gb, 0, none⟩) ls.length cb) ls.length (rowsOf askC ls)) wr) := Lib.hid ⟨fun W W' k ⟨h, h0, h1⟩ => ⟨h.trans k, keep_own k h0, keep_own k h1⟩, ⟨HS51.out, HFa51.out, HFb51.out⟩⟩
    have HRK := Lib.hid HKS.out.1
    refine wp_held HKS.out (by kernel_rfl) (fun hHeld => ?_)
    refine tkQ 0 (.slice (some ⟨ga, 0, none⟩) ls.length ca) hHeld (h := ?_)
    (try simp only [Act.put, sA, sB, sC])
    refine tkQ 1 (.int .i64 (k : Int)) hHeld (h := ?_)
    (try simp only [Act.put, sA, sB, sC])
    refine tkQ 2 (.pointer (some ⟨ga, 0 + k * 5, none⟩)) hHeld (he := by intro w hSw; exact exec_index (i := k) (s := 5) 35 30 _ _ rfl rfl rfl rfl HKL.out Try.underlying35 (by kernel_rfl)) (h := ?_)
    (try simp only [Act.put, sA, sB, sC])
    refine tkQ 3 (.agg #[.int .i64 x.se, .int .i64 x.fl, .int .i64 x.fm, .int .i64 x.to, .int .i64 x.ma]) hHeld (he := by intro w hSw; exact exec_rng (l := askC x) 30 _ _ (row_q hSw.2.1 HX.out) rfl rfl Try.underlying30 rfl (by kernel_rfl)) (h := ?_)
    (try simp only [Act.put, sA, sB, sC])
    refine tkQ 4 (.slice (some ⟨gb, 0, none⟩) ls.length cb) hHeld (h := ?_)
    (try simp only [Act.put, sA, sB, sC])
    refine tkQ 5 (.int .i64 (k : Int)) hHeld (h := ?_)
    (try simp only [Act.put, sA, sB, sC])
    refine tkQ 6 (.pointer (some ⟨gb, 0 + k * 5, none⟩)) hHeld (he := by intro w hSw; exact exec_index (i := k) (s := 5) 35 30 _ _ rfl rfl rfl rfl HKL.out Try.underlying35 (by kernel_rfl)) (h := ?_)
    (try simp only [Act.put, sA, sB, sC])
    refine tkQ 7 (.agg #[.int .i64 x.se, .int .i64 x.fl, .int .i64 x.fm, .int .i64 x.to, .int .i64 x.ma]) hHeld (he := by intro w hSw; exact exec_rng (l := askC x) 30 _ _ (row_q hSw.2.2 HX.out) rfl rfl Try.underlying30 rfl (by kernel_rfl)) (h := ?_)
    (try simp only [Act.put, sA, sB, sC])
    refine tkQ 8 (.bool false) hHeld (he := by intro w hSw; (go_simp; (try with_reducible rfl))) (h := ?_)
    (try simp only [Act.put, sA, sB, sC])
    refine wpAnyH_done (by kernel_rfl) ?_ _
    have HSd6 := Lib.hid hHeld.1
    have HFad6 := Lib.hid (hHeld.2.1)
    have HFbd6 := Lib.hid (hHeld.2.2)
    clear hHeld HRK HKS HS51 HFa51 HFb51
    go_upto_region 5 with fail
    refine wp_region_lit ?_
    refine tkL (.int .i64 (k : Int)) (h := ?_)
    (try simp only [Act.put, sA, sB, sC])
    refine wpList_q (by rfl) (.int .i64 ((k : Int) + 1)) ?he ?_
    case he => (go_simp; (first | done | (refine wr64 _ ?_ ?_ <;> (have q0 := HKL.out; have q1 := HL.out; omega)) | (have q0 := HKL.out; have q1 := HL.out; omega) | (have q0 := HKL.out; have q1 := HL.out; split <;> omega) | (have q0 := HKL.out; have q1 := HL.out; intro hh; omega)))
    (try simp only [Act.put, sA, sB, sC])
    refine tkL (.int .i64 ((k : Int) + 1)) (h := ?_)
    (try simp only [Act.put, sA, sB, sC])
    refine wpList_nil ?_
    go_wp2_with fail
    refine Met.intro ?_
    refine hJ1 _ _ _ ?less51 ⟨(k + 1), rfl, ⟨rfl, rfl, rfl, rfl, rfl, trivial⟩, Lib.hid ⟨by have := HKL.out; omega, HSd6.out, HFad6.out, HFbd6.out⟩⟩
    case less51 => exact (by have := HM.out; have := HKL.out; omega)
end Go.Proofs.Ytggafipgfgbbiaa.Qu
