/-
  frame's calls, walked: counted, sealed, Put; bytes.Clone, bytes.Equal.
  Conditions: what stands ahead of each.
-/
import Derived.Lib.Strings
import Derived.Test.YtfggnchfkoifeaaProg
import Derived.Test.YtfggnchfkoifeaaRws
import Derived.Test.YtfggnchfkoifeaaFrmMath
import Derived.Test.YtfggnchfkoifeaaCrcProg
namespace Go.Proofs.Ytfggnchfkoifeaa.Fq
set_option linter.unusedVariables false
set_option linter.unusedSimpArgs false
open Go.RowKit Go.Proofs.Ytfggnchfkoifeaa.Ba Go.Proofs.Ytfggnchfkoifeaa.Mem Go.Proofs.Ytfggnchfkoifeaa.Cm Go.Proofs.Ytfggnchfkoifeaa.Fm
open Go.Proofs.Ytfggnchfkoifeaa.Byt (BV isB cells)
set_option maxRecDepth 100000
attribute [local irreducible] Go.wpList
theorem sumT (a : Option Addr) (n cap : Nat) (zs : List Int) (w : World) (h : BV w a n zs) : Calls Try.prog 12 #[.slice a n cap] w fun e w' => e = .returned (.int .u32 (crcN zs)) ∧ Since w w' := Cl.SumSaid.on Cl.sum_said a n cap zs w h
theorem bv_reads {w : World} {A : Option Addr} {n : Nat} {zs : List Int} (h : BV w A n zs) : Reads w w.heap.size 1 A n (cells zs) := h.reads
theorem cells_app (x y : List Int) : cells x ++ cells y = cells (x ++ y) := (Byt.cells_append x y).symm
def okN (n : Int) : Bool := decide (1 ≤ n ∧ n ≤ 64)
set_option maxHeartbeats 4000000 in
theorem cntA (n : Int) (h0 : n < 1) (w : World) : Calls Try.prog 23 #[.int .i64 n] w fun e w' => e = .returned (.bool false) ∧ Since w w' := by
  have H0 := Lib.hid h0
  clear h0
  go_enter Try.func23, Try.ntmps23
  go_upto_region 1 with fail
  have HS1 := Lib.hid (Since.refl w)
  refine wp_region_lit ?_
  refine wpList_q (by rfl) (.int .i64 n) ?he ?_
  case he => (first | rfl | (go_simp; (try with_reducible rfl)))
  (try simp only [Act.put, sA, sB, sC])
  refine wpList_q (by rfl) (.bool false) ?he ?_
  case he => (have q0 := H0.out; go_simp; (first | done | rfl | omega))
  (try simp only [Act.put, sA, sB, sC])
  refine wpList_q (by rfl) (.bool false) ?he ?_
  case he => (first | rfl | (go_simp; (try with_reducible rfl)))
  (try simp only [Act.put, sA, sB, sC])
  refine wpList_no (by rfl) ?_
  (try simp only [Act.put, sA, sB, sC])
  refine wpList_no (by rfl) ?_
  (try simp only [Act.put, sA, sB, sC])
  refine wpList_q (by rfl) (.bool false) ?he ?_
  case he => (first | rfl | (go_simp; (try with_reducible rfl)))
  (try simp only [Act.put, sA, sB, sC])
  refine wpList_q (by rfl) (.bool false) ?he ?_
  case he => (first | rfl | (go_simp; (try with_reducible rfl)))
  (try simp only [Act.put, sA, sB, sC])
  refine wpList_nil ?_
  (try go_wp2_with fail)
  go_ret
  exact ⟨rfl, HS1.out⟩
set_option maxHeartbeats 4000000 in
theorem cntB (n : Int) (h0 : ¬ n < 1) (h1 : 64 < n) (w : World) : Calls Try.prog 23 #[.int .i64 n] w fun e w' => e = .returned (.bool false) ∧ Since w w' := by
  have H0 := Lib.hid h0
  clear h0
  have H1 := Lib.hid h1
  clear h1
  go_enter Try.func23, Try.ntmps23
  go_upto_region 1 with fail
  have HS1 := Lib.hid (Since.refl w)
  refine wp_region_lit ?_
  refine wpList_q (by rfl) (.int .i64 n) ?he ?_
  case he => (first | rfl | (go_simp; (try with_reducible rfl)))
  (try simp only [Act.put, sA, sB, sC])
  refine wpList_q (by rfl) (.bool true) ?he ?_
  case he => (have q0 := H0.out; go_simp; (first | done | rfl | omega))
  (try simp only [Act.put, sA, sB, sC])
  refine wpList_q (by rfl) (.bool true) ?he ?_
  case he => (first | rfl | (go_simp; (try with_reducible rfl)))
  (try simp only [Act.put, sA, sB, sC])
  refine wpList_q (by rfl) (.int .i64 n) ?he ?_
  case he => (first | rfl | (go_simp; (try with_reducible rfl)))
  (try simp only [Act.put, sA, sB, sC])
  refine wpList_q (by rfl) (.bool false) ?he ?_
  case he => (have q0 := H1.out; go_simp; (first | done | rfl | omega))
  (try simp only [Act.put, sA, sB, sC])
  refine wpList_q (by rfl) (.bool false) ?he ?_
  case he => (first | rfl | (go_simp; (try with_reducible rfl)))
  (try simp only [Act.put, sA, sB, sC])
  refine wpList_q (by rfl) (.bool false) ?he ?_
  case he => (first | rfl | (go_simp; (try with_reducible rfl)))
  (try simp only [Act.put, sA, sB, sC])
  refine wpList_nil ?_
  (try go_wp2_with fail)
  go_ret
  exact ⟨rfl, HS1.out⟩
set_option maxHeartbeats 4000000 in
theorem cntC (n : Int) (h0 : ¬ n < 1) (h1 : ¬ 64 < n) (w : World) : Calls Try.prog 23 #[.int .i64 n] w fun e w' => e = .returned (.bool true) ∧ Since w w' := by
  have H0 := Lib.hid h0
  clear h0
  have H1 := Lib.hid h1
  clear h1
  go_enter Try.func23, Try.ntmps23
  go_upto_region 1 with fail
  have HS1 := Lib.hid (Since.refl w)
  refine wp_region_lit ?_
  refine wpList_q (by rfl) (.int .i64 n) ?he ?_
  case he => (first | rfl | (go_simp; (try with_reducible rfl)))
  (try simp only [Act.put, sA, sB, sC])
  refine wpList_q (by rfl) (.bool true) ?he ?_
  case he => (have q0 := H0.out; go_simp; (first | done | rfl | omega))
  (try simp only [Act.put, sA, sB, sC])
  refine wpList_q (by rfl) (.bool true) ?he ?_
  case he => (first | rfl | (go_simp; (try with_reducible rfl)))
  (try simp only [Act.put, sA, sB, sC])
  refine wpList_q (by rfl) (.int .i64 n) ?he ?_
  case he => (first | rfl | (go_simp; (try with_reducible rfl)))
  (try simp only [Act.put, sA, sB, sC])
  refine wpList_q (by rfl) (.bool true) ?he ?_
  case he => (have q0 := H1.out; go_simp; (first | done | rfl | omega))
  (try simp only [Act.put, sA, sB, sC])
  refine wpList_q (by rfl) (.bool true) ?he ?_
  case he => (first | rfl | (go_simp; (try with_reducible rfl)))
  (try simp only [Act.put, sA, sB, sC])
  refine wpList_q (by rfl) (.bool true) ?he ?_
  case he => (first | rfl | (go_simp; (try with_reducible rfl)))
  (try simp only [Act.put, sA, sB, sC])
  refine wpList_nil ?_
  (try go_wp2_with fail)
  go_ret
  exact ⟨rfl, HS1.out⟩
theorem countedV (n : Int) (b : Bool) (w : World) (hb : okN n = b) : Calls Try.prog 23 #[.int .i64 n] w fun e w' => e = .returned (.bool b) ∧ Since w w' := by
  subst hb
  unfold okN
  by_cases h0 : n < 1
  · rw [decide_eq_false (by omega)]; exact cntA n h0 w
  · by_cases h1 : 64 < n
    · rw [decide_eq_false (by omega)]; exact cntB n h0 h1 w
    · rw [decide_eq_true (by omega)]; exact cntC n h0 h1 w
theorem bv_cell {w : World} {ad : Addr} {n : Nat} {zs : List Int} (h : BV w (some ad) n zs) : ∀ j v, (cells zs)[j]? = some v → w.cell? (ad.add j) = some v := fun j v hj => by
  have hl := h.1
  have hj2 : j < zs.length := by have := (List.getElem?_eq_some_iff.1 hj).1; simpa [cells] using this
  obtain ⟨ad', e, _, hc⟩ := (bv_reads h).2 (by omega)
  injection e with e
  subst e
  exact hc j v hj
theorem Byt.cells_length (zs : List Int) : (cells zs).length = zs.length := by simp [cells]
set_option maxHeartbeats 4000000 in
theorem sealedT (ad : Addr) (n c : Nat) (zs : List Int) (w : World) (hb : BV w (some ad) n zs) (h1 : 1 ≤ n) (h2 : n ≤ 1000) (hc : n ≤ c) : Calls Try.prog 24 #[.slice (some ad) n c] w fun e w' => ∃ A' c', e = .returned (.slice A' (n + 4) c') ∧ w'.ownsRow w.heap.size 5 1 (.slice A' (n + 4) c') (n + 4) (cells (zs ++ be4 (crcN zs))) ∧ Since w w' := by
  have HB0 := Lib.hid hb
  have HB := Lib.hid hb
  have HCAP := Lib.hid hc
  clear hc
  clear hb
  have H1 := Lib.hid h1
  clear h1
  have H2 := Lib.hid h2
  clear h2
  go_enter Try.func24, Try.ntmps24
  go_upto_region 1 with fail
  have HS1 := Lib.hid (Since.refl w)
  refine wp_region_lit ?_
  refine wpList_q (by rfl) (.slice (some ad) n c) ?he ?_
  case he => (first | rfl | (go_simp; (try with_reducible rfl)))
  (try simp only [Act.put, sA, sB, sC])
  refine wpList_wp (by rfl) (fun K hK => ?_)
  (try go_simp)
  refine (sumT (some ad) n c zs _ HB.out).mono ?_
  rintro e w2 ⟨rfl, hb⟩
  (try go_wp2_with fail)
  refine hK.out _ _ ?_
  clear hK K
  (try simp only [Act.put, sA, sB, sC])
  have HS2 := Lib.hid (Since.trans HS1.out hb)
  have HFbv2 := Lib.hid (keep_bv hb HB.out)
  clear HS1 HB
  clear hb
  refine wpList_q (by rfl) (.int .u32 (crcN zs)) ?he ?_
  case he => (first | rfl | (go_simp; (try with_reducible rfl)))
  (try simp only [Act.put, sA, sB, sC])
  refine wpList_nil ?_
  go_upto_region 2 with fail
  refine wp_region_lit ?_
  refine wpList_q (by rfl) (.slice (some ad) n c) ?he ?_
  case he => (first | rfl | (go_simp; (try with_reducible rfl)))
  (try simp only [Act.put, sA, sB, sC])
  refine wpList_q (by rfl) (.slice (some ad) n c) ?he ?_
  case he => (first | rfl | (go_simp; (try with_reducible rfl)))
  (try simp only [Act.put, sA, sB, sC])
  refine wpList_q (by rfl) (.int .i64 (n : Int)) ?he ?_
  case he => (first | rfl | (go_simp; (try with_reducible rfl)))
  (try simp only [Act.put, sA, sB, sC])
  refine wpList_q (by rfl) (.slice (some ad) n c) ?he ?_
  case he => (first | rfl | (go_simp; (try with_reducible rfl)))
  (try simp only [Act.put, sA, sB, sC])
  refine wpList_q (by rfl) (.int .i64 (n : Int)) ?he ?_
  case he => (first | rfl | (go_simp; (try with_reducible rfl)))
  (try simp only [Act.put, sA, sB, sC])
  refine wpList_q (by rfl) (.slice (some ad) n n) ?he ?_
  case he => exact exec_slice (s := 1) 22 5 _ _ _ _ rfl rfl Try.underlying22 (by kernel_rfl) (sb_hm _ _ _ (h := n) (m := n) rfl rfl (Nat.le_refl _) HCAP.out) (by split <;> simp [Addr.add]) rfl rfl
  (try simp only [Act.put, sA, sB, sC])
  refine wpList_q (by rfl) (.slice (some ad) n n) ?he ?_
  case he => (first | rfl | (go_simp; (try with_reducible rfl)))
  (try simp only [Act.put, sA, sB, sC])
  refine wpList_nil ?_
  go_upto_region 3 with fail
  refine wp_region_lit ?_
  refine wpList_q (by rfl) (.slice (some ad) n n) ?he ?_
  case he => (first | rfl | (go_simp; (try with_reducible rfl)))
  (try simp only [Act.put, sA, sB, sC])
  refine wpList_q (by rfl) (.int .u32 (crcN zs)) ?he ?_
  case he => (first | rfl | (go_simp; (try with_reducible rfl)))
  (try simp only [Act.put, sA, sB, sC])
  refine wpList_q (by rfl) (.int .u32 (crcN zs / 16777216)) ?he ?_
  case he => (go_simp; (first | done | rfl | (simp; done)))
  (try simp only [Act.put, sA, sB, sC])
  refine wpList_q (by rfl) (.int .u8 (crcN zs / 16777216 % 256)) ?he ?_
  case he => (go_simp; (first | done | rfl | (simp; done)))
  (try simp only [Act.put, sA, sB, sC])
  refine wpList_q (by rfl) (.int .u32 (crcN zs)) ?he ?_
  case he => (first | rfl | (go_simp; (try with_reducible rfl)))
  (try simp only [Act.put, sA, sB, sC])
  refine wpList_q (by rfl) (.int .u32 (crcN zs / 65536)) ?he ?_
  case he => (go_simp; (first | done | rfl | (simp; done)))
  (try simp only [Act.put, sA, sB, sC])
  refine wpList_q (by rfl) (.int .u8 (crcN zs / 65536 % 256)) ?he ?_
  case he => (go_simp; (first | done | rfl | (simp; done)))
  (try simp only [Act.put, sA, sB, sC])
  refine wpList_q (by rfl) (.int .u32 (crcN zs)) ?he ?_
  case he => (first | rfl | (go_simp; (try with_reducible rfl)))
  (try simp only [Act.put, sA, sB, sC])
  refine wpList_q (by rfl) (.int .u32 (crcN zs / 256)) ?he ?_
  case he => (go_simp; (first | done | rfl | (simp; done)))
  (try simp only [Act.put, sA, sB, sC])
  refine wpList_q (by rfl) (.int .u8 (crcN zs / 256 % 256)) ?he ?_
  case he => (go_simp; (first | done | rfl | (simp; done)))
  (try simp only [Act.put, sA, sB, sC])
  refine wpList_q (by rfl) (.int .u32 (crcN zs)) ?he ?_
  case he => (first | rfl | (go_simp; (try with_reducible rfl)))
  (try simp only [Act.put, sA, sB, sC])
  refine wpList_q (by rfl) (.int .u8 (crcN zs % 256)) ?he ?_
  case he => (go_simp; (first | done | rfl | (simp; done)))
  (try simp only [Act.put, sA, sB, sC])
  refine wpList_wp (by rfl) (fun K hK => ?_)
  refine wp_new (fun b => .slice (some ⟨b, 0, none⟩) 4 4) 5 #[.int .u8 (crcN zs / 16777216 % 256), .int .u8 (crcN zs / 65536 % 256), .int .u8 (crcN zs / 256 % 256), .int .u8 (crcN zs % 256)] (by rintro b rfl; first | rfl | kernel_rfl) ?_
  intro bn25 w3 hge hB hb
  refine hK.out _ _ ?_
  clear hK K
  (try simp only [Act.put, sA, sB, sC])
  have HGn25 := Lib.hid (show w.heap.size ≤ bn25 by have := Since.size HS2.out; omega)
  have HFAn25_bv := Lib.hid (bv_far HFbv2.out hge)
  have HS3 := Lib.hid (Since.trans HS2.out hb)
  have HFbv3 := Lib.hid (keep_bv hb HFbv2.out)
  clear HS2 HFbv2
  clear hb hge
  have HBn253 := Lib.hid hB
  clear hB
  refine wpList_wp (by rfl) (fun K hK => ?_)
  refine wp_append_full _ _ 22 rfl w.heap.size 5 (Value.int .u8 0) 1 1 Try.underlying22 (by kernel_rfl) rfl (by decide) ad n n (cells zs) rfl (fun j v hj => bv_cell HFbv3.out j v hj) (by rw [Nat.mul_one, Byt.cells_length]; exact HB0.out.1) _ (some ⟨bn25, 0, none⟩) 4 4 (cells (be4 (crcN zs))) rfl (reads_blk HBn253.out rfl) (by omega) (Nat.le_refl _) (by have := H2.out; omega) (Since.size HS3.out) (n + 4) (cells (zs ++ be4 (crcN zs))) rfl (cells_app _ _) ?_
  intro A2 c2 w4 hown hb hfar
  refine hK.out _ _ ?_
  clear hK K hfar
  (try simp only [Act.put, sA, sB, sC])
  have HSz := Lib.hid (HS3.out.trans hb)
  have HOZ := Lib.hid hown
  clear hb hown HS3
  refine wpList_q (by rfl) (.slice A2 (n + 4) c2) ?he ?_
  case he => (first | rfl | (go_simp; (try with_reducible rfl)))
  (try simp only [Act.put, sA, sB, sC])
  refine wpList_nil ?_
  (try go_wp2_with fail)
  go_ret
  exact ⟨A2, c2, rfl, HOZ.out, HSz.out⟩
set_option maxHeartbeats 4000000 in
theorem putNo (A : Option Addr) (n c : Nat) (zs : List Int) (w : World) (hb : BV w A n zs) (ho : okN (n : Int) = false) : Calls Try.prog 16 #[.slice A n c] w fun e w' => e = .returned (.tuple #[.slice none 0 0, .bool false]) ∧ Since w w' := by
  have HB := Lib.hid hb
  clear hb
  have HO := Lib.hid ho
  clear ho
  go_enter Try.func16, Try.ntmps16
  go_upto_region 1 with fail
  have HS1 := Lib.hid (Since.refl w)
  refine wp_region_lit ?_
  refine wpList_q (by rfl) (.slice A n c) ?he ?_
  case he => (first | rfl | (go_simp; (try with_reducible rfl)))
  (try simp only [Act.put, sA, sB, sC])
  refine wpList_q (by rfl) (.int .i64 (n : Int)) ?he ?_
  case he => (first | rfl | (go_simp; (try with_reducible rfl)))
  (try simp only [Act.put, sA, sB, sC])
  refine wpList_wp (by rfl) (fun K hK => ?_)
  (try go_simp)
  refine (countedV (n : Int) false _ HO.out).mono ?_
  rintro e w2 ⟨rfl, hb⟩
  (try go_wp2_with fail)
  refine hK.out _ _ ?_
  clear hK K
  (try simp only [Act.put, sA, sB, sC])
  have HS2 := Lib.hid (Since.trans HS1.out hb)
  clear HS1 
  clear hb
  refine wpList_q (by rfl) (.bool true) ?he ?_
  case he => (go_simp; (try with_reducible rfl))
  (try simp only [Act.put, sA, sB, sC])
  refine wpList_nil ?_
  go_upto_region 2 with fail
  refine wp_region_lit ?_
  refine wpList_q (by rfl) (.slice none 0 0) ?he ?_
  case he => (first | rfl | (go_simp; (try with_reducible rfl)))
  (try simp only [Act.put, sA, sB, sC])
  refine wpList_q (by rfl) (.bool false) ?he ?_
  case he => (first | rfl | (go_simp; (try with_reducible rfl)))
  (try simp only [Act.put, sA, sB, sC])
  refine wpList_nil ?_
  (try go_wp2_with fail)
  go_ret2
  exact ⟨rfl, HS2.out⟩
set_option maxHeartbeats 4000000 in
theorem putOk (A : Option Addr) (n c : Nat) (zs : List Int) (w : World) (hb : BV w A n zs) (ho : okN (n : Int) = true) : Calls Try.prog 16 #[.slice A n c] w fun e w' => ∃ A' c', e = .returned (.tuple #[.slice A' (n + 6) c', .bool true]) ∧ w'.ownsRow w.heap.size 5 1 (.slice A' (n + 6) c') (n + 6) (cells (frm zs)) ∧ Since w w' := by
  have HB := Lib.hid hb
  clear hb
  have HO := Lib.hid ho
  clear ho
  go_enter Try.func16, Try.ntmps16
  go_upto_region 1 with fail
  have HS1 := Lib.hid (Since.refl w)
  refine wp_region_lit ?_
  refine wpList_q (by rfl) (.slice A n c) ?he ?_
  case he => (first | rfl | (go_simp; (try with_reducible rfl)))
  (try simp only [Act.put, sA, sB, sC])
  refine wpList_q (by rfl) (.int .i64 (n : Int)) ?he ?_
  case he => (first | rfl | (go_simp; (try with_reducible rfl)))
  (try simp only [Act.put, sA, sB, sC])
  refine wpList_wp (by rfl) (fun K hK => ?_)
  (try go_simp)
  refine (countedV (n : Int) true _ HO.out).mono ?_
  rintro e w2 ⟨rfl, hb⟩
  (try go_wp2_with fail)
  refine hK.out _ _ ?_
  clear hK K
  (try simp only [Act.put, sA, sB, sC])
  have HS2 := Lib.hid (Since.trans HS1.out hb)
  clear HS1 
  clear hb
  refine wpList_q (by rfl) (.bool false) ?he ?_
  case he => (go_simp; (try with_reducible rfl))
  (try simp only [Act.put, sA, sB, sC])
  refine wpList_nil ?_
  have HN := Lib.hid (show 1 ≤ n ∧ n ≤ 64 by have q := HO.out; unfold okN at q; have := of_decide_eq_true q; omega)
  go_upto_region 3 with fail
  refine wp_region_lit ?_
  refine wpList_q (by rfl) (.slice A n c) ?he ?_
  case he => (first | rfl | (go_simp; (try with_reducible rfl)))
  (try simp only [Act.put, sA, sB, sC])
  refine wpList_q (by rfl) (.int .i64 (n : Int)) ?he ?_
  case he => (first | rfl | (go_simp; (try with_reducible rfl)))
  (try simp only [Act.put, sA, sB, sC])
  refine wpList_q (by rfl) (.int .u8 ((n : Int) % 256)) ?he ?_
  case he => (go_simp; (first | done | rfl | (simp; done)))
  (try simp only [Act.put, sA, sB, sC])
  refine wpList_wp (by rfl) (fun K hK => ?_)
  refine wp_new (fun b => .slice (some ⟨b, 0, none⟩) 2 2) 5 #[.int .u8 165, .int .u8 ((n : Int) % 256)] (by rintro b rfl; first | rfl | kernel_rfl) ?_
  intro bn12 w3 hge hB hb
  refine hK.out _ _ ?_
  clear hK K
  (try simp only [Act.put, sA, sB, sC])
  have HGn12 := Lib.hid (show w.heap.size ≤ bn12 by have := Since.size HS2.out; omega)
  have HS3 := Lib.hid (Since.trans HS2.out hb)
  clear HS2 
  clear hb hge
  have HBn123 := Lib.hid hB
  clear hB
  refine wpList_q (by rfl) (.slice A n c) ?he ?_
  case he => (first | rfl | (go_simp; (try with_reducible rfl)))
  (try simp only [Act.put, sA, sB, sC])
  refine wpList_wp (by rfl) (fun K hK => ?_)
  have HOE := Lib.hid (own_new HBn123.out HGn12.out (by rfl) (by simp))
  clear HBn123
  refine wp_append_row (.tmp 12) (.tmp 13) 22 rfl w.heap.size 5 (Value.int .u8 0) 1 1 Try.underlying22 (by kernel_rfl) rfl (by decide) (by decide) (some ⟨bn12, 0, none⟩) 2 2 (cells [165, (n : Int) % 256]) rfl HOE.out _ A n c (cells zs) rfl (bv_reads (keep_bv HS3.out HB.out)) (Byt.cells_one zs) (by have := HN.out; omega) (Since.size HS3.out) (n + 2) (cells (hd zs)) (by omega) (by rw [cells_app]; congr 1; unfold hd; rw [HB.out.1]; rfl) ?_
  intro A_1 c_1 w4 hown hupd hfar
  refine hK.out _ _ ?_
  clear hK K
  (try simp only [Act.put, sA, sB, sC])
  have HS4 := Lib.hid (Since.upd HS3.out hupd (own_low HOE.out))
  have HFr4 := Lib.hid hown
  clear hupd hown hfar HS3 HOE
  refine wpList_q (by rfl) (.slice A_1 (n + 2) c_1) ?he ?_
  case he => (first | rfl | (go_simp; (try with_reducible rfl)))
  (try simp only [Act.put, sA, sB, sC])
  refine wpList_nil ?_
  obtain ⟨g, hg⟩ := own_addr HFr4.out (by omega)
  subst hg
  have HBV := Lib.hid (BV.of_own HFr4.out (hd_isB HB.out.2.2.1))
  have HCP := Lib.hid (own_cap2 HFr4.out)
  go_upto_region 4 with fail
  refine wp_region_lit ?_
  refine wpList_q (by rfl) (.slice (some ⟨g, 0, none⟩) (n + 2) c_1) ?he ?_
  case he => (first | rfl | (go_simp; (try with_reducible rfl)))
  (try simp only [Act.put, sA, sB, sC])
  refine wpList_wp (by rfl) (fun K hK => ?_)
  (try go_simp)
  refine (sealedT ⟨g, 0, none⟩ (n + 2) c_1 (hd zs) _ HBV.out (by omega) (by have := HN.out; omega) HCP.out).mono ?_
  rintro e w5 ⟨A3, c3, rfl, hown, hb⟩
  (try go_wp2_with fail)
  refine hK.out _ _ ?_
  clear hK K
  (try simp only [Act.put, sA, sB, sC])
  have hown2 := own_base (lo' := w.heap.size) hown (Since.size HS4.out)
  have HS5 := Lib.hid (Since.trans HS4.out hb)
  have HFr5 := Lib.hid (keep_own hb HFr4.out)
  clear HS4 HFr4
  clear hb
  have HOZ := Lib.hid hown2
  clear hown hown2
  refine wpList_q (by rfl) (.slice A3 (n + 2 + 4) c3) ?he ?_
  case he => (first | rfl | (go_simp; (try with_reducible rfl)))
  (try simp only [Act.put, sA, sB, sC])
  refine wpList_q (by rfl) (.bool true) ?he ?_
  case he => (first | rfl | (go_simp; (try with_reducible rfl)))
  (try simp only [Act.put, sA, sB, sC])
  refine wpList_nil ?_
  (try go_wp2_with fail)
  go_ret2
  exact ⟨A3, c3, rfl, HOZ.out, HS5.out⟩
set_option maxHeartbeats 4000000 in
theorem cloneNil (c : Nat) (w : World) : Calls Try.prog 27 #[.slice none 0 c] w fun e w' => e = .returned (.slice none 0 0) ∧ Since w w' := by
  go_enter Try.func27, Try.ntmps27
  go_upto_region 1 with fail
  have HS1 := Lib.hid (Since.refl w)
  refine wp_region_lit ?_
  refine wpList_q (by rfl) (.slice none 0 c) ?he ?_
  case he => (first | rfl | (go_simp; (try with_reducible rfl)))
  (try simp only [Act.put, sA, sB, sC])
  refine wpList_q (by rfl) (.bool true) ?he ?_
  case he => (first | rfl | (go_simp; (try with_reducible rfl)))
  (try simp only [Act.put, sA, sB, sC])
  refine wpList_nil ?_
  go_upto_region 2 with fail
  refine wp_region_lit ?_
  refine wpList_q (by rfl) (.slice none 0 0) ?he ?_
  case he => (first | rfl | (go_simp; (try with_reducible rfl)))
  (try simp only [Act.put, sA, sB, sC])
  refine wpList_nil ?_
  (try go_wp2_with fail)
  go_ret
  exact ⟨rfl, HS1.out⟩
set_option maxHeartbeats 4000000 in
theorem cloneSome (ad : Addr) (n c : Nat) (zs : List Int) (w : World) (hb : BV w (some ad) n zs) (hn : n ≤ 1000000) : Calls Try.prog 27 #[.slice (some ad) n c] w fun e w' => ∃ A' c', e = .returned (.slice A' n c') ∧ w'.ownsRow w.heap.size 5 1 (.slice A' n c') n (cells zs) ∧ Since w w' := by
  have HB := Lib.hid hb
  clear hb
  have HN := Lib.hid hn
  clear hn
  go_enter Try.func27, Try.ntmps27
  go_upto_region 1 with fail
  have HS1 := Lib.hid (Since.refl w)
  refine wp_region_lit ?_
  refine wpList_q (by rfl) (.slice (some ad) n c) ?he ?_
  case he => (first | rfl | (go_simp; (try with_reducible rfl)))
  (try simp only [Act.put, sA, sB, sC])
  refine wpList_q (by rfl) (.bool false) ?he ?_
  case he => (first | rfl | (go_simp; (try with_reducible rfl)))
  (try simp only [Act.put, sA, sB, sC])
  refine wpList_nil ?_
  go_upto_region 3 with fail
  refine wp_region_lit ?_
  refine wpList_wp (by rfl) (fun K hK => ?_)
  refine wp_new (fun b => .slice (some ⟨b, 0, none⟩) 0 0) 5 #[] (by rintro b rfl; first | rfl | kernel_rfl) ?_
  intro bn5 w2 hge hB hb
  refine hK.out _ _ ?_
  clear hK K
  (try simp only [Act.put, sA, sB, sC])
  have HGn5 := Lib.hid (show w.heap.size ≤ bn5 by have := Since.size HS1.out; omega)
  have HS2 := Lib.hid (Since.trans HS1.out hb)
  clear HS1 
  clear hb hge
  have HBn52 := Lib.hid hB
  clear hB
  refine wpList_q (by rfl) (.slice (some ad) n c) ?he ?_
  case he => (first | rfl | (go_simp; (try with_reducible rfl)))
  (try simp only [Act.put, sA, sB, sC])
  refine wpList_wp (by rfl) (fun K hK => ?_)
  have HOE := Lib.hid (own_empty (e := 5) (size := 1) HBn52.out HGn5.out)
  clear HBn52
  refine wp_append_row (.tmp 5) (.tmp 6) 22 rfl w.heap.size 5 (Value.int .u8 0) 1 1 Try.underlying22 (by kernel_rfl) rfl (by decide) (by decide) (some ⟨bn5, 0, none⟩) 0 0 ([]) rfl HOE.out _ (some ad) n c (cells zs) rfl (bv_reads (keep_bv HS2.out HB.out)) (Byt.cells_one zs) (by have := HN.out; omega) (Since.size HS2.out) n (cells zs) (Nat.zero_add _) rfl ?_
  intro A_1 c_1 w3 hown hupd hfar
  refine hK.out _ _ ?_
  clear hK K
  (try simp only [Act.put, sA, sB, sC])
  have HS3 := Lib.hid (Since.upd HS2.out hupd (own_low HOE.out))
  have HFr3 := Lib.hid hown
  clear hupd hown hfar HS2 HOE
  refine wpList_q (by rfl) (.slice A_1 n c_1) ?he ?_
  case he => (first | rfl | (go_simp; (try with_reducible rfl)))
  (try simp only [Act.put, sA, sB, sC])
  refine wpList_nil ?_
  (try go_wp2_with fail)
  go_ret
  exact ⟨A_1, c_1, rfl, HFr3.out, HS3.out⟩
theorem cloneB (A : Option Addr) (n c : Nat) (zs : List Int) (w : World) (hb : BV w A n zs) (hn : n ≤ 1000000) : Calls Try.prog 27 #[.slice A n c] w fun e w' => ∃ A' c', e = .returned (.slice A' n c') ∧ w'.ownsRow w.heap.size 5 1 (.slice A' n c') n (cells zs) ∧ Since w w' := by
  cases A with
  | some ad => exact cloneSome ad n c zs w hb hn
  | none =>
    have h0 : n = 0 := by
      rcases hb.2.2.2 with h | ⟨_, _, h, _⟩
      · exact h
      · cases h
    subst h0
    have hz : zs = [] := List.eq_nil_of_length_eq_zero hb.1
    subst hz
    refine (cloneNil c w).mono ?_
    rintro e w1 ⟨rfl, hs⟩
    exact ⟨none, 0, rfl, World.ownsRow_nil _ _ _ _, hs⟩
set_option maxHeartbeats 4000000 in
theorem equalYes (A : Option Addr) (n c : Nat) (A2 : Option Addr) (m c2 : Nat) (zs ys : List Int) (w : World) (ha : BV w A n zs) (hb : BV w A2 m ys) (he : zs = ys) : Calls Try.prog 29 #[.slice A n c, .slice A2 m c2] w fun e w' => e = .returned (.bool true) ∧ Since w w' := by
  have HA := Lib.hid ha
  clear ha
  have HB := Lib.hid hb
  clear hb
  have HE := Lib.hid he
  clear he
  go_enter Try.func29, Try.ntmps29
  go_upto_region 1 with fail
  have HS1 := Lib.hid (Since.refl w)
  refine wp_region_lit ?_
  refine wpList_q (by rfl) (.slice A n c) ?he ?_
  case he => (first | rfl | (go_simp; (try with_reducible rfl)))
  (try simp only [Act.put, sA, sB, sC])
  refine wpList_q (by rfl) (.string (strOfNums zs)) ?he ?_
  case he => exact exec_str 22 5 9 _ (keep_bv HS1.out HA.out) rfl rfl Try.underlying22 Try.underlying5 Try.underlying9
  (try simp only [Act.put, sA, sB, sC])
  refine wpList_q (by rfl) (.slice A2 m c2) ?he ?_
  case he => (first | rfl | (go_simp; (try with_reducible rfl)))
  (try simp only [Act.put, sA, sB, sC])
  refine wpList_q (by rfl) (.string (strOfNums ys)) ?he ?_
  case he => exact exec_str 22 5 9 _ (keep_bv HS1.out HB.out) rfl rfl Try.underlying22 Try.underlying5 Try.underlying9
  (try simp only [Act.put, sA, sB, sC])
  refine wpList_q (by rfl) (.bool true) ?he ?_
  case he => (have q := HE.out; subst q; go_simp; (first | done | rfl | simp))
  (try simp only [Act.put, sA, sB, sC])
  refine wpList_q (by rfl) (.bool true) ?he ?_
  case he => (first | rfl | (go_simp; (try with_reducible rfl)))
  (try simp only [Act.put, sA, sB, sC])
  refine wpList_nil ?_
  (try go_wp2_with fail)
  go_ret
  exact ⟨rfl, HS1.out⟩
set_option maxHeartbeats 4000000 in
theorem equalNo (A : Option Addr) (n c : Nat) (A2 : Option Addr) (m c2 : Nat) (zs ys : List Int) (w : World) (ha : BV w A n zs) (hb : BV w A2 m ys) (he : zs ≠ ys) : Calls Try.prog 29 #[.slice A n c, .slice A2 m c2] w fun e w' => e = .returned (.bool false) ∧ Since w w' := by
  have HA := Lib.hid ha
  clear ha
  have HB := Lib.hid hb
  clear hb
  have HE := Lib.hid he
  clear he
  go_enter Try.func29, Try.ntmps29
  go_upto_region 1 with fail
  have HS1 := Lib.hid (Since.refl w)
  refine wp_region_lit ?_
  refine wpList_q (by rfl) (.slice A n c) ?he ?_
  case he => (first | rfl | (go_simp; (try with_reducible rfl)))
  (try simp only [Act.put, sA, sB, sC])
  refine wpList_q (by rfl) (.string (strOfNums zs)) ?he ?_
  case he => exact exec_str 22 5 9 _ (keep_bv HS1.out HA.out) rfl rfl Try.underlying22 Try.underlying5 Try.underlying9
  (try simp only [Act.put, sA, sB, sC])
  refine wpList_q (by rfl) (.slice A2 m c2) ?he ?_
  case he => (first | rfl | (go_simp; (try with_reducible rfl)))
  (try simp only [Act.put, sA, sB, sC])
  refine wpList_q (by rfl) (.string (strOfNums ys)) ?he ?_
  case he => exact exec_str 22 5 9 _ (keep_bv HS1.out HB.out) rfl rfl Try.underlying22 Try.underlying5 Try.underlying9
  (try simp only [Act.put, sA, sB, sC])
  refine wpList_q (by rfl) (.bool false) ?he ?_
  case he => (have q : strOfNums zs ≠ strOfNums ys := fun h => HE.out ((Byt.strOfNums_eq HA.out.2.2.1 HB.out.2.2.1).1 h); have q2 : (strOfNums zs == strOfNums ys) = false := (by rw [Byt.ba_beq]; exact decide_eq_false q); go_simp; (first | done | exact q2 | rw [q2] | (exact fun h => q (Go.WideShapes.bytes_inj (by rw [← Lib.toList_data, ← Lib.toList_data]; exact h)))))
  (try simp only [Act.put, sA, sB, sC])
  refine wpList_q (by rfl) (.bool false) ?he ?_
  case he => (first | rfl | (go_simp; (try with_reducible rfl)))
  (try simp only [Act.put, sA, sB, sC])
  refine wpList_nil ?_
  (try go_wp2_with fail)
  go_ret
  exact ⟨rfl, HS1.out⟩
end Go.Proofs.Ytfggnchfkoifeaa.Fq
