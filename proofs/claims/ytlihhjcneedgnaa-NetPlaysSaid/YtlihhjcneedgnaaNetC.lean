/-
  Lose, Take, Twin: walked.
  Conditions: what stands ahead of each.
-/
import Derived.Test.YtlihhjcneedgnaaProg
import Derived.Test.YtlihhjcneedgnaaShort
import Derived.Test.YtlihhjcneedgnaaNetB
namespace Go.Proofs.Ytlihhjcneedgnaa.Nt
set_option linter.unusedVariables false
set_option linter.unusedSimpArgs false
open Go.RowKit Go.Proofs.Ytlihhjcneedgnaa.Ba Go.Proofs.Ytlihhjcneedgnaa.Mem
open Go.Proofs.Ytlihhjcneedgnaa.Byt (BV isB cells)
open Go.Proofs.Ytlihhjcneedgnaa.Mp (MapF setK exec_look wp_mapput wp_mapdel wp_mapnew)
set_option maxRecDepth 100000
attribute [local irreducible] Go.wpList
theorem setK_twice {m : Int → Option Value} {x : Int} {u v : Option Value} : setK (setK m x u) x v = setK m x v := by
  funext y; unfold setK; by_cases h : y = x
  · rw [if_pos h, if_pos h]
  · rw [if_neg h, if_neg h, if_neg h]
theorem setK_at {m : Int → Option Value} {x : Int} {u : Option Value} : setK m x u x = u := by unfold setK; rw [if_pos rfl]
theorem hasF (q b : Nat) (ends room : Int) (N : Nat) (ws : Int → Option WayV) (x : Int) (k : Int) (w : World) (hq : Blk w q 92 #[.int .i64 ends, .int .i64 room, .map (some b)]) (hm : MapF Try.prog 3 w b N (fun x => (ws x).map wayv)) (hx : (Lit.int .i64 x).wf = true) (hf : hasB ws x k = false) : Calls Try.prog 45 #[.pointer (some ⟨q, 0, none⟩), .int .i64 x, .int .i64 k] w fun e w' => e = .returned (.bool false) ∧ w = w' := by
  have h := hasT q b ends room N ws x k w hq hm hx
  rw [hf] at h; exact h
theorem row_i {w : World} {lo g n c i : Nat} {its : List ItV} {s : ItV} (h : w.ownsRow lo 55 1 (.slice (some ⟨g, 0, none⟩) n c) n (rowsOf itv its)) (hi : its[i]? = some s) : w.cell? ⟨g, 0 + i * 1, none⟩ = some (.slice s.A s.n s.c) := by
  obtain ⟨h1, h2⟩ := List.getElem?_eq_some_iff.1 hi
  have q := own_rng h (rowsOf_at itv_len h1) 0 (.slice s.A s.n s.c) (by rw [h2]; rfl)
  rw [Nat.zero_add]; exact q
set_option maxHeartbeats 4000000 in
theorem loseNil (x : Int) (k : Int) (w : World) : Calls Try.prog 25 #[.pointer none, .int .i64 x, .int .i64 k] w fun e w' => e = .returned (.bool false) ∧ w = w' := by
 go_enter Try.func25, Try.ntmps25
 go_upto_region 1 with fail
 have HS1 := Lib.hid (Since.refl w)
 refine wp_region_lit ?_
 refine tkL (.pointer none) (h := ?_)
 (try simp only [Act.put, sA, sB, sC])
 refine tkL (.int .i64 x) (h := ?_)
 (try simp only [Act.put, sA, sB, sC])
 refine tkL (.int .i64 k) (h := ?_)
 (try simp only [Act.put, sA, sB, sC])
 refine wpList_wp (by rfl) (fun K hK => ?_)
 (try go_simp)
 refine (hasNil x k _).mono ?_
 rintro e w' ⟨rfl, rfl⟩
 (try go_wp2_with fail)
 refine hK.out _ _ ?_
 clear hK K
 (try simp only [Act.put, sA, sB, sC])
 refine wpList_q (by rfl) (.bool true) ?he ?_
 case he => (go_simp; (try with_reducible rfl))
 (try simp only [Act.put, sA, sB, sC])
 refine wpList_nil ?_
 go_upto_region 2 with fail
 refine wp_region_lit ?_
 refine tkL (.bool false) (h := ?_)
 (try simp only [Act.put, sA, sB, sC])
 refine wpList_nil ?_
 (try go_wp2_with fail)
 go_ret
 exact ⟨rfl, rfl⟩
set_option maxHeartbeats 4000000 in
theorem loseMiss (q b : Nat) (ends room : Int) (N : Nat) (ws : Int → Option WayV) (x : Int) (k : Int) (w : World) (hq : Blk w q 92 #[.int .i64 ends, .int .i64 room, .map (some b)]) (hm : MapF Try.prog 3 w b N (fun x => (ws x).map wayv)) (hx : (Lit.int .i64 x).wf = true) (hf : hasB ws x k = false) : Calls Try.prog 25 #[.pointer (some ⟨q, 0, none⟩), .int .i64 x, .int .i64 k] w fun e w' => e = .returned (.bool false) ∧ w = w' := by
 have HQ := Lib.hid hq
 clear hq
 have HM := Lib.hid hm
 clear hm
 have HX := Lib.hid hx
 clear hx
 have HF := Lib.hid hf
 clear hf
 go_enter Try.func25, Try.ntmps25
 go_upto_region 1 with fail
 have HS1 := Lib.hid (Since.refl w)
 refine wp_region_lit ?_
 refine tkL (.pointer (some ⟨q, 0, none⟩)) (h := ?_)
 (try simp only [Act.put, sA, sB, sC])
 refine tkL (.int .i64 x) (h := ?_)
 (try simp only [Act.put, sA, sB, sC])
 refine tkL (.int .i64 k) (h := ?_)
 (try simp only [Act.put, sA, sB, sC])
 refine wpList_wp (by rfl) (fun K hK => ?_)
 (try go_simp)
 refine (hasF q b ends room N ws x k _ HQ.out HM.out HX.out HF.out).mono ?_
 rintro e w' ⟨rfl, rfl⟩
 (try go_wp2_with fail)
 refine hK.out _ _ ?_
 clear hK K
 (try simp only [Act.put, sA, sB, sC])
 refine wpList_q (by rfl) (.bool true) ?he ?_
 case he => (go_simp; (try with_reducible rfl))
 (try simp only [Act.put, sA, sB, sC])
 refine wpList_nil ?_
 go_upto_region 2 with fail
 refine wp_region_lit ?_
 refine tkL (.bool false) (h := ?_)
 (try simp only [Act.put, sA, sB, sC])
 refine wpList_nil ?_
 (try go_wp2_with fail)
 go_ret
 exact ⟨rfl, rfl⟩
set_option maxHeartbeats 4000000 in
theorem takeNil (x : Int) (k : Int) (w : World) : Calls Try.prog 24 #[.pointer none, .int .i64 x, .int .i64 k] w fun e w' => e = .returned (.tuple #[.slice none 0 0, .bool false]) ∧ w = w' := by
 go_enter Try.func24, Try.ntmps24
 go_upto_region 1 with fail
 have HS1 := Lib.hid (Since.refl w)
 refine wp_region_lit ?_
 refine tkL (.pointer none) (h := ?_)
 (try simp only [Act.put, sA, sB, sC])
 refine tkL (.int .i64 x) (h := ?_)
 (try simp only [Act.put, sA, sB, sC])
 refine tkL (.int .i64 k) (h := ?_)
 (try simp only [Act.put, sA, sB, sC])
 refine wpList_wp (by rfl) (fun K hK => ?_)
 (try go_simp)
 refine (hasNil x k _).mono ?_
 rintro e w' ⟨rfl, rfl⟩
 (try go_wp2_with fail)
 refine hK.out _ _ ?_
 clear hK K
 (try simp only [Act.put, sA, sB, sC])
 refine wpList_q (by rfl) (.bool true) ?he ?_
 case he => (go_simp; (try with_reducible rfl))
 (try simp only [Act.put, sA, sB, sC])
 refine wpList_nil ?_
 go_upto_region 2 with fail
 refine wp_region_lit ?_
 refine tkL (.slice none 0 0) (h := ?_)
 (try simp only [Act.put, sA, sB, sC])
 refine tkL (.bool false) (h := ?_)
 (try simp only [Act.put, sA, sB, sC])
 refine wpList_nil ?_
 (try go_wp2_with fail)
 go_ret2
 exact ⟨rfl, rfl⟩
set_option maxHeartbeats 4000000 in
theorem takeMiss (q b : Nat) (ends room : Int) (N : Nat) (ws : Int → Option WayV) (x : Int) (k : Int) (w : World) (hq : Blk w q 92 #[.int .i64 ends, .int .i64 room, .map (some b)]) (hm : MapF Try.prog 3 w b N (fun x => (ws x).map wayv)) (hx : (Lit.int .i64 x).wf = true) (hf : hasB ws x k = false) : Calls Try.prog 24 #[.pointer (some ⟨q, 0, none⟩), .int .i64 x, .int .i64 k] w fun e w' => e = .returned (.tuple #[.slice none 0 0, .bool false]) ∧ w = w' := by
 have HQ := Lib.hid hq
 clear hq
 have HM := Lib.hid hm
 clear hm
 have HX := Lib.hid hx
 clear hx
 have HF := Lib.hid hf
 clear hf
 go_enter Try.func24, Try.ntmps24
 go_upto_region 1 with fail
 have HS1 := Lib.hid (Since.refl w)
 refine wp_region_lit ?_
 refine tkL (.pointer (some ⟨q, 0, none⟩)) (h := ?_)
 (try simp only [Act.put, sA, sB, sC])
 refine tkL (.int .i64 x) (h := ?_)
 (try simp only [Act.put, sA, sB, sC])
 refine tkL (.int .i64 k) (h := ?_)
 (try simp only [Act.put, sA, sB, sC])
 refine wpList_wp (by rfl) (fun K hK => ?_)
 (try go_simp)
 refine (hasF q b ends room N ws x k _ HQ.out HM.out HX.out HF.out).mono ?_
 rintro e w' ⟨rfl, rfl⟩
 (try go_wp2_with fail)
 refine hK.out _ _ ?_
 clear hK K
 (try simp only [Act.put, sA, sB, sC])
 refine wpList_q (by rfl) (.bool true) ?he ?_
 case he => (go_simp; (try with_reducible rfl))
 (try simp only [Act.put, sA, sB, sC])
 refine wpList_nil ?_
 go_upto_region 2 with fail
 refine wp_region_lit ?_
 refine tkL (.slice none 0 0) (h := ?_)
 (try simp only [Act.put, sA, sB, sC])
 refine tkL (.bool false) (h := ?_)
 (try simp only [Act.put, sA, sB, sC])
 refine wpList_nil ?_
 (try go_wp2_with fail)
 go_ret2
 exact ⟨rfl, rfl⟩
set_option maxHeartbeats 4000000 in
theorem twinNil (x : Int) (k : Int) (w : World) : Calls Try.prog 26 #[.pointer none, .int .i64 x, .int .i64 k] w fun e w' => e = .returned (.bool false) ∧ w = w' := by
 go_enter Try.func26, Try.ntmps26
 go_upto_region 1 with fail
 have HS1 := Lib.hid (Since.refl w)
 refine wp_region_lit ?_
 refine tkL (.pointer none) (h := ?_)
 (try simp only [Act.put, sA, sB, sC])
 refine tkL (.int .i64 x) (h := ?_)
 (try simp only [Act.put, sA, sB, sC])
 refine tkL (.int .i64 k) (h := ?_)
 (try simp only [Act.put, sA, sB, sC])
 refine wpList_wp (by rfl) (fun K hK => ?_)
 (try go_simp)
 refine (hasNil x k _).mono ?_
 rintro e w' ⟨rfl, rfl⟩
 (try go_wp2_with fail)
 refine hK.out _ _ ?_
 clear hK K
 (try simp only [Act.put, sA, sB, sC])
 refine tkL (.bool false) (h := ?_)
 (try simp only [Act.put, sA, sB, sC])
 refine wpList_no (by rfl) ?_
 (try simp only [Act.put, sA, sB, sC])
 refine wpList_no (by rfl) ?_
 (try simp only [Act.put, sA, sB, sC])
 refine wpList_no (by rfl) ?_
 (try simp only [Act.put, sA, sB, sC])
 refine wpList_no (by rfl) ?_
 (try simp only [Act.put, sA, sB, sC])
 refine wpList_no (by rfl) ?_
 (try simp only [Act.put, sA, sB, sC])
 refine wpList_no (by rfl) ?_
 (try simp only [Act.put, sA, sB, sC])
 refine wpList_no (by rfl) ?_
 (try simp only [Act.put, sA, sB, sC])
 refine wpList_no (by rfl) ?_
 (try simp only [Act.put, sA, sB, sC])
 refine wpList_no (by rfl) ?_
 (try simp only [Act.put, sA, sB, sC])
 refine wpList_no (by rfl) ?_
 (try simp only [Act.put, sA, sB, sC])
 refine wpList_no (by rfl) ?_
 (try simp only [Act.put, sA, sB, sC])
 refine wpList_no (by rfl) ?_
 (try simp only [Act.put, sA, sB, sC])
 refine tkL (.bool false) (h := ?_)
 (try simp only [Act.put, sA, sB, sC])
 refine tkL (.bool false) (h := ?_)
 (try simp only [Act.put, sA, sB, sC])
 refine wpList_nil ?_
 (try go_wp2_with fail)
 go_ret
 exact ⟨rfl, rfl⟩
set_option maxHeartbeats 4000000 in
theorem twinMiss (q b : Nat) (ends room : Int) (N : Nat) (ws : Int → Option WayV) (x : Int) (k : Int) (w : World) (hq : Blk w q 92 #[.int .i64 ends, .int .i64 room, .map (some b)]) (hm : MapF Try.prog 3 w b N (fun x => (ws x).map wayv)) (hx : (Lit.int .i64 x).wf = true) (hf : hasB ws x k = false) : Calls Try.prog 26 #[.pointer (some ⟨q, 0, none⟩), .int .i64 x, .int .i64 k] w fun e w' => e = .returned (.bool false) ∧ w = w' := by
 have HQ := Lib.hid hq
 clear hq
 have HM := Lib.hid hm
 clear hm
 have HX := Lib.hid hx
 clear hx
 have HF := Lib.hid hf
 clear hf
 go_enter Try.func26, Try.ntmps26
 go_upto_region 1 with fail
 have HS1 := Lib.hid (Since.refl w)
 refine wp_region_lit ?_
 refine tkL (.pointer (some ⟨q, 0, none⟩)) (h := ?_)
 (try simp only [Act.put, sA, sB, sC])
 refine tkL (.int .i64 x) (h := ?_)
 (try simp only [Act.put, sA, sB, sC])
 refine tkL (.int .i64 k) (h := ?_)
 (try simp only [Act.put, sA, sB, sC])
 refine wpList_wp (by rfl) (fun K hK => ?_)
 (try go_simp)
 refine (hasF q b ends room N ws x k _ HQ.out HM.out HX.out HF.out).mono ?_
 rintro e w' ⟨rfl, rfl⟩
 (try go_wp2_with fail)
 refine hK.out _ _ ?_
 clear hK K
 (try simp only [Act.put, sA, sB, sC])
 refine tkL (.bool false) (h := ?_)
 (try simp only [Act.put, sA, sB, sC])
 refine wpList_no (by rfl) ?_
 (try simp only [Act.put, sA, sB, sC])
 refine wpList_no (by rfl) ?_
 (try simp only [Act.put, sA, sB, sC])
 refine wpList_no (by rfl) ?_
 (try simp only [Act.put, sA, sB, sC])
 refine wpList_no (by rfl) ?_
 (try simp only [Act.put, sA, sB, sC])
 refine wpList_no (by rfl) ?_
 (try simp only [Act.put, sA, sB, sC])
 refine wpList_no (by rfl) ?_
 (try simp only [Act.put, sA, sB, sC])
 refine wpList_no (by rfl) ?_
 (try simp only [Act.put, sA, sB, sC])
 refine wpList_no (by rfl) ?_
 (try simp only [Act.put, sA, sB, sC])
 refine wpList_no (by rfl) ?_
 (try simp only [Act.put, sA, sB, sC])
 refine wpList_no (by rfl) ?_
 (try simp only [Act.put, sA, sB, sC])
 refine wpList_no (by rfl) ?_
 (try simp only [Act.put, sA, sB, sC])
 refine wpList_no (by rfl) ?_
 (try simp only [Act.put, sA, sB, sC])
 refine tkL (.bool false) (h := ?_)
 (try simp only [Act.put, sA, sB, sC])
 refine tkL (.bool false) (h := ?_)
 (try simp only [Act.put, sA, sB, sC])
 refine wpList_nil ?_
 (try go_wp2_with fail)
 go_ret
 exact ⟨rfl, rfl⟩
set_option maxHeartbeats 4000000 in
theorem loseLast (lo q b : Nat) (ends room : Int) (N : Nat) (ws : Int → Option WayV) (x : Int) (g c m k0 : Nat) (its : List ItV) (w : World) (hq : Blk w q 92 #[.int .i64 ends, .int .i64 room, .map (some b)]) (hm : MapF Try.prog 3 w b N (fun x => (ws x).map wayv)) (hx : (Lit.int .i64 x).wf = true) (hw : ws x = some ⟨g, c, its⟩) (hl : its.length = m + 1) (hk : k0 ≤ m) (hc : m + 1 ≤ c) (h1 : m + 1 ≤ 10000) (hr : w.ownsRow lo 55 1 (.slice (some ⟨g, 0, none⟩) (m + 1) c) (m + 1) (rowsOf itv its)) (hN : N < 1000000) (h0 : m = 0) : Calls Try.prog 25 #[.pointer (some ⟨q, 0, none⟩), .int .i64 x, .int .i64 (k0 : Int)] w fun e w' => e = .returned (.bool true) ∧ Blk w' q 92 #[.int .i64 ends, .int .i64 room, .map (some b)] ∧ MapF Try.prog 3 w' b (N + 1) (setK (fun x => (ws x).map wayv) x none) ∧ w'.ownsRow lo 55 1 (.slice (some ⟨g, 0, none⟩) m c) m (rowsOf itv (its.eraseIdx k0)) ∧ Upd [b, g] w w' := by
 have HQ := Lib.hid hq
 clear hq
 have HM := Lib.hid hm
 clear hm
 have HX := Lib.hid hx
 clear hx
 have HW := Lib.hid hw
 clear hw
 have HL := Lib.hid hl
 clear hl
 have HK := Lib.hid hk
 clear hk
 have HC := Lib.hid hc
 clear hc
 have H1 := Lib.hid h1
 clear h1
 have HR := Lib.hid hr
 clear hr
 have HNN := Lib.hid hN
 clear hN
 have H0 := Lib.hid h0
 clear h0
 have HIQ := Lib.hid (show q ∉ [g] from own_ne_ty HR.out HQ.out (by decide))
 have HIM := Lib.hid (show q ∉ [b] from fun hg => map_ne HM.out HQ.out (List.mem_singleton.1 hg).symm)
 have HMR := Lib.hid (show ∀ x ∈ [b], x ∉ [g] from fun x hg => by rw [List.mem_singleton.1 hg]; exact map_own HM.out HR.out)
 have HLN := Lib.hid (show lenW ws x = m + 1 by unfold lenW; rw [HW.out]; exact HL.out)
 go_enter Try.func25, Try.ntmps25
 go_upto_region 1 with fail
 have HS1 := Lib.hid (Upd.refl [b, g] w)
 refine wp_region_lit ?_
 refine tkL (.pointer (some ⟨q, 0, none⟩)) (h := ?_)
 (try simp only [Act.put, sA, sB, sC])
 refine tkL (.int .i64 x) (h := ?_)
 (try simp only [Act.put, sA, sB, sC])
 refine tkL (.int .i64 (k0 : Int)) (h := ?_)
 (try simp only [Act.put, sA, sB, sC])
 refine wpList_wp (by rfl) (fun K hK => ?_)
 (try go_simp)
 refine (hasLt q b ends room N ws x (k0 : Int) _ HQ.out HM.out HX.out (by omega) (by have := HLN.out; have := HK.out; omega)).mono ?_
 rintro e w' ⟨rfl, rfl⟩
 (try go_wp2_with fail)
 refine hK.out _ _ ?_
 clear hK K
 (try simp only [Act.put, sA, sB, sC])
 refine wpList_q (by rfl) (.bool false) ?he ?_
 case he => (go_simp; (try with_reducible rfl))
 (try simp only [Act.put, sA, sB, sC])
 refine wpList_nil ?_
 go_upto_region 3 with fail
 have HKS : Hid (KeepS (fun W : World => Upd [b, g] w W ∧ Blk W q 92 #[.int .i64 ends, .int .i64 room, .map (some b)]) w) := Lib.hid ⟨fun W W' k ⟨h, h0⟩ => ⟨h.trans k, keep_blk k h0⟩, ⟨HS1.out, HQ.out⟩⟩
 have HRK := Lib.hid HKS.out.1
 have HEM := Lib.hid (show MapF Try.prog 3 (World.drew w) b N (fun x => (ws x).map wayv) from HM.out)
 clear HM
 have HEr := Lib.hid (show ((World.drew w)).ownsRow lo 55 1 (.slice (some ⟨g, 0, none⟩) (m + 1) c) (m + 1) (rowsOf itv its) from HR.out)
 clear HR
 refine wp_held HKS.out (by kernel_rfl) (fun hHeld => ?_)
 refine tkQ 0 (.pointer (some ⟨q, 0, none⟩)) hHeld (h := ?_)
 (try simp only [Act.put, sA, sB, sC])
 refine tkQ 1 (.pointer (some ⟨q, 0, none⟩)) hHeld (h := ?_)
 (try simp only [Act.put, sA, sB, sC])
 refine tkQ 2 (.pointer (some ⟨q, 2, none⟩)) hHeld (h := ?_)
 (try simp only [Act.put, sA, sB, sC])
 refine tkQ 3 (.map (some b)) hHeld (he := by intro w hSw; exact exec_cell 90 _ _ hSw.2 rfl rfl rfl Try.underlying90 rfl) (h := ?_)
 (try simp only [Act.put, sA, sB, sC])
 refine tkQ 4 (.int .i64 x) hHeld (h := ?_)
 (try simp only [Act.put, sA, sB, sC])
 refine tkQ 5 (.pointer (some ⟨q, 0, none⟩)) hHeld (h := ?_)
 (try simp only [Act.put, sA, sB, sC])
 refine tkQ 6 (.pointer (some ⟨q, 0, none⟩)) hHeld (h := ?_)
 (try simp only [Act.put, sA, sB, sC])
 refine tkQ 7 (.pointer (some ⟨q, 2, none⟩)) hHeld (h := ?_)
 (try simp only [Act.put, sA, sB, sC])
 refine tkQ 8 (.map (some b)) hHeld (he := by intro w hSw; exact exec_cell 90 _ _ hSw.2 rfl rfl rfl Try.underlying90 rfl) (h := ?_)
 (try simp only [Act.put, sA, sB, sC])
 refine tkQ 9 (.int .i64 x) hHeld (h := ?_)
 (try simp only [Act.put, sA, sB, sC])
 refine tkQ 11 (.int .i64 (k0 : Int)) hHeld (h := ?_)
 (try simp only [Act.put, sA, sB, sC])
 refine tkQ 12 (.int .i64 (k0 : Int)) hHeld (h := ?_)
 (try simp only [Act.put, sA, sB, sC])
 refine tkQ 13 (.int .i64 ((k0 : Int) + 1)) hHeld (he := by intro w hSw; (go_simp; (first | done | (refine wr64 _ ?_ ?_ <;> (have q0 := HK.out; have q1 := H1.out; omega)) | (have q0 := HK.out; have q1 := H1.out; omega) | (have q0 := HK.out; have q1 := H1.out; split <;> omega) | (have q0 := HK.out; have q1 := H1.out; intro hh; omega)))) (h := ?_)
 (try simp only [Act.put, sA, sB, sC])
 refine wpAnyH_ready (rs := [10]) (by kernel_rfl) (by simp) ?_
 refine AllReadyH.cons (o := ?o3__10) ?h3__10 (fun K hK => ?_) AllReadyH.nil
 case h3__10 => (first | (simp only [gA, gB, gC]; done) | (simp only [gA, gB, gC]; exact rfl))
 rw [if_pos (by rfl)]
 refine wp_q (.slice (some ⟨g, 0, none⟩) (m + 1) c) ?e3__10 ?_
 case e3__10 => exact exec_look (k := 3) (e := 93) _ _ 90 rfl Try.underlying3 Try.underlying90 (z := .slice none 0 0) zero_row HEM.out rfl rfl HX.out (by show ((ws x).map wayv).getD _ = _; rw [HW.out, ← HL.out]; rfl)
 refine hK.out _ _ hHeld (fun hHeld2 => ?_)
 clear hK K hHeld2
 (try simp only [Act.put, sA, sB, sC])
 refine wpAnyH_ready (rs := [14]) (by kernel_rfl) (by simp) ?_
 refine AllReadyH.cons (o := ?o3__14) ?h3__14 (fun K hK => ?_) AllReadyH.nil
 case h3__14 => (first | (simp only [gA, gB, gC]; done) | (simp only [gA, gB, gC]; exact rfl))
 (try go_simp)
 refine (deleteT lo g m c k0 its _ HEr.out HL.out HK.out HC.out (by have := H1.out; omega)).mono ?_
 rintro e w2 ⟨rfl, hobj, hupd⟩
 (try go_wp2_with fail)
 have hfar : ∀ x ∈ [g], x ∈ [g] ∨ w.heap.size ≤ x := fun _ h => .inl h
 have hHeld3 := HKS.out.at_ w2 ⟨Upd.comp hHeld.1 hupd (fun g hg => .inl (by rw [List.mem_singleton.1 hg]; simp)), Upd.blk hupd (hHeld.2) HIQ.out⟩
 have HEMuw2 := Lib.hid (MapFS.upd hupd HEM.out HMR.out)
 clear HEM
 have HUr_w2 := Lib.hid hobj
 clear HEr
 refine hK.out _ _ hHeld3 (fun hHeld2 => ?_)
 clear hK K hHeld hHeld3 hupd hobj hfar
 have hHeld := hHeld2
 clear hHeld2
 (try simp only [Act.put, sA, sB, sC])
 refine wpAnyH_ready (rs := [15]) (by kernel_rfl) (by simp) ?_
 refine AllReadyH.cons (o := ?o3__15) ?h3__15 (fun K hK => ?_) AllReadyH.nil
 case h3__15 => (first | (simp only [gA, gB, gC]; done) | (simp only [gA, gB, gC]; exact rfl))
 rw [if_pos (by rfl)]
 refine wp_mapput (P := Try.prog) (k := 3) (e := 93) _ _ _ 90 rfl Try.underlying3 Try.underlying90 HEMuw2.out HNN.out rfl rfl HX.out (u := .slice (some ⟨g, 0, none⟩) m c) rfl ?_
 intro w3 hobj hupd
 have hfar : ∀ x ∈ [b], x ∈ [b] ∨ w2.heap.size ≤ x := fun _ h => .inl h
 have hHeld3 := HKS.out.at_ w3 ⟨Upd.comp hHeld.1 hupd (fun g hg => .inl (by rw [List.mem_singleton.1 hg]; simp)), Upd.blk hupd (hHeld.2) HIM.out⟩
 have HUr_w2uw3 := Lib.hid (Upd.own hupd HUr_w2.out (fun g hg h => HMR.out g h hg))
 clear HUr_w2
 have HUM_w3 := Lib.hid hobj
 clear HEMuw2
 refine hK.out _ _ hHeld3 (fun hHeld2 => ?_)
 clear hK K hHeld hHeld3 hupd hobj hfar
 have hHeld := hHeld2
 clear hHeld2
 (try simp only [Act.put, sA, sB, sC])
 refine wpAnyH_done (by kernel_rfl) ?_ _
 have HSd3 := Lib.hid hHeld.1
 have HBQd3 := Lib.hid (hHeld.2)
 clear hHeld HRK HKS HS1 HQ
 have HFMd3 := Lib.hid HUM_w3.out
 clear HUM_w3
 have HFrd3 := Lib.hid HUr_w2uw3.out
 clear HUr_w2uw3
 go_upto_region 4 with fail
 refine wp_region_lit ?_
 refine tkL (.pointer (some ⟨q, 0, none⟩)) (h := ?_)
 (try simp only [Act.put, sA, sB, sC])
 refine tkL (.int .i64 x) (h := ?_)
 (try simp only [Act.put, sA, sB, sC])
 refine wpList_wp (by rfl) (fun K hK => ?_)
 (try go_simp)
 refine (lenA q b ends room (N + 1) _ x _ _ m _ _ HBQd3.out HFMd3.out HX.out setK_at rfl).mono ?_
 rintro e w' ⟨rfl, rfl⟩
 (try go_wp2_with fail)
 refine hK.out _ _ ?_
 clear hK K
 (try simp only [Act.put, sA, sB, sC])
 refine wpList_q (by rfl) (.bool true) ?he ?_
 case he => (have q0 := H0.out; go_simp; (first | done | rfl | omega))
 (try simp only [Act.put, sA, sB, sC])
 refine wpList_nil ?_
 go_upto_region 5 with fail
 refine wp_region_lit ?_
 refine tkL (.pointer (some ⟨q, 0, none⟩)) (h := ?_)
 (try simp only [Act.put, sA, sB, sC])
 refine tkL (.pointer (some ⟨q, 0, none⟩)) (h := ?_)
 (try simp only [Act.put, sA, sB, sC])
 refine tkL (.pointer (some ⟨q, 2, none⟩)) (h := ?_)
 (try simp only [Act.put, sA, sB, sC])
 refine wpList_q (by rfl) (.map (some b)) ?he ?_
 case he => exact exec_cell 90 _ _ HBQd3.out rfl rfl rfl Try.underlying90 rfl
 (try simp only [Act.put, sA, sB, sC])
 refine tkL (.int .i64 x) (h := ?_)
 (try simp only [Act.put, sA, sB, sC])
 refine wpList_wp (by rfl) (fun K hK => ?_)
 refine wp_mapdel (P := Try.prog) (k := 3) (e := 93) (.tmp 34) (.tmp 35) 90 rfl Try.underlying3 Try.underlying90 HFMd3.out rfl rfl HX.out ?_
 intro w4 hM hu
 refine hK.out _ _ ?_
 clear hK K
 (try simp only [Act.put, sA, sB, sC])
 rw [setK_twice] at hM
 have HS4 := Lib.hid (Upd.comp HSd3.out hu (fun g hg => .inl (by rw [List.mem_singleton.1 hg]; simp)))
 have HQ4 := Lib.hid (Upd.blk hu HBQd3.out HIM.out)
 have HM4 := Lib.hid hM
 have HR4 := Lib.hid (Upd.own hu HFrd3.out (fun g hg h => HMR.out g h (by simpa [blkOf] using hg)))
 clear hM hu
 refine wpList_nil ?_
 go_upto_region 6 with fail
 refine wp_region_lit ?_
 refine tkL (.bool true) (h := ?_)
 (try simp only [Act.put, sA, sB, sC])
 refine wpList_nil ?_
 (try go_wp2_with fail)
 go_ret
 exact ⟨rfl, HQ4.out, HM4.out, HR4.out, HS4.out⟩
set_option maxHeartbeats 4000000 in
theorem loseMore (lo q b : Nat) (ends room : Int) (N : Nat) (ws : Int → Option WayV) (x : Int) (g c m k0 : Nat) (its : List ItV) (w : World) (hq : Blk w q 92 #[.int .i64 ends, .int .i64 room, .map (some b)]) (hm : MapF Try.prog 3 w b N (fun x => (ws x).map wayv)) (hx : (Lit.int .i64 x).wf = true) (hw : ws x = some ⟨g, c, its⟩) (hl : its.length = m + 1) (hk : k0 ≤ m) (hc : m + 1 ≤ c) (h1 : m + 1 ≤ 10000) (hr : w.ownsRow lo 55 1 (.slice (some ⟨g, 0, none⟩) (m + 1) c) (m + 1) (rowsOf itv its)) (hN : N < 1000000) (h0 : ¬ m = 0) : Calls Try.prog 25 #[.pointer (some ⟨q, 0, none⟩), .int .i64 x, .int .i64 (k0 : Int)] w fun e w' => e = .returned (.bool true) ∧ Blk w' q 92 #[.int .i64 ends, .int .i64 room, .map (some b)] ∧ MapF Try.prog 3 w' b (N + 1) (setK (fun x => (ws x).map wayv) x (some (.slice (some ⟨g, 0, none⟩) m c))) ∧ w'.ownsRow lo 55 1 (.slice (some ⟨g, 0, none⟩) m c) m (rowsOf itv (its.eraseIdx k0)) ∧ Upd [b, g] w w' := by
 have HQ := Lib.hid hq
 clear hq
 have HM := Lib.hid hm
 clear hm
 have HX := Lib.hid hx
 clear hx
 have HW := Lib.hid hw
 clear hw
 have HL := Lib.hid hl
 clear hl
 have HK := Lib.hid hk
 clear hk
 have HC := Lib.hid hc
 clear hc
 have H1 := Lib.hid h1
 clear h1
 have HR := Lib.hid hr
 clear hr
 have HNN := Lib.hid hN
 clear hN
 have H0 := Lib.hid h0
 clear h0
 have HIQ := Lib.hid (show q ∉ [g] from own_ne_ty HR.out HQ.out (by decide))
 have HIM := Lib.hid (show q ∉ [b] from fun hg => map_ne HM.out HQ.out (List.mem_singleton.1 hg).symm)
 have HMR := Lib.hid (show ∀ x ∈ [b], x ∉ [g] from fun x hg => by rw [List.mem_singleton.1 hg]; exact map_own HM.out HR.out)
 have HLN := Lib.hid (show lenW ws x = m + 1 by unfold lenW; rw [HW.out]; exact HL.out)
 go_enter Try.func25, Try.ntmps25
 go_upto_region 1 with fail
 have HS1 := Lib.hid (Upd.refl [b, g] w)
 refine wp_region_lit ?_
 refine tkL (.pointer (some ⟨q, 0, none⟩)) (h := ?_)
 (try simp only [Act.put, sA, sB, sC])
 refine tkL (.int .i64 x) (h := ?_)
 (try simp only [Act.put, sA, sB, sC])
 refine tkL (.int .i64 (k0 : Int)) (h := ?_)
 (try simp only [Act.put, sA, sB, sC])
 refine wpList_wp (by rfl) (fun K hK => ?_)
 (try go_simp)
 refine (hasLt q b ends room N ws x (k0 : Int) _ HQ.out HM.out HX.out (by omega) (by have := HLN.out; have := HK.out; omega)).mono ?_
 rintro e w' ⟨rfl, rfl⟩
 (try go_wp2_with fail)
 refine hK.out _ _ ?_
 clear hK K
 (try simp only [Act.put, sA, sB, sC])
 refine wpList_q (by rfl) (.bool false) ?he ?_
 case he => (go_simp; (try with_reducible rfl))
 (try simp only [Act.put, sA, sB, sC])
 refine wpList_nil ?_
 go_upto_region 3 with fail
 have HKS : Hid (KeepS (fun W : World => Upd [b, g] w W ∧ Blk W q 92 #[.int .i64 ends, .int .i64 room, .map (some b)]) w) := Lib.hid ⟨fun W W' k ⟨h, h0⟩ => ⟨h.trans k, keep_blk k h0⟩, ⟨HS1.out, HQ.out⟩⟩
 have HRK := Lib.hid HKS.out.1
 have HEM := Lib.hid (show MapF Try.prog 3 (World.drew w) b N (fun x => (ws x).map wayv) from HM.out)
 clear HM
 have HEr := Lib.hid (show ((World.drew w)).ownsRow lo 55 1 (.slice (some ⟨g, 0, none⟩) (m + 1) c) (m + 1) (rowsOf itv its) from HR.out)
 clear HR
 refine wp_held HKS.out (by kernel_rfl) (fun hHeld => ?_)
 refine tkQ 0 (.pointer (some ⟨q, 0, none⟩)) hHeld (h := ?_)
 (try simp only [Act.put, sA, sB, sC])
 refine tkQ 1 (.pointer (some ⟨q, 0, none⟩)) hHeld (h := ?_)
 (try simp only [Act.put, sA, sB, sC])
 refine tkQ 2 (.pointer (some ⟨q, 2, none⟩)) hHeld (h := ?_)
 (try simp only [Act.put, sA, sB, sC])
 refine tkQ 3 (.map (some b)) hHeld (he := by intro w hSw; exact exec_cell 90 _ _ hSw.2 rfl rfl rfl Try.underlying90 rfl) (h := ?_)
 (try simp only [Act.put, sA, sB, sC])
 refine tkQ 4 (.int .i64 x) hHeld (h := ?_)
 (try simp only [Act.put, sA, sB, sC])
 refine tkQ 5 (.pointer (some ⟨q, 0, none⟩)) hHeld (h := ?_)
 (try simp only [Act.put, sA, sB, sC])
 refine tkQ 6 (.pointer (some ⟨q, 0, none⟩)) hHeld (h := ?_)
 (try simp only [Act.put, sA, sB, sC])
 refine tkQ 7 (.pointer (some ⟨q, 2, none⟩)) hHeld (h := ?_)
 (try simp only [Act.put, sA, sB, sC])
 refine tkQ 8 (.map (some b)) hHeld (he := by intro w hSw; exact exec_cell 90 _ _ hSw.2 rfl rfl rfl Try.underlying90 rfl) (h := ?_)
 (try simp only [Act.put, sA, sB, sC])
 refine tkQ 9 (.int .i64 x) hHeld (h := ?_)
 (try simp only [Act.put, sA, sB, sC])
 refine tkQ 11 (.int .i64 (k0 : Int)) hHeld (h := ?_)
 (try simp only [Act.put, sA, sB, sC])
 refine tkQ 12 (.int .i64 (k0 : Int)) hHeld (h := ?_)
 (try simp only [Act.put, sA, sB, sC])
 refine tkQ 13 (.int .i64 ((k0 : Int) + 1)) hHeld (he := by intro w hSw; (go_simp; (first | done | (refine wr64 _ ?_ ?_ <;> (have q0 := HK.out; have q1 := H1.out; omega)) | (have q0 := HK.out; have q1 := H1.out; omega) | (have q0 := HK.out; have q1 := H1.out; split <;> omega) | (have q0 := HK.out; have q1 := H1.out; intro hh; omega)))) (h := ?_)
 (try simp only [Act.put, sA, sB, sC])
 refine wpAnyH_ready (rs := [10]) (by kernel_rfl) (by simp) ?_
 refine AllReadyH.cons (o := ?o3__10) ?h3__10 (fun K hK => ?_) AllReadyH.nil
 case h3__10 => (first | (simp only [gA, gB, gC]; done) | (simp only [gA, gB, gC]; exact rfl))
 rw [if_pos (by rfl)]
 refine wp_q (.slice (some ⟨g, 0, none⟩) (m + 1) c) ?e3__10 ?_
 case e3__10 => exact exec_look (k := 3) (e := 93) _ _ 90 rfl Try.underlying3 Try.underlying90 (z := .slice none 0 0) zero_row HEM.out rfl rfl HX.out (by show ((ws x).map wayv).getD _ = _; rw [HW.out, ← HL.out]; rfl)
 refine hK.out _ _ hHeld (fun hHeld2 => ?_)
 clear hK K hHeld2
 (try simp only [Act.put, sA, sB, sC])
 refine wpAnyH_ready (rs := [14]) (by kernel_rfl) (by simp) ?_
 refine AllReadyH.cons (o := ?o3__14) ?h3__14 (fun K hK => ?_) AllReadyH.nil
 case h3__14 => (first | (simp only [gA, gB, gC]; done) | (simp only [gA, gB, gC]; exact rfl))
 (try go_simp)
 refine (deleteT lo g m c k0 its _ HEr.out HL.out HK.out HC.out (by have := H1.out; omega)).mono ?_
 rintro e w2 ⟨rfl, hobj, hupd⟩
 (try go_wp2_with fail)
 have hfar : ∀ x ∈ [g], x ∈ [g] ∨ w.heap.size ≤ x := fun _ h => .inl h
 have hHeld3 := HKS.out.at_ w2 ⟨Upd.comp hHeld.1 hupd (fun g hg => .inl (by rw [List.mem_singleton.1 hg]; simp)), Upd.blk hupd (hHeld.2) HIQ.out⟩
 have HEMuw2 := Lib.hid (MapFS.upd hupd HEM.out HMR.out)
 clear HEM
 have HUr_w2 := Lib.hid hobj
 clear HEr
 refine hK.out _ _ hHeld3 (fun hHeld2 => ?_)
 clear hK K hHeld hHeld3 hupd hobj hfar
 have hHeld := hHeld2
 clear hHeld2
 (try simp only [Act.put, sA, sB, sC])
 refine wpAnyH_ready (rs := [15]) (by kernel_rfl) (by simp) ?_
 refine AllReadyH.cons (o := ?o3__15) ?h3__15 (fun K hK => ?_) AllReadyH.nil
 case h3__15 => (first | (simp only [gA, gB, gC]; done) | (simp only [gA, gB, gC]; exact rfl))
 rw [if_pos (by rfl)]
 refine wp_mapput (P := Try.prog) (k := 3) (e := 93) _ _ _ 90 rfl Try.underlying3 Try.underlying90 HEMuw2.out HNN.out rfl rfl HX.out (u := .slice (some ⟨g, 0, none⟩) m c) rfl ?_
 intro w3 hobj hupd
 have hfar : ∀ x ∈ [b], x ∈ [b] ∨ w2.heap.size ≤ x := fun _ h => .inl h
 have hHeld3 := HKS.out.at_ w3 ⟨Upd.comp hHeld.1 hupd (fun g hg => .inl (by rw [List.mem_singleton.1 hg]; simp)), Upd.blk hupd (hHeld.2) HIM.out⟩
 have HUr_w2uw3 := Lib.hid (Upd.own hupd HUr_w2.out (fun g hg h => HMR.out g h hg))
 clear HUr_w2
 have HUM_w3 := Lib.hid hobj
 clear HEMuw2
 refine hK.out _ _ hHeld3 (fun hHeld2 => ?_)
 clear hK K hHeld hHeld3 hupd hobj hfar
 have hHeld := hHeld2
 clear hHeld2
 (try simp only [Act.put, sA, sB, sC])
 refine wpAnyH_done (by kernel_rfl) ?_ _
 have HSd3 := Lib.hid hHeld.1
 have HBQd3 := Lib.hid (hHeld.2)
 clear hHeld HRK HKS HS1 HQ
 have HFMd3 := Lib.hid HUM_w3.out
 clear HUM_w3
 have HFrd3 := Lib.hid HUr_w2uw3.out
 clear HUr_w2uw3
 go_upto_region 4 with fail
 refine wp_region_lit ?_
 refine tkL (.pointer (some ⟨q, 0, none⟩)) (h := ?_)
 (try simp only [Act.put, sA, sB, sC])
 refine tkL (.int .i64 x) (h := ?_)
 (try simp only [Act.put, sA, sB, sC])
 refine wpList_wp (by rfl) (fun K hK => ?_)
 (try go_simp)
 refine (lenA q b ends room (N + 1) _ x _ _ m _ _ HBQd3.out HFMd3.out HX.out setK_at rfl).mono ?_
 rintro e w' ⟨rfl, rfl⟩
 (try go_wp2_with fail)
 refine hK.out _ _ ?_
 clear hK K
 (try simp only [Act.put, sA, sB, sC])
 refine wpList_q (by rfl) (.bool false) ?he ?_
 case he => (have q0 := H0.out; go_simp; (first | done | rfl | omega))
 (try simp only [Act.put, sA, sB, sC])
 refine wpList_nil ?_
 go_upto_region 6 with fail
 refine wp_region_lit ?_
 refine tkL (.bool true) (h := ?_)
 (try simp only [Act.put, sA, sB, sC])
 refine wpList_nil ?_
 (try go_wp2_with fail)
 go_ret
 exact ⟨rfl, HBQd3.out, HFMd3.out, HFrd3.out, HSd3.out⟩
def loseW (ws : Int → Option WayV) (x : Int) (k : Nat) : Int → Option WayV := fun y => if y = x then (match ws x with | some W => if W.its.length ≤ 1 then none else some ⟨W.g, W.c, W.its.eraseIdx k⟩ | none => none) else ws y
def delC (cs : Int → List (List Int)) (x : Int) (k : Nat) : Int → List (List Int) := fun y => if y = x then (cs x).eraseIdx k else cs y
theorem era_map {α β : Type} {f : α → β} : ∀ (l : List α) (k : Nat), (l.eraseIdx k).map f = (l.map f).eraseIdx k
  | [], _ => by simp
  | a :: l, 0 => rfl
  | a :: l, k + 1 => by
    show f a :: (l.eraseIdx k).map f = f a :: (l.map f).eraseIdx k
    rw [era_map l k]
theorem cont_lose {ws : Int → Option WayV} {x : Int} {k : Nat} {W : WayV} (hw : ws x = some W) (hk : k < W.its.length) : cont (loseW ws x k) = delC (cont ws) x k := by
  funext y
  unfold cont loseW delC
  by_cases hy : y = x
  · subst hy
    simp only [if_pos, hw]
    by_cases h1 : W.its.length ≤ 1
    · rw [if_pos h1]
      have e : (W.its.map ItV.zs).eraseIdx k = [] := List.eq_nil_of_length_eq_zero (by rw [List.length_eraseIdx, if_pos (by simpa using hk), List.length_map]; omega)
      exact e.symm
    · rw [if_neg h1]
      show (W.its.eraseIdx k).map ItV.zs = (W.its.map ItV.zs).eraseIdx k
      exact era_map _ _
  · simp only [if_neg hy]
theorem cont_len {ws : Int → Option WayV} {x : Int} : lenW ws x = (cont ws x).length := by
  unfold lenW cont
  cases ws x <;> simp
theorem sub_flat {α β : Type} {f : α → List β} {l l' : List α} (h : List.Sublist l l') : List.Sublist (l.flatMap f) (l'.flatMap f) := by
  induction h with
  | slnil => exact List.Sublist.slnil
  | cons a _ ih => rw [List.flatMap_cons]; exact ih.trans (List.sublist_append_right _ _)
  | cons_cons a _ ih => rw [List.flatMap_cons, List.flatMap_cons]; exact (List.Sublist.refl _).append ih
section
variable {w w' : World} {lo q b N : Nat} {ends room : Int} {ws : Int → Option WayV} {S : List Nat} {x : Int} {W : WayV}
theorem NO.others (h : NO lo q b ends room N ws S w) (hw : ws x = some W) (hu : Upd [b, W.g] w w') : WaysAt lo (but ws x) w' :=
  (h.2.2.2.1.but x).upd hu (fun y V hy g hg => by
    obtain ⟨hne, hy⟩ := but_some hy
    rw [List.mem_cons, not_or, List.mem_singleton]
    refine ⟨?_, fun e => h.2.2.2.2.1 y x V W hy hw hne g hg (by rw [e]; exact List.mem_cons_self)⟩
    obtain ⟨h6, h7, h8⟩ := h.row hy
    rcases List.mem_cons.1 hg with rfl | hg
    · exact fun e => map_own h.2.2.1 h7 (by rw [← e]; simp [blkOf])
    · exact map_its h.2.2.1 h8 g hg)
theorem NO.row_blk (h : NO lo q b ends room N ws S w) (hw : ws x = some W) : ∃ cur, Blk w W.g 55 cur := by
  rcases own_at (h.row hw).2.1 with ⟨h6, _⟩ | ⟨g', cur, h6, _, hB, _⟩
  · cases h6
  · cases h6; exact ⟨cur, hB⟩
theorem NO.its_out (h : NO lo q b ends room N ws S w) (hw : ws x = some W) : ∀ g ∈ W.its.flatMap blkI, g ∉ [b, W.g] := fun g hg => by
  obtain ⟨cur, hB⟩ := h.row_blk hw
  rw [List.mem_cons, not_or, List.mem_singleton]
  refine ⟨map_its h.2.2.1 (h.row hw).2.2 g hg, ?_⟩
  rintro rfl
  exact its_ty (h.row hw).2.2 hB (by decide) hg
theorem NO.loseMore {k0 : Nat} {N' : Nat} (h : NO lo q b ends room N ws S w) (hw : ws x = some W) (hl : ¬ W.its.length ≤ 1) (hk : k0 < W.its.length) (hQ : Blk w' q 92 #[.int .i64 ends, .int .i64 room, .map (some b)]) (hM : MapF Try.prog 3 w' b N' (setK (fun x => (ws x).map wayv) x (some (.slice (some ⟨W.g, 0, none⟩) (W.its.length - 1) W.c))))
    (hR : w'.ownsRow lo 55 1 (.slice (some ⟨W.g, 0, none⟩) (W.its.length - 1) W.c) (W.its.length - 1) (rowsOf itv (W.its.eraseIdx k0))) (hu : Upd [b, W.g] w w') : NO lo q b ends room N' (loseW ws x k0) S w' := by
  have e : (W.its.eraseIdx k0).length = W.its.length - 1 := by rw [List.length_eraseIdx, if_pos hk]
  have e2 : loseW ws x k0 = fun y => if y = x then some ⟨W.g, W.c, W.its.eraseIdx k0⟩ else ws y := by
    funext y; unfold loseW; rw [hw]; simp only [if_neg hl]
  have hsub : List.Sublist (blkW ⟨W.g, W.c, W.its.eraseIdx k0⟩) (blkW W) := List.Sublist.cons_cons _ (sub_flat (List.eraseIdx_sublist _ _))
  rw [e2]
  refine NO.put (W' := ⟨W.g, W.c, W.its.eraseIdx k0⟩) h (fun g hg => hg) (fun g hg => h.1.2.2.2 x W hw g (hsub.subset hg)) (fun g hg => ⟨(h.1.2.2.1 g hg).1, Nat.lt_of_lt_of_le (h.1.2.2.1 g hg).2 hu.size⟩) hQ ?_ (h.others hw hu) ?_ ?_ ?_ (List.Nodup.sublist hsub (h.2.2.2.2.2 x W hw)) (fun y V hy hne g hg => h.2.2.2.2.1 x y W V hw hy (Ne.symm hne) g (hsub.subset hg))
  · show MapF _ _ _ _ _ (setK _ x (some (.slice _ (W.its.eraseIdx k0).length W.c)))
    rw [e]; exact hM
  · intro h0
    have : (W.its.eraseIdx k0).length = 0 := by rw [show W.its.eraseIdx k0 = [] from h0]; rfl
    omega
  · show World.ownsRow _ _ _ _ (.slice _ (W.its.eraseIdx k0).length W.c) (W.its.eraseIdx k0).length _
    rw [e]; exact hR
  · intro s hs
    have hs' : s ∈ W.its := (List.eraseIdx_sublist _ _).subset hs
    exact ((h.row hw).2.2 s hs').upd hu (fun g hg => h.its_out hw g (its_in hs' g hg))
theorem NO.loseLast {k0 : Nat} {N' : Nat} (h : NO lo q b ends room N ws S w) (hw : ws x = some W) (hl : W.its.length ≤ 1) (hQ : Blk w' q 92 #[.int .i64 ends, .int .i64 room, .map (some b)]) (hM : MapF Try.prog 3 w' b N' (setK (fun x => (ws x).map wayv) x none)) (hu : Upd [b, W.g] w w') : NO lo q b ends room N' (loseW ws x k0) S w' := by
  have e2 : loseW ws x k0 = but ws x := by
    funext y; unfold loseW but; rw [hw]; simp only [if_pos hl]
  rw [e2]
  exact NO.del h (fun g hg => ⟨(h.1.2.2.1 g hg).1, Nat.lt_of_lt_of_le (h.1.2.2.1 g hg).2 hu.size⟩) hQ hM (h.others hw hu)
end
theorem loseHit (lo q b : Nat) (ends room : Int) (N : Nat) (ws : Int → Option WayV) (x : Int) (S : List Nat) (W : WayV) (k0 : Nat) (w : World) (h : NO lo q b ends room N ws S w) (hx : (Lit.int .i64 x).wf = true) (hw : ws x = some W) (hk : k0 < W.its.length) (h1 : W.its.length ≤ 10000) (hN : N < 1000000) :
    Calls Try.prog 25 #[.pointer (some ⟨q, 0, none⟩), .int .i64 x, .int .i64 (k0 : Int)] w fun e w' => e = .returned (.bool true) ∧ NO lo q b ends room (N + 1) (loseW ws x k0) S w' ∧ Upd [b, W.g] w w' := by
  obtain ⟨_, hr, _⟩ := h.row hw
  have hc := own_cap2 hr
  obtain ⟨m, hm⟩ : ∃ m, W.its.length = m + 1 := ⟨W.its.length - 1, by omega⟩
  unfold RowAt at hr
  rw [hm] at hr hc
  by_cases h0 : m = 0
  · refine (loseLast lo q b ends room N ws x W.g W.c m k0 W.its w h.2.1 h.2.2.1 hx hw hm (by omega) hc (by omega) hr hN h0).mono ?_
    rintro e w1 ⟨rfl, hQ, hM, hR, hu⟩
    exact ⟨rfl, h.loseLast hw (by omega) hQ hM hu, hu⟩
  · refine (loseMore lo q b ends room N ws x W.g W.c m k0 W.its w h.2.1 h.2.2.1 hx hw hm (by omega) hc (by omega) hr hN h0).mono ?_
    rintro e w1 ⟨rfl, hQ, hM, hR, hu⟩
    have e : m = W.its.length - 1 := by omega
    rw [e] at hM hR
    exact ⟨rfl, h.loseMore hw (by omega) hk hQ hM hR hu, hu⟩
set_option maxHeartbeats 4000000 in
theorem takeHit (lo q b : Nat) (ends room : Int) (N : Nat) (ws : Int → Option WayV) (x : Int) (S : List Nat) (W : WayV) (s : ItV) (k0 : Nat) (w : World) (ho : NO lo q b ends room N ws S w) (hx : (Lit.int .i64 x).wf = true) (hw : ws x = some W) (hs : W.its[k0]? = some s) (h1 : W.its.length ≤ 10000) (hN : N < 1000000) : Calls Try.prog 24 #[.pointer (some ⟨q, 0, none⟩), .int .i64 x, .int .i64 (k0 : Int)] w fun e w' => e = .returned (.tuple #[.slice s.A s.n s.c, .bool true]) ∧ NO lo q b ends room (N + 1) (loseW ws x k0) S w' ∧ Upd [b, W.g] w w' := by
 have HO := Lib.hid ho
 clear ho
 have HX := Lib.hid hx
 clear hx
 have HW := Lib.hid hw
 clear hw
 have HSE := Lib.hid hs
 clear hs
 have H1 := Lib.hid h1
 clear h1
 have HNN := Lib.hid hN
 clear hN
 have HQ := Lib.hid (HO.out.2.1)
 have HM := Lib.hid (HO.out.2.2.1)
 have HR := Lib.hid (show w.ownsRow lo 55 1 (.slice (some ⟨W.g, 0, none⟩) W.its.length W.c) W.its.length (rowsOf itv W.its) from (NO.row HO.out HW.out).2.1)
 have HKL := Lib.hid (List.getElem?_eq_some_iff.1 HSE.out).1
 have HLN := Lib.hid (show lenW ws x = W.its.length by unfold lenW; rw [HW.out])
 have HIT := Lib.hid ((NO.row HO.out HW.out).2.2 s (List.mem_of_getElem? HSE.out))
 go_enter Try.func24, Try.ntmps24
 go_upto_region 1 with fail
 have HS1 := Lib.hid (Upd.refl S w)
 refine wp_region_lit ?_
 refine tkL (.pointer (some ⟨q, 0, none⟩)) (h := ?_)
 (try simp only [Act.put, sA, sB, sC])
 refine tkL (.int .i64 x) (h := ?_)
 (try simp only [Act.put, sA, sB, sC])
 refine tkL (.int .i64 (k0 : Int)) (h := ?_)
 (try simp only [Act.put, sA, sB, sC])
 refine wpList_wp (by rfl) (fun K hK => ?_)
 (try go_simp)
 refine (hasLt q b ends room N ws x (k0 : Int) _ HQ.out HM.out HX.out (by omega) (by have := HLN.out; have := HKL.out; omega)).mono ?_
 rintro e w' ⟨rfl, rfl⟩
 (try go_wp2_with fail)
 refine hK.out _ _ ?_
 clear hK K
 (try simp only [Act.put, sA, sB, sC])
 refine wpList_q (by rfl) (.bool false) ?he ?_
 case he => (go_simp; (try with_reducible rfl))
 (try simp only [Act.put, sA, sB, sC])
 refine wpList_nil ?_
 go_upto_region 3 with fail
 refine wp_region_lit ?_
 refine tkL (.pointer (some ⟨q, 0, none⟩)) (h := ?_)
 (try simp only [Act.put, sA, sB, sC])
 refine tkL (.pointer (some ⟨q, 0, none⟩)) (h := ?_)
 (try simp only [Act.put, sA, sB, sC])
 refine tkL (.pointer (some ⟨q, 2, none⟩)) (h := ?_)
 (try simp only [Act.put, sA, sB, sC])
 refine wpList_q (by rfl) (.map (some b)) ?he ?_
 case he => exact exec_cell 90 _ _ HQ.out rfl rfl rfl Try.underlying90 rfl
 (try simp only [Act.put, sA, sB, sC])
 refine tkL (.int .i64 x) (h := ?_)
 (try simp only [Act.put, sA, sB, sC])
 refine wpList_q (by rfl) (.slice (some ⟨W.g, 0, none⟩) W.its.length W.c) ?he ?_
 case he => exact exec_look (k := 3) (e := 93) _ _ 90 rfl Try.underlying3 Try.underlying90 (z := .slice none 0 0) zero_row HM.out rfl rfl HX.out (by show ((ws x).map wayv).getD _ = _; rw [HW.out]; rfl)
 (try simp only [Act.put, sA, sB, sC])
 refine tkL (.int .i64 (k0 : Int)) (h := ?_)
 (try simp only [Act.put, sA, sB, sC])
 refine wpList_q (by rfl) (.pointer (some ⟨W.g, 0 + k0 * 1, none⟩)) ?he ?_
 case he => exact exec_index (i := k0) (s := 1) 93 55 _ _ rfl rfl rfl rfl HKL.out Try.underlying93 (by kernel_rfl)
 (try simp only [Act.put, sA, sB, sC])
 refine wpList_q (by rfl) (.slice s.A s.n s.c) ?he ?_
 case he => exact exec_at 55 _ _ (row_i HR.out HSE.out) rfl rfl Try.underlying55 rfl
 (try simp only [Act.put, sA, sB, sC])
 refine tkL (.slice s.A s.n s.c) (h := ?_)
 (try simp only [Act.put, sA, sB, sC])
 refine wpList_nil ?_
 go_upto_region 4 with fail
 refine wp_region_lit ?_
 refine tkL (.pointer (some ⟨q, 0, none⟩)) (h := ?_)
 (try simp only [Act.put, sA, sB, sC])
 refine tkL (.int .i64 x) (h := ?_)
 (try simp only [Act.put, sA, sB, sC])
 refine tkL (.int .i64 (k0 : Int)) (h := ?_)
 (try simp only [Act.put, sA, sB, sC])
 refine wpList_wp (by rfl) (fun K hK => ?_)
 (try go_simp)
 refine (loseHit lo q b ends room N ws x S W k0 _ HO.out HX.out HW.out HKL.out H1.out HNN.out).mono ?_
 rintro e w2 ⟨rfl, hN, hu⟩
 (try go_wp2_with fail)
 refine hK.out _ _ ?_
 clear hK K
 (try simp only [Act.put, sA, sB, sC])
 have HZ := Lib.hid hN; have HUU := Lib.hid hu; clear hN hu
 refine wpList_nil ?_
 go_upto_region 5 with fail
 refine wp_region_lit ?_
 refine tkL (.slice s.A s.n s.c) (h := ?_)
 (try simp only [Act.put, sA, sB, sC])
 refine tkL (.slice s.A s.n s.c) (h := ?_)
 (try simp only [Act.put, sA, sB, sC])
 refine tkL (.bool true) (h := ?_)
 (try simp only [Act.put, sA, sB, sC])
 refine wpList_nil ?_
 (try go_wp2_with fail)
 go_ret2
 exact ⟨rfl, HZ.out, HUU.out⟩
set_option maxHeartbeats 4000000 in
theorem twinHit (lo q b : Nat) (ends room : Int) (N : Nat) (ws : Int → Option WayV) (x : Int) (S : List Nat) (W : WayV) (s : ItV) (k0 : Nat) (w : World) (ho : NO lo q b ends room N ws S w) (hx : (Lit.int .i64 x).wf = true) (hw : ws x = some W) (hs : W.its[k0]? = some s) (h1 : W.its.length ≤ 10000) (hN : N < 1000000) (hlo : lo ≤ w.heap.size) : Calls Try.prog 26 #[.pointer (some ⟨q, 0, none⟩), .int .i64 x, .int .i64 (k0 : Int)] w fun e w' => ∃ ws' S', e = .returned (.bool (putB ws ends room x)) ∧ NO lo q b ends room (N + 1) ws' S' w' ∧ cont ws' = putC (cont ws) (putB ws ends room x) x s.zs ∧ Upd S w w' ∧ ∀ g ∈ S', g ∈ S ∨ w.heap.size ≤ g := by
 have HO := Lib.hid ho
 clear ho
 have HX := Lib.hid hx
 clear hx
 have HW := Lib.hid hw
 clear hw
 have HSE := Lib.hid hs
 clear hs
 have H1 := Lib.hid h1
 clear h1
 have HNN := Lib.hid hN
 clear hN
 have HLO := Lib.hid hlo
 clear hlo
 have HQ := Lib.hid (HO.out.2.1)
 have HM := Lib.hid (HO.out.2.2.1)
 have HR := Lib.hid (show w.ownsRow lo 55 1 (.slice (some ⟨W.g, 0, none⟩) W.its.length W.c) W.its.length (rowsOf itv W.its) from (NO.row HO.out HW.out).2.1)
 have HKL := Lib.hid (List.getElem?_eq_some_iff.1 HSE.out).1
 have HLN := Lib.hid (show lenW ws x = W.its.length by unfold lenW; rw [HW.out])
 have HIT := Lib.hid ((NO.row HO.out HW.out).2.2 s (List.mem_of_getElem? HSE.out))
 go_enter Try.func26, Try.ntmps26
 go_upto_region 1 with fail
 have HS1 := Lib.hid (Upd.refl S w)
 refine wp_region_lit ?_
 refine tkL (.pointer (some ⟨q, 0, none⟩)) (h := ?_)
 (try simp only [Act.put, sA, sB, sC])
 refine tkL (.int .i64 x) (h := ?_)
 (try simp only [Act.put, sA, sB, sC])
 refine tkL (.int .i64 (k0 : Int)) (h := ?_)
 (try simp only [Act.put, sA, sB, sC])
 refine wpList_wp (by rfl) (fun K hK => ?_)
 (try go_simp)
 refine (hasLt q b ends room N ws x (k0 : Int) _ HQ.out HM.out HX.out (by omega) (by have := HLN.out; have := HKL.out; omega)).mono ?_
 rintro e w' ⟨rfl, rfl⟩
 (try go_wp2_with fail)
 refine hK.out _ _ ?_
 clear hK K
 (try simp only [Act.put, sA, sB, sC])
 refine tkL (.bool true) (h := ?_)
 (try simp only [Act.put, sA, sB, sC])
 refine tkL (.pointer (some ⟨q, 0, none⟩)) (h := ?_)
 (try simp only [Act.put, sA, sB, sC])
 refine tkL (.int .i64 x) (h := ?_)
 (try simp only [Act.put, sA, sB, sC])
 refine tkL (.pointer (some ⟨q, 0, none⟩)) (h := ?_)
 (try simp only [Act.put, sA, sB, sC])
 refine tkL (.pointer (some ⟨q, 0, none⟩)) (h := ?_)
 (try simp only [Act.put, sA, sB, sC])
 refine tkL (.pointer (some ⟨q, 2, none⟩)) (h := ?_)
 (try simp only [Act.put, sA, sB, sC])
 refine wpList_q (by rfl) (.map (some b)) ?he ?_
 case he => exact exec_cell 90 _ _ HQ.out rfl rfl rfl Try.underlying90 rfl
 (try simp only [Act.put, sA, sB, sC])
 refine tkL (.int .i64 x) (h := ?_)
 (try simp only [Act.put, sA, sB, sC])
 refine wpList_q (by rfl) (.slice (some ⟨W.g, 0, none⟩) W.its.length W.c) ?he ?_
 case he => exact exec_look (k := 3) (e := 93) _ _ 90 rfl Try.underlying3 Try.underlying90 (z := .slice none 0 0) zero_row HM.out rfl rfl HX.out (by show ((ws x).map wayv).getD _ = _; rw [HW.out]; rfl)
 (try simp only [Act.put, sA, sB, sC])
 refine tkL (.int .i64 (k0 : Int)) (h := ?_)
 (try simp only [Act.put, sA, sB, sC])
 refine wpList_q (by rfl) (.pointer (some ⟨W.g, 0 + k0 * 1, none⟩)) ?he ?_
 case he => exact exec_index (i := k0) (s := 1) 93 55 _ _ rfl rfl rfl rfl HKL.out Try.underlying93 (by kernel_rfl)
 (try simp only [Act.put, sA, sB, sC])
 refine wpList_q (by rfl) (.slice s.A s.n s.c) ?he ?_
 case he => exact exec_at 55 _ _ (row_i HR.out HSE.out) rfl rfl Try.underlying55 rfl
 (try simp only [Act.put, sA, sB, sC])
 refine wpList_wp (by rfl) (fun K hK => ?_)
 (try go_simp)
 refine (putT lo q b ends room N ws x s.A s.n s.c s.zs S _ HO.out HX.out (by have := HLN.out; have := H1.out; omega) (BV.of_own HIT.out.1 HIT.out.2.1) HIT.out.2.2 HNN.out HLO.out (fun g hg => by have q1 := NO.its_out HO.out HW.out g (its_in (List.mem_of_getElem? HSE.out) g hg); rw [List.mem_cons, not_or, List.mem_singleton] at q1; exact ⟨q1.1, fun V hV => by rw [HW.out] at hV; cases hV; exact q1.2⟩)).mono ?_
 rintro e w2 ⟨ws', S', rfl, hN, hc, hu, hfar⟩
 (try go_wp2_with fail)
 refine hK.out _ _ ?_
 clear hK K
 (try simp only [Act.put, sA, sB, sC])
 have HZ := Lib.hid hN; have HCC := Lib.hid hc; have HUU := Lib.hid hu; have HFF := Lib.hid hfar; clear hN hc hu hfar
 refine tkL (.bool (putB ws ends room x)) (h := ?_)
 (try simp only [Act.put, sA, sB, sC])
 refine tkL (.bool (putB ws ends room x)) (h := ?_)
 (try simp only [Act.put, sA, sB, sC])
 refine wpList_nil ?_
 (try go_wp2_with fail)
 go_ret
 exact ⟨ws', S', rfl, HZ.out, HCC.out, HUU.out, HFF.out⟩
end Go.Proofs.Ytlihhjcneedgnaa.Nt
