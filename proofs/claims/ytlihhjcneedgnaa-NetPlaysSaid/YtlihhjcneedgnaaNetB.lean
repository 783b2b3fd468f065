/-
  slices.Delete of rows of bytes; Put: walked.
  Conditions: what stands ahead of each.
-/
import Derived.Test.YtlihhjcneedgnaaProg
import Derived.Test.YtlihhjcneedgnaaShort
import Derived.Test.YtlihhjcneedgnaaNetA
namespace Go.Proofs.Ytlihhjcneedgnaa.Nt
set_option linter.unusedVariables false
set_option linter.unusedSimpArgs false
open Go.RowKit Go.Proofs.Ytlihhjcneedgnaa.Ba Go.Proofs.Ytlihhjcneedgnaa.Mem
open Go.Proofs.Ytlihhjcneedgnaa.Byt (BV isB cells)
open Go.Proofs.Ytlihhjcneedgnaa.Mp (MapF setK exec_look wp_mapput wp_mapdel wp_mapnew)
set_option maxRecDepth 100000
attribute [local irreducible] Go.wpList
set_option maxHeartbeats 4000000 in
theorem deleteT (lo g m c i : Nat) (ls : List ItV) (w : World) (hO : w.ownsRow lo 55 1 (.slice (some ⟨g, 0, none⟩) (m + 1) c) (m + 1) (rowsOf itv ls)) (hl : ls.length = m + 1) (hi : i ≤ m) (hc : m + 1 ≤ c) (hm : m + 1 ≤ 1000000) : Calls Try.prog 46 #[.slice (some ⟨g, 0, none⟩) (m + 1) c, .int .i64 (i : Int), .int .i64 ((i : Int) + 1)] w fun e w' => e = .returned (.slice (some ⟨g, 0, none⟩) m c) ∧ w'.ownsRow lo 55 1 (.slice (some ⟨g, 0, none⟩) m c) m (rowsOf itv (ls.eraseIdx i)) ∧ Upd [g] w w' := by
 have HOW := Lib.hid hO
 clear hO
 have HL := Lib.hid hl
 clear hl
 have HI := Lib.hid hi
 clear hi
 have HC := Lib.hid hc
 clear hc
 have HM := Lib.hid hm
 clear hm
 go_enter Try.func46, Try.ntmps46
 go_upto_region 1 with fail
 have HS1 := Lib.hid (Upd.refl [g] w)
 refine wp_region_lit ?_
 refine tkL (.slice (some ⟨g, 0, none⟩) (m + 1) c) (h := ?_)
 (try simp only [Act.put, sA, sB, sC])
 refine tkL (.int .i64 (i : Int)) (h := ?_)
 (try simp only [Act.put, sA, sB, sC])
 refine tkL (.int .i64 ((i : Int) + 1)) (h := ?_)
 (try simp only [Act.put, sA, sB, sC])
 refine tkL (.slice (some ⟨g, 0, none⟩) (m + 1) c) (h := ?_)
 (try simp only [Act.put, sA, sB, sC])
 refine tkL (.int .i64 ((m + 1 : Nat) : Int)) (h := ?_)
 (try simp only [Act.put, sA, sB, sC])
 refine wpList_q (by rfl) (.slice (cutA (m + 1) i (some ⟨g, 0, none⟩ : Option Addr) 1) (i + 1 - i) (m + 1 - i)) ?he ?_
 case he => exact exec_slice (s := 1) 93 55 _ _ _ _ rfl rfl Try.underlying93 (by kernel_rfl) (sb_lhm _ _ _ _ (l := i) (h := i + 1) (m := m + 1) rfl (by push_cast; rfl) rfl (by omega) (by have q0 := HI.out; omega) HC.out) (by rfl) rfl rfl
 (try simp only [Act.put, sA, sB, sC])
 refine wpList_nil ?_
 go_upto_region 2 with fail
 refine wp_region_lit ?_
 refine tkL (.int .i64 (i : Int)) (h := ?_)
 (try simp only [Act.put, sA, sB, sC])
 refine tkL (.int .i64 ((i : Int) + 1)) (h := ?_)
 (try simp only [Act.put, sA, sB, sC])
 refine wpList_q (by rfl) (.bool false) ?he ?_
 case he => (go_simp; (first | done | rfl | omega))
 (try simp only [Act.put, sA, sB, sC])
 refine wpList_nil ?_
 go_upto_region 4 with fail
 refine wp_region_lit ?_
 refine tkL (.slice (some ⟨g, 0, none⟩) (m + 1) c) (h := ?_)
 (try simp only [Act.put, sA, sB, sC])
 refine tkL (.int .i64 ((m + 1 : Nat) : Int)) (h := ?_)
 (try simp only [Act.put, sA, sB, sC])
 refine tkL (.int .i64 ((m + 1 : Nat) : Int)) (h := ?_)
 (try simp only [Act.put, sA, sB, sC])
 refine wpList_nil ?_
 go_upto_region 5 with fail
 have HKS : Hid (KeepS (fun W : World => Upd [g] w W) w) := Lib.hid ⟨fun W W' k h => h.trans k, HS1.out⟩
 have HRK := Lib.hid HKS.out.1
 have HEr := Lib.hid (show ((World.drew w)).ownsRow lo 55 1 (.slice (some ⟨g, 0, none⟩) (m + 1) c) (m + 1) (rowsOf itv ls) from HOW.out)
 clear HOW
 refine wp_held HKS.out (by kernel_rfl) (fun hHeld => ?_)
 refine tkQ 0 (.slice (some ⟨g, 0, none⟩) (m + 1) c) hHeld (h := ?_)
 (try simp only [Act.put, sA, sB, sC])
 refine tkQ 1 (.int .i64 (i : Int)) hHeld (h := ?_)
 (try simp only [Act.put, sA, sB, sC])
 refine tkQ 2 (.slice (some ⟨g, 0, none⟩) i c) hHeld (he := by intro w hSw; exact exec_slice (s := 1) 93 55 _ _ _ _ rfl rfl Try.underlying93 (by kernel_rfl) (sb_h _ _ (h := i) rfl (by have q0 := HI.out; have q1 := HC.out; omega)) (by split <;> simp [Addr.add]) rfl rfl) (h := ?_)
 (try simp only [Act.put, sA, sB, sC])
 refine tkQ 3 (.slice (some ⟨g, 0, none⟩) (m + 1) c) hHeld (h := ?_)
 (try simp only [Act.put, sA, sB, sC])
 refine tkQ 4 (.int .i64 ((i : Int) + 1)) hHeld (h := ?_)
 (try simp only [Act.put, sA, sB, sC])
 refine tkQ 5 (.slice (cutA c (i + 1) (some ⟨g, 0, none⟩ : Option Addr) 1) (m + 1 - (i + 1)) (c - (i + 1))) hHeld (he := by intro w hSw; exact exec_slice (s := 1) 93 55 _ _ _ _ rfl rfl Try.underlying93 (by kernel_rfl) (sb_l _ _ (l := i + 1) (by push_cast; rfl) (by have q0 := HI.out; omega)) (by rfl) rfl rfl) (h := ?_)
 (try simp only [Act.put, sA, sB, sC])
 refine wpAnyH_ready (rs := [6]) (by kernel_rfl) (by simp) ?_
 refine AllReadyH.cons (o := ?o5__6) ?h5__6 (fun K hK => ?_) AllReadyH.nil
 case h5__6 => (first | (simp only [gA, gB, gC]; done) | (simp only [gA, gB, gC]; exact rfl))
 rw [if_pos (by rfl)]
 refine wp_append_room (.tmp 22) (.tmp 25) 93 rfl lo 55 1 Try.underlying93 (by kernel_rfl) g i c ((rowsOf itv ls).take (i * 1)) rfl (own_prefix HEr.out (by have q0 := HI.out; omega)) _ (cutA c (i + 1) (some ⟨g, 0, none⟩ : Option Addr) 1) (m + 1 - (i + 1)) (c - (i + 1)) ((rowsOf itv ls).drop ((i + 1) * 1)) rfl (reads_cut (own_reads HEr.out) (by have q0 := HI.out; omega) HC.out) (fun u hu => its_one ls u (List.mem_of_mem_drop hu)) (by have q0 := HI.out; have q1 := HC.out; omega) m (rowsOf itv (ls.eraseIdx i)) (by have q0 := HI.out; omega) (erase_rows itv_len (by have q0 := HI.out; have q2 := HL.out; omega)) ?_
 intro w2 hown hupd
 skip
 have hHeld3 := HKS.out.at_ w2 (Upd.comp hHeld hupd (fun _ h => .inl h))
 have HOW_w2 := Lib.hid hown
 refine hK.out _ _ hHeld3 (fun hHeld2 => ?_)
 clear hK K hHeld hHeld3 hupd hown  HEr 
 have hHeld := hHeld2
 clear hHeld2
 (try simp only [Act.put, sA, sB, sC])
 refine tkQ 7 (.slice (some ⟨g, 0, none⟩) m c) hHeld (h := ?_)
 (try simp only [Act.put, sA, sB, sC])
 refine wpAnyH_done (by kernel_rfl) ?_ _
 have HSd5 := Lib.hid hHeld
 clear hHeld HRK HKS HS1 
 have HFrd5 := Lib.hid HOW_w2.out
 clear HOW_w2
 go_upto_region 6 with fail
 refine wp_region_lit ?_
 refine tkL (.slice (some ⟨g, 0, none⟩) m c) (h := ?_)
 (try simp only [Act.put, sA, sB, sC])
 refine tkL (.slice (some ⟨g, 0, none⟩) m c) (h := ?_)
 (try simp only [Act.put, sA, sB, sC])
 refine tkL (.int .i64 (m : Int)) (h := ?_)
 (try simp only [Act.put, sA, sB, sC])
 refine tkL (.int .i64 ((m + 1 : Nat) : Int)) (h := ?_)
 (try simp only [Act.put, sA, sB, sC])
 refine wpList_q (by rfl) (.slice (some ⟨g, m * 1, none⟩) 1 (c - m)) ?he ?_
 case he => exact exec_slice (s := 1) 93 55 _ _ _ _ rfl rfl Try.underlying93 (by kernel_rfl) (sb_lh _ _ _ (l := m) (h := m + 1) rfl rfl (by omega) HC.out) (by have q1 := HC.out; rw [if_neg (by omega)]; simp [Go.WideShapes.add_plain]) (by omega) rfl
 (try simp only [Act.put, sA, sB, sC])
 refine wpList_wp (by rfl) (fun K hK => ?_)
 refine wp_clear_behind _ 93 rfl lo 55 (.slice none 0 0) 1 24 Try.underlying93 (by kernel_rfl) rfl (by intro u hu; simp [Value.cells] at hu; (try rcases hu with rfl) <;> rfl) g m c _ HFrd5.out 1 (c - m) (by decide) HC.out rfl ?_
 intro w3 hown hupd
 refine hK.out _ _ ?_
 clear hK K
 (try simp only [Act.put, sA, sB, sC])
 have HSz := Lib.hid (Upd.comp HSd5.out hupd (fun _ h => .inl h))
 have HOWz := Lib.hid hown
 clear hown hupd HSd5 HFrd5
 refine wpList_nil ?_
 go_upto_region 7 with fail
 refine wp_region_lit ?_
 refine tkL (.slice (some ⟨g, 0, none⟩) m c) (h := ?_)
 (try simp only [Act.put, sA, sB, sC])
 refine tkL (.slice (some ⟨g, 0, none⟩) m c) (h := ?_)
 (try simp only [Act.put, sA, sB, sC])
 refine wpList_nil ?_
 (try go_wp2_with fail)
 go_ret
 exact ⟨rfl, HOWz.out, HSz.out⟩
theorem bvS_upd {T : List Nat} {w w' : World} {A : Option Addr} {n : Nat} {zs : List Int} (k : Upd T w w') (h : BV w A n zs) (hT : ∀ g ∈ blkOf A, g ∉ T) : BV w' A n zs := by
  obtain ⟨h1, h2, h3, h4⟩ := h
  refine ⟨h1, h2, h3, ?_⟩
  rcases h4 with h4 | ⟨b, off, rfl, hb, hc⟩
  · exact .inl h4
  · refine .inr ⟨b, off, rfl, Nat.lt_of_lt_of_le hb k.size, fun j hj => ?_⟩
    rw [← hc j hj]
    have e := k.block b hb (hT b (by simp [blkOf]))
    simp only [World.cell?, e]
theorem bvS_lt {w : World} {A : Option Addr} {n : Nat} {zs : List Int} (h : BV w A n zs) (hn : 0 < n) : ∀ g ∈ blkOf A, g < w.heap.size := fun g hg => by
  obtain ⟨b, off, rfl, hb, _⟩ := h.addr (by omega)
  simp [blkOf] at hg
  rw [hg]; exact hb
set_option maxHeartbeats 4000000 in
theorem putNil (x : Int) (A0 : Option Addr) (n0 c0 : Nat) (w : World) : Calls Try.prog 23 #[.pointer none, .int .i64 x, .slice A0 n0 c0] w fun e w' => e = .returned (.bool false) ∧ Since w w' := by

 go_enter Try.func23, Try.ntmps23
 go_upto_region 1 with fail
 have HS1 := Lib.hid (Since.refl w)
 have HKS : Hid (KeepS (fun W : World => Since w W) w) := Lib.hid ⟨fun W W' k h => h.trans k, HS1.out⟩
 have HRK := Lib.hid HKS.out.1
 refine wp_held HKS.out (by kernel_rfl) (fun hHeld => ?_)
 refine tkQ 0 (.pointer none) hHeld (h := ?_)
 (try simp only [Act.put, sA, sB, sC])
 refine tkQ 1 (.bool true) hHeld (h := ?_)
 (try simp only [Act.put, sA, sB, sC])
 refine tkQ 2 (.bool true) hHeld (h := ?_)
 (try simp only [Act.put, sA, sB, sC])
 refine tkU 3 hHeld (h := ?_)
 (try simp only [Act.put, sA, sB, sC])
 refine tkU 4 hHeld (h := ?_)
 (try simp only [Act.put, sA, sB, sC])
 refine tkQ 5 (.bool true) hHeld (h := ?_)
 (try simp only [Act.put, sA, sB, sC])
 refine tkQ 6 (.bool true) hHeld (h := ?_)
 (try simp only [Act.put, sA, sB, sC])
 refine tkU 7 hHeld (h := ?_)
 (try simp only [Act.put, sA, sB, sC])
 refine tkU 8 hHeld (h := ?_)
 (try simp only [Act.put, sA, sB, sC])
 refine tkU 9 hHeld (h := ?_)
 (try simp only [Act.put, sA, sB, sC])
 refine tkU 10 hHeld (h := ?_)
 (try simp only [Act.put, sA, sB, sC])
 refine tkU 11 hHeld (h := ?_)
 (try simp only [Act.put, sA, sB, sC])
 refine tkU 12 hHeld (h := ?_)
 (try simp only [Act.put, sA, sB, sC])
 refine tkQ 13 (.bool true) hHeld (h := ?_)
 (try simp only [Act.put, sA, sB, sC])
 refine tkQ 14 (.bool true) hHeld (h := ?_)
 (try simp only [Act.put, sA, sB, sC])
 refine tkU 15 hHeld (h := ?_)
 (try simp only [Act.put, sA, sB, sC])
 refine tkU 16 hHeld (h := ?_)
 (try simp only [Act.put, sA, sB, sC])
 refine tkU 17 hHeld (h := ?_)
 (try simp only [Act.put, sA, sB, sC])
 refine tkU 18 hHeld (h := ?_)
 (try simp only [Act.put, sA, sB, sC])
 refine tkU 19 hHeld (h := ?_)
 (try simp only [Act.put, sA, sB, sC])
 refine tkU 20 hHeld (h := ?_)
 (try simp only [Act.put, sA, sB, sC])
 refine tkU 21 hHeld (h := ?_)
 (try simp only [Act.put, sA, sB, sC])
 refine tkU 22 hHeld (h := ?_)
 (try simp only [Act.put, sA, sB, sC])
 refine tkQ 23 (.bool true) hHeld (h := ?_)
 (try simp only [Act.put, sA, sB, sC])
 refine wpAnyH_done (by kernel_rfl) ?_ _
 have HSd1 := Lib.hid hHeld
 clear hHeld HRK HKS HS1 
 go_upto_region 2 with fail
 refine wp_region_lit ?_
 refine tkL (.bool false) (h := ?_)
 (try simp only [Act.put, sA, sB, sC])
 refine wpList_nil ?_
 (try go_wp2_with fail)
 go_ret
 exact ⟨rfl, HSd1.out⟩
set_option maxHeartbeats 4000000 in
theorem putNeg (q b : Nat) (ends room : Int) (N : Nat) (ws : Int → Option WayV) (x : Int) (A0 : Option Addr) (n0 c0 : Nat) (w : World) (hq : Blk w q 92 #[.int .i64 ends, .int .i64 room, .map (some b)]) (hm : MapF Try.prog 3 w b N (fun x => (ws x).map wayv)) (hx : (Lit.int .i64 x).wf = true) (h0 : x < 0) : Calls Try.prog 23 #[.pointer (some ⟨q, 0, none⟩), .int .i64 x, .slice A0 n0 c0] w fun e w' => e = .returned (.bool false) ∧ Since w w' := by
 have HQ := Lib.hid hq
 clear hq
 have HM := Lib.hid hm
 clear hm
 have HX := Lib.hid hx
 clear hx
 have H0 := Lib.hid h0
 clear h0
 go_enter Try.func23, Try.ntmps23
 go_upto_region 1 with fail
 have HS1 := Lib.hid (Since.refl w)
 have HKS : Hid (KeepS (fun W : World => Since w W ∧ Blk W q 92 #[.int .i64 ends, .int .i64 room, .map (some b)] ∧ MapF Try.prog 3 W b N (fun x => (ws x).map wayv)) w) := Lib.hid ⟨fun W W' k ⟨h, h0, h1⟩ => ⟨h.trans k, keep_blk k h0, MapFS.keep k h1⟩, ⟨HS1.out, HQ.out, HM.out⟩⟩
 have HRK := Lib.hid HKS.out.1
 refine wp_held HKS.out (by kernel_rfl) (fun hHeld => ?_)
 refine tkQ 0 (.pointer (some ⟨q, 0, none⟩)) hHeld (h := ?_)
 (try simp only [Act.put, sA, sB, sC])
 refine tkQ 1 (.bool false) hHeld (h := ?_)
 (try simp only [Act.put, sA, sB, sC])
 refine tkQ 2 (.bool false) hHeld (h := ?_)
 (try simp only [Act.put, sA, sB, sC])
 refine tkQ 3 (.int .i64 x) hHeld (h := ?_)
 (try simp only [Act.put, sA, sB, sC])
 refine tkQ 4 (.bool true) hHeld (he := by intro w hSw; (have q0 := H0.out; go_simp; (first | done | rfl | omega))) (h := ?_)
 (try simp only [Act.put, sA, sB, sC])
 refine tkQ 5 (.bool true) hHeld (h := ?_)
 (try simp only [Act.put, sA, sB, sC])
 refine tkQ 6 (.bool true) hHeld (h := ?_)
 (try simp only [Act.put, sA, sB, sC])
 refine tkU 7 hHeld (h := ?_)
 (try simp only [Act.put, sA, sB, sC])
 refine tkU 8 hHeld (h := ?_)
 (try simp only [Act.put, sA, sB, sC])
 refine tkU 9 hHeld (h := ?_)
 (try simp only [Act.put, sA, sB, sC])
 refine tkU 10 hHeld (h := ?_)
 (try simp only [Act.put, sA, sB, sC])
 refine tkU 11 hHeld (h := ?_)
 (try simp only [Act.put, sA, sB, sC])
 refine tkU 12 hHeld (h := ?_)
 (try simp only [Act.put, sA, sB, sC])
 refine tkQ 13 (.bool true) hHeld (h := ?_)
 (try simp only [Act.put, sA, sB, sC])
 refine tkQ 14 (.bool true) hHeld (h := ?_)
 (try simp only [Act.put, sA, sB, sC])
 refine tkU 15 hHeld (h := ?_)
 (try simp only [Act.put, sA, sB, sC])
 refine tkU 16 hHeld (h := ?_)
 (try simp only [Act.put, sA, sB, sC])
 refine tkU 17 hHeld (h := ?_)
 (try simp only [Act.put, sA, sB, sC])
 refine tkU 18 hHeld (h := ?_)
 (try simp only [Act.put, sA, sB, sC])
 refine tkU 19 hHeld (h := ?_)
 (try simp only [Act.put, sA, sB, sC])
 refine tkU 20 hHeld (h := ?_)
 (try simp only [Act.put, sA, sB, sC])
 refine tkU 21 hHeld (h := ?_)
 (try simp only [Act.put, sA, sB, sC])
 refine tkU 22 hHeld (h := ?_)
 (try simp only [Act.put, sA, sB, sC])
 refine tkQ 23 (.bool true) hHeld (h := ?_)
 (try simp only [Act.put, sA, sB, sC])
 refine wpAnyH_done (by kernel_rfl) ?_ _
 have HSd1 := Lib.hid hHeld.1
 have HBQd1 := Lib.hid (hHeld.2.1)
 have HFMd1 := Lib.hid (hHeld.2.2)
 clear hHeld HRK HKS HS1 HQ HM
 go_upto_region 2 with fail
 refine wp_region_lit ?_
 refine tkL (.bool false) (h := ?_)
 (try simp only [Act.put, sA, sB, sC])
 refine wpList_nil ?_
 (try go_wp2_with fail)
 go_ret
 exact ⟨rfl, HSd1.out⟩
set_option maxHeartbeats 4000000 in
theorem putBig (q b : Nat) (ends room : Int) (N : Nat) (ws : Int → Option WayV) (x : Int) (A0 : Option Addr) (n0 c0 : Nat) (w : World) (hq : Blk w q 92 #[.int .i64 ends, .int .i64 room, .map (some b)]) (hm : MapF Try.prog 3 w b N (fun x => (ws x).map wayv)) (hx : (Lit.int .i64 x).wf = true) (h0 : ¬ x < 0) (h1 : ends ≤ x) : Calls Try.prog 23 #[.pointer (some ⟨q, 0, none⟩), .int .i64 x, .slice A0 n0 c0] w fun e w' => e = .returned (.bool false) ∧ Since w w' := by
 have HQ := Lib.hid hq
 clear hq
 have HM := Lib.hid hm
 clear hm
 have HX := Lib.hid hx
 clear hx
 have H0 := Lib.hid h0
 clear h0
 have H1 := Lib.hid h1
 clear h1
 go_enter Try.func23, Try.ntmps23
 go_upto_region 1 with fail
 have HS1 := Lib.hid (Since.refl w)
 have HKS : Hid (KeepS (fun W : World => Since w W ∧ Blk W q 92 #[.int .i64 ends, .int .i64 room, .map (some b)] ∧ MapF Try.prog 3 W b N (fun x => (ws x).map wayv)) w) := Lib.hid ⟨fun W W' k ⟨h, h0, h1⟩ => ⟨h.trans k, keep_blk k h0, MapFS.keep k h1⟩, ⟨HS1.out, HQ.out, HM.out⟩⟩
 have HRK := Lib.hid HKS.out.1
 refine wp_held HKS.out (by kernel_rfl) (fun hHeld => ?_)
 refine tkQ 0 (.pointer (some ⟨q, 0, none⟩)) hHeld (h := ?_)
 (try simp only [Act.put, sA, sB, sC])
 refine tkQ 1 (.bool false) hHeld (h := ?_)
 (try simp only [Act.put, sA, sB, sC])
 refine tkQ 2 (.bool false) hHeld (h := ?_)
 (try simp only [Act.put, sA, sB, sC])
 refine tkQ 3 (.int .i64 x) hHeld (h := ?_)
 (try simp only [Act.put, sA, sB, sC])
 refine tkQ 4 (.bool false) hHeld (he := by intro w hSw; (have q0 := H0.out; go_simp; (first | done | rfl | omega))) (h := ?_)
 (try simp only [Act.put, sA, sB, sC])
 refine tkQ 5 (.bool false) hHeld (h := ?_)
 (try simp only [Act.put, sA, sB, sC])
 refine tkQ 6 (.bool false) hHeld (h := ?_)
 (try simp only [Act.put, sA, sB, sC])
 refine tkQ 7 (.int .i64 x) hHeld (h := ?_)
 (try simp only [Act.put, sA, sB, sC])
 refine tkQ 8 (.pointer (some ⟨q, 0, none⟩)) hHeld (h := ?_)
 (try simp only [Act.put, sA, sB, sC])
 refine tkQ 9 (.pointer (some ⟨q, 0, none⟩)) hHeld (h := ?_)
 (try simp only [Act.put, sA, sB, sC])
 refine tkQ 10 (.pointer (some ⟨q, 0, none⟩)) hHeld (h := ?_)
 (try simp only [Act.put, sA, sB, sC])
 refine tkQ 11 (.int .i64 ends) hHeld (he := by intro w hSw; exact exec_cell 3 _ _ hSw.2.1 rfl rfl rfl Try.underlying3 rfl) (h := ?_)
 (try simp only [Act.put, sA, sB, sC])
 refine tkQ 12 (.bool true) hHeld (he := by intro w hSw; (have q0 := H1.out; go_simp; (first | done | rfl | omega))) (h := ?_)
 (try simp only [Act.put, sA, sB, sC])
 refine tkQ 13 (.bool true) hHeld (h := ?_)
 (try simp only [Act.put, sA, sB, sC])
 refine tkQ 14 (.bool true) hHeld (h := ?_)
 (try simp only [Act.put, sA, sB, sC])
 refine tkU 15 hHeld (h := ?_)
 (try simp only [Act.put, sA, sB, sC])
 refine tkU 16 hHeld (h := ?_)
 (try simp only [Act.put, sA, sB, sC])
 refine tkU 17 hHeld (h := ?_)
 (try simp only [Act.put, sA, sB, sC])
 refine tkU 18 hHeld (h := ?_)
 (try simp only [Act.put, sA, sB, sC])
 refine tkU 19 hHeld (h := ?_)
 (try simp only [Act.put, sA, sB, sC])
 refine tkU 20 hHeld (h := ?_)
 (try simp only [Act.put, sA, sB, sC])
 refine tkU 21 hHeld (h := ?_)
 (try simp only [Act.put, sA, sB, sC])
 refine tkU 22 hHeld (h := ?_)
 (try simp only [Act.put, sA, sB, sC])
 refine tkQ 23 (.bool true) hHeld (h := ?_)
 (try simp only [Act.put, sA, sB, sC])
 refine wpAnyH_done (by kernel_rfl) ?_ _
 have HSd1 := Lib.hid hHeld.1
 have HBQd1 := Lib.hid (hHeld.2.1)
 have HFMd1 := Lib.hid (hHeld.2.2)
 clear hHeld HRK HKS HS1 HQ HM
 go_upto_region 2 with fail
 refine wp_region_lit ?_
 refine tkL (.bool false) (h := ?_)
 (try simp only [Act.put, sA, sB, sC])
 refine wpList_nil ?_
 (try go_wp2_with fail)
 go_ret
 exact ⟨rfl, HSd1.out⟩
set_option maxHeartbeats 4000000 in
theorem putFull (q b : Nat) (ends room : Int) (N : Nat) (ws : Int → Option WayV) (x : Int) (A0 : Option Addr) (n0 c0 : Nat) (w : World) (hq : Blk w q 92 #[.int .i64 ends, .int .i64 room, .map (some b)]) (hm : MapF Try.prog 3 w b N (fun x => (ws x).map wayv)) (hx : (Lit.int .i64 x).wf = true) (h0 : ¬ x < 0) (h1 : ¬ ends ≤ x) (h2 : room ≤ (lenW ws x : Int)) : Calls Try.prog 23 #[.pointer (some ⟨q, 0, none⟩), .int .i64 x, .slice A0 n0 c0] w fun e w' => e = .returned (.bool false) ∧ Since w w' := by
 have HQ := Lib.hid hq
 clear hq
 have HM := Lib.hid hm
 clear hm
 have HX := Lib.hid hx
 clear hx
 have H0 := Lib.hid h0
 clear h0
 have H1 := Lib.hid h1
 clear h1
 have H2 := Lib.hid h2
 clear h2
 go_enter Try.func23, Try.ntmps23
 go_upto_region 1 with fail
 have HS1 := Lib.hid (Since.refl w)
 have HKS : Hid (KeepS (fun W : World => Since w W ∧ Blk W q 92 #[.int .i64 ends, .int .i64 room, .map (some b)] ∧ MapF Try.prog 3 W b N (fun x => (ws x).map wayv)) w) := Lib.hid ⟨fun W W' k ⟨h, h0, h1⟩ => ⟨h.trans k, keep_blk k h0, MapFS.keep k h1⟩, ⟨HS1.out, HQ.out, HM.out⟩⟩
 have HRK := Lib.hid HKS.out.1
 refine wp_held HKS.out (by kernel_rfl) (fun hHeld => ?_)
 refine tkQ 0 (.pointer (some ⟨q, 0, none⟩)) hHeld (h := ?_)
 (try simp only [Act.put, sA, sB, sC])
 refine tkQ 1 (.bool false) hHeld (h := ?_)
 (try simp only [Act.put, sA, sB, sC])
 refine tkQ 2 (.bool false) hHeld (h := ?_)
 (try simp only [Act.put, sA, sB, sC])
 refine tkQ 3 (.int .i64 x) hHeld (h := ?_)
 (try simp only [Act.put, sA, sB, sC])
 refine tkQ 4 (.bool false) hHeld (he := by intro w hSw; (have q0 := H0.out; go_simp; (first | done | rfl | omega))) (h := ?_)
 (try simp only [Act.put, sA, sB, sC])
 refine tkQ 5 (.bool false) hHeld (h := ?_)
 (try simp only [Act.put, sA, sB, sC])
 refine tkQ 6 (.bool false) hHeld (h := ?_)
 (try simp only [Act.put, sA, sB, sC])
 refine tkQ 7 (.int .i64 x) hHeld (h := ?_)
 (try simp only [Act.put, sA, sB, sC])
 refine tkQ 8 (.pointer (some ⟨q, 0, none⟩)) hHeld (h := ?_)
 (try simp only [Act.put, sA, sB, sC])
 refine tkQ 9 (.pointer (some ⟨q, 0, none⟩)) hHeld (h := ?_)
 (try simp only [Act.put, sA, sB, sC])
 refine tkQ 10 (.pointer (some ⟨q, 0, none⟩)) hHeld (h := ?_)
 (try simp only [Act.put, sA, sB, sC])
 refine tkQ 11 (.int .i64 ends) hHeld (he := by intro w hSw; exact exec_cell 3 _ _ hSw.2.1 rfl rfl rfl Try.underlying3 rfl) (h := ?_)
 (try simp only [Act.put, sA, sB, sC])
 refine tkQ 12 (.bool false) hHeld (he := by intro w hSw; (have q0 := H1.out; go_simp; (first | done | rfl | omega))) (h := ?_)
 (try simp only [Act.put, sA, sB, sC])
 refine tkQ 13 (.bool false) hHeld (h := ?_)
 (try simp only [Act.put, sA, sB, sC])
 refine tkQ 14 (.bool false) hHeld (h := ?_)
 (try simp only [Act.put, sA, sB, sC])
 refine tkQ 15 (.pointer (some ⟨q, 0, none⟩)) hHeld (h := ?_)
 (try simp only [Act.put, sA, sB, sC])
 refine tkQ 16 (.int .i64 x) hHeld (h := ?_)
 (try simp only [Act.put, sA, sB, sC])
 refine tkQ 18 (.pointer (some ⟨q, 0, none⟩)) hHeld (h := ?_)
 (try simp only [Act.put, sA, sB, sC])
 refine tkQ 19 (.pointer (some ⟨q, 0, none⟩)) hHeld (h := ?_)
 (try simp only [Act.put, sA, sB, sC])
 refine tkQ 20 (.pointer (some ⟨q, 1, none⟩)) hHeld (h := ?_)
 (try simp only [Act.put, sA, sB, sC])
 refine tkQ 21 (.int .i64 room) hHeld (he := by intro w hSw; exact exec_cell 3 _ _ hSw.2.1 rfl rfl rfl Try.underlying3 rfl) (h := ?_)
 (try simp only [Act.put, sA, sB, sC])
 refine wpAnyH_ready (rs := [17]) (by kernel_rfl) (by simp) ?_
 refine AllReadyH.cons (o := ?o1__17) ?h1__17 (fun K hK => ?_) AllReadyH.nil
 case h1__17 => (first | (simp only [gA, gB, gC]; done) | (simp only [gA, gB, gC]; exact rfl))
 (try go_simp)
 refine (lenT q b ends room N ws x _ (hHeld.2.1) (hHeld.2.2) HX.out).mono ?_
 rintro e w' ⟨rfl, rfl⟩
 (try go_wp2_with fail)
 refine hK.out _ _ hHeld (fun hHeld2 => ?_)
 clear hK K hHeld2
 (try simp only [Act.put, sA, sB, sC])
 refine tkQ 22 (.bool true) hHeld (he := by intro w hSw; (have q0 := H2.out; go_simp; (first | done | rfl | omega))) (h := ?_)
 (try simp only [Act.put, sA, sB, sC])
 refine tkQ 23 (.bool true) hHeld (h := ?_)
 (try simp only [Act.put, sA, sB, sC])
 refine wpAnyH_done (by kernel_rfl) ?_ _
 have HSd1 := Lib.hid hHeld.1
 have HBQd1 := Lib.hid (hHeld.2.1)
 have HFMd1 := Lib.hid (hHeld.2.2)
 clear hHeld HRK HKS HS1 HQ HM
 go_upto_region 2 with fail
 refine wp_region_lit ?_
 refine tkL (.bool false) (h := ?_)
 (try simp only [Act.put, sA, sB, sC])
 refine wpList_nil ?_
 (try go_wp2_with fail)
 go_ret
 exact ⟨rfl, HSd1.out⟩
set_option maxHeartbeats 4000000 in
theorem putOk (lo q b : Nat) (ends room : Int) (N : Nat) (ws : Int → Option WayV) (x : Int) (A0 : Option Addr) (n0 c0 : Nat) (zs : List Int) (A : Option Addr) (c : Nat) (its : List ItV) (w : World) (hq : Blk w q 92 #[.int .i64 ends, .int .i64 room, .map (some b)]) (hm : MapF Try.prog 3 w b N (fun x => (ws x).map wayv)) (hx : (Lit.int .i64 x).wf = true) (h0 : ¬ x < 0) (h1 : ¬ ends ≤ x) (h2 : ¬ room ≤ (lenW ws x : Int)) (hr : RowAt lo A its.length c its w) (hl : its.length ≤ 10000) (hv : ((ws x).map wayv).getD (.slice none 0 0) = .slice A its.length c) (hb : BV w A0 n0 zs) (hn : n0 ≤ 1000000) (hN : N < 1000000) (hlo : lo ≤ w.heap.size) (hd : ∀ g ∈ blkOf A0, g ≠ b ∧ g ∉ blkOf A) : Calls Try.prog 23 #[.pointer (some ⟨q, 0, none⟩), .int .i64 x, .slice A0 n0 c0] w fun e w' => e = .returned (.bool true) ∧ ∃ A1 c1 A2, Blk w' q 92 #[.int .i64 ends, .int .i64 room, .map (some b)] ∧ MapF Try.prog 3 w' b (N + 1) (setK (fun x => (ws x).map wayv) x (some (.slice A1 (its ++ [(⟨A2, n0, n0, zs⟩ : ItV)]).length c1))) ∧ RowAt lo A1 (its ++ [(⟨A2, n0, n0, zs⟩ : ItV)]).length c1 (its ++ [(⟨A2, n0, n0, zs⟩ : ItV)]) w' ∧ w'.ownsRow w.heap.size 5 1 (.slice A2 n0 n0) n0 (cells zs) ∧ Upd (b :: blkOf A) w w' ∧ ∀ g ∈ blkOf A1, g ∈ blkOf A ∨ w.heap.size ≤ g := by
 have HQ := Lib.hid hq
 clear hq
 have HM := Lib.hid hm
 clear hm
 have HX := Lib.hid hx
 clear hx
 have H0 := Lib.hid h0
 clear h0
 have H1 := Lib.hid h1
 clear h1
 have H2 := Lib.hid h2
 clear h2
 have HR := Lib.hid hr
 clear hr
 have HL := Lib.hid hl
 clear hl
 have HV := Lib.hid hv
 clear hv
 have HB := Lib.hid hb
 clear hb
 have HN := Lib.hid hn
 clear hn
 have HNN := Lib.hid hN
 clear hN
 have HLO := Lib.hid hlo
 clear hlo
 have HD := Lib.hid hd
 clear hd
 have HAL := Lib.hid (show ∀ g ∈ blkOf A, g < w.heap.size from own_lt HR.out)
 have HBL := Lib.hid (show b < w.heap.size from MapF.lt HM.out)
 have HIQ := Lib.hid (own_ne_ty HR.out HQ.out (by decide))
 have HIM := Lib.hid (show q ∉ [b] from fun hg => map_ne HM.out HQ.out (List.mem_singleton.1 hg).symm)
 have HMR := Lib.hid (show ∀ g ∈ [b], g ∉ blkOf A from fun g hg => by rw [List.mem_singleton.1 hg]; exact map_own HM.out HR.out)
 have HVR := Lib.hid (show ∀ g ∈ blkOf A0, g ∉ blkOf A from fun g hg => (HD.out g hg).2)
 have HVM := Lib.hid (show ∀ g ∈ blkOf A0, g ∉ [b] from fun g hg hm => (HD.out g hg).1 (List.mem_singleton.1 hm))
 go_enter Try.func23, Try.ntmps23
 go_upto_region 1 with fail
 have HS1 := Lib.hid (Upd.refl (b :: blkOf A) w)
 have HKS : Hid (KeepS (fun W : World => Upd (b :: blkOf A) w W ∧ Blk W q 92 #[.int .i64 ends, .int .i64 room, .map (some b)] ∧ MapF Try.prog 3 W b N (fun x => (ws x).map wayv) ∧ (W).ownsRow lo 55 1 (.slice A its.length c) its.length (rowsOf itv its) ∧ BV W A0 n0 zs) w) := Lib.hid ⟨fun W W' k ⟨h, h0, h1, h2, h3⟩ => ⟨h.trans k, keep_blk k h0, MapFS.keep k h1, keep_own k h2, keep_bv k h3⟩, ⟨HS1.out, HQ.out, HM.out, HR.out, HB.out⟩⟩
 have HRK := Lib.hid HKS.out.1
 refine wp_held HKS.out (by kernel_rfl) (fun hHeld => ?_)
 refine tkQ 0 (.pointer (some ⟨q, 0, none⟩)) hHeld (h := ?_)
 (try simp only [Act.put, sA, sB, sC])
 refine tkQ 1 (.bool false) hHeld (h := ?_)
 (try simp only [Act.put, sA, sB, sC])
 refine tkQ 2 (.bool false) hHeld (h := ?_)
 (try simp only [Act.put, sA, sB, sC])
 refine tkQ 3 (.int .i64 x) hHeld (h := ?_)
 (try simp only [Act.put, sA, sB, sC])
 refine tkQ 4 (.bool false) hHeld (he := by intro w hSw; (have q0 := H0.out; go_simp; (first | done | rfl | omega))) (h := ?_)
 (try simp only [Act.put, sA, sB, sC])
 refine tkQ 5 (.bool false) hHeld (h := ?_)
 (try simp only [Act.put, sA, sB, sC])
 refine tkQ 6 (.bool false) hHeld (h := ?_)
 (try simp only [Act.put, sA, sB, sC])
 refine tkQ 7 (.int .i64 x) hHeld (h := ?_)
 (try simp only [Act.put, sA, sB, sC])
 refine tkQ 8 (.pointer (some ⟨q, 0, none⟩)) hHeld (h := ?_)
 (try simp only [Act.put, sA, sB, sC])
 refine tkQ 9 (.pointer (some ⟨q, 0, none⟩)) hHeld (h := ?_)
 (try simp only [Act.put, sA, sB, sC])
 refine tkQ 10 (.pointer (some ⟨q, 0, none⟩)) hHeld (h := ?_)
 (try simp only [Act.put, sA, sB, sC])
 refine tkQ 11 (.int .i64 ends) hHeld (he := by intro w hSw; exact exec_cell 3 _ _ hSw.2.1 rfl rfl rfl Try.underlying3 rfl) (h := ?_)
 (try simp only [Act.put, sA, sB, sC])
 refine tkQ 12 (.bool false) hHeld (he := by intro w hSw; (have q0 := H1.out; go_simp; (first | done | rfl | omega))) (h := ?_)
 (try simp only [Act.put, sA, sB, sC])
 refine tkQ 13 (.bool false) hHeld (h := ?_)
 (try simp only [Act.put, sA, sB, sC])
 refine tkQ 14 (.bool false) hHeld (h := ?_)
 (try simp only [Act.put, sA, sB, sC])
 refine tkQ 15 (.pointer (some ⟨q, 0, none⟩)) hHeld (h := ?_)
 (try simp only [Act.put, sA, sB, sC])
 refine tkQ 16 (.int .i64 x) hHeld (h := ?_)
 (try simp only [Act.put, sA, sB, sC])
 refine tkQ 18 (.pointer (some ⟨q, 0, none⟩)) hHeld (h := ?_)
 (try simp only [Act.put, sA, sB, sC])
 refine tkQ 19 (.pointer (some ⟨q, 0, none⟩)) hHeld (h := ?_)
 (try simp only [Act.put, sA, sB, sC])
 refine tkQ 20 (.pointer (some ⟨q, 1, none⟩)) hHeld (h := ?_)
 (try simp only [Act.put, sA, sB, sC])
 refine tkQ 21 (.int .i64 room) hHeld (he := by intro w hSw; exact exec_cell 3 _ _ hSw.2.1 rfl rfl rfl Try.underlying3 rfl) (h := ?_)
 (try simp only [Act.put, sA, sB, sC])
 refine wpAnyH_ready (rs := [17]) (by kernel_rfl) (by simp) ?_
 refine AllReadyH.cons (o := ?o1__17) ?h1__17 (fun K hK => ?_) AllReadyH.nil
 case h1__17 => (first | (simp only [gA, gB, gC]; done) | (simp only [gA, gB, gC]; exact rfl))
 (try go_simp)
 refine (lenT q b ends room N ws x _ (hHeld.2.1) (hHeld.2.2.1) HX.out).mono ?_
 rintro e w' ⟨rfl, rfl⟩
 (try go_wp2_with fail)
 refine hK.out _ _ hHeld (fun hHeld2 => ?_)
 clear hK K hHeld2
 (try simp only [Act.put, sA, sB, sC])
 refine tkQ 22 (.bool false) hHeld (he := by intro w hSw; (have q0 := H2.out; go_simp; (first | done | rfl | omega))) (h := ?_)
 (try simp only [Act.put, sA, sB, sC])
 refine tkQ 23 (.bool false) hHeld (h := ?_)
 (try simp only [Act.put, sA, sB, sC])
 refine wpAnyH_done (by kernel_rfl) ?_ _
 have HSd1 := Lib.hid hHeld.1
 have HBQd1 := Lib.hid (hHeld.2.1)
 have HFMd1 := Lib.hid (hHeld.2.2.1)
 have HFrd1 := Lib.hid (hHeld.2.2.2.1)
 have HFvd1 := Lib.hid (hHeld.2.2.2.2)
 clear hHeld HRK HKS HS1 HQ HM HR HB
 go_upto_region 3 with fail
 have HKS : Hid (KeepS (fun W : World => Upd (b :: blkOf A) w W ∧ Blk W q 92 #[.int .i64 ends, .int .i64 room, .map (some b)] ∧ BV W A0 n0 zs) w.drew) := Lib.hid ⟨fun W W' k ⟨h, h0, h1⟩ => ⟨h.trans k, keep_blk k h0, keep_bv k h1⟩, ⟨HSd1.out, HBQd1.out, HFvd1.out⟩⟩
 have HRK := Lib.hid HKS.out.1
 have HEM := Lib.hid (show MapF Try.prog 3 (World.drew w.drew) b N (fun x => (ws x).map wayv) from HFMd1.out)
 clear HFMd1
 have HEr := Lib.hid (show ((World.drew w.drew)).ownsRow lo 55 1 (.slice A its.length c) its.length (rowsOf itv its) from HFrd1.out)
 clear HFrd1
 refine wp_held HKS.out (by kernel_rfl) (fun hHeld => ?_)
 refine tkQ 0 (.pointer (some ⟨q, 0, none⟩)) hHeld (h := ?_)
 (try simp only [Act.put, sA, sB, sC])
 refine tkQ 1 (.pointer (some ⟨q, 0, none⟩)) hHeld (h := ?_)
 (try simp only [Act.put, sA, sB, sC])
 refine tkQ 2 (.pointer (some ⟨q, 2, none⟩)) hHeld (h := ?_)
 (try simp only [Act.put, sA, sB, sC])
 refine tkQ 3 (.map (some b)) hHeld (he := by intro w hSw; exact exec_cell 90 _ _ hSw.2.1 rfl rfl rfl Try.underlying90 rfl) (h := ?_)
 (try simp only [Act.put, sA, sB, sC])
 refine tkQ 4 (.int .i64 x) hHeld (h := ?_)
 (try simp only [Act.put, sA, sB, sC])
 refine tkQ 5 (.pointer (some ⟨q, 0, none⟩)) hHeld (h := ?_)
 (try simp only [Act.put, sA, sB, sC])
 refine tkQ 6 (.pointer (some ⟨q, 0, none⟩)) hHeld (h := ?_)
 (try simp only [Act.put, sA, sB, sC])
 refine tkQ 7 (.pointer (some ⟨q, 2, none⟩)) hHeld (h := ?_)
 (try simp only [Act.put, sA, sB, sC])
 refine tkQ 8 (.map (some b)) hHeld (he := by intro w hSw; exact exec_cell 90 _ _ hSw.2.1 rfl rfl rfl Try.underlying90 rfl) (h := ?_)
 (try simp only [Act.put, sA, sB, sC])
 refine tkQ 9 (.int .i64 x) hHeld (h := ?_)
 (try simp only [Act.put, sA, sB, sC])
 refine tkQ 11 (.slice A0 n0 c0) hHeld (h := ?_)
 (try simp only [Act.put, sA, sB, sC])
 refine wpAnyH_ready (rs := [10, 12]) (by kernel_rfl) (by simp) ?_
 refine AllReadyH.cons (o := ?o3__10b) ?h3__10b (fun K hK => ?g3__10b) (AllReadyH.cons (o := ?o3__12b) ?h3__12b (fun K hK => ?g3__12b) AllReadyH.nil)
 case h3__10b => (first | (simp only [gA, gB, gC]; done) | (simp only [gA, gB, gC]; exact rfl))
 case h3__12b => (first | (simp only [gA, gB, gC]; done) | (simp only [gA, gB, gC]; exact rfl))
 case g3__10b =>
  rw [if_pos (by rfl)]
  refine wp_q (.slice A its.length c) ?e3_b10_10 ?_
  case e3_b10_10 => exact exec_look (k := 3) (e := 93) _ _ 90 rfl Try.underlying3 Try.underlying90 (z := .slice none 0 0) zero_row HEM.out rfl rfl HX.out HV.out
  refine hK.out _ _ hHeld (fun hHeld2 => ?_)
  clear hK K hHeld2
  (try simp only [Act.put, sA, sB, sC])
  refine wpAnyH_ready (rs := [12]) (by kernel_rfl) (by simp) ?_
  refine AllReadyH.cons (o := ?o3_b10_12) ?h3_b10_12 (fun K hK => ?_) AllReadyH.nil
  case h3_b10_12 => (first | (simp only [gA, gB, gC]; done) | (simp only [gA, gB, gC]; exact rfl))
  (try go_simp)
  refine (copiedT A0 n0 c0 zs _ (hHeld.2.2) HN.out).mono ?_
  rintro e w2 ⟨A2, rfl, hown, hb⟩
  (try go_wp2_with fail)
  have HIT := Lib.hid (own_base hown (Upd.size hHeld.1)); clear hown
  have HDIR := Lib.hid (show ∀ g ∈ blkOf A2, g ∉ blkOf A from fun g hg hm => by have q1 := own_low HIT.out g hg; have q2 := HAL.out g hm; omega)
  have HDIM := Lib.hid (show ∀ g ∈ blkOf A2, g ∉ [b] from fun g hg hm => by have q1 := own_low HIT.out g hg; have q2 := HBL.out; have q3 := List.mem_singleton.1 hm; omega)
  refine hK.out _ _ (by (apply HRK.out; exact hb; exact hHeld)) (fun hHeld2 => ?_)
  have HEMk := Lib.hid (MapFS.keep hb HEM.out)
  clear HEM
  have HErk := Lib.hid (keep_own hb HEr.out)
  clear HEr
  clear hK K hHeld hb
  have hHeld := hHeld2
  clear hHeld2
  (try simp only [Act.put, sA, sB, sC])
  refine wpAnyH_ready (rs := [13]) (by kernel_rfl) (by simp) ?_
  refine AllReadyH.cons (o := ?o3_b10_13) ?h3_b10_13 (fun K hK => ?_) AllReadyH.nil
  case h3_b10_13 => (first | (simp only [gA, gB, gC]; done) | (simp only [gA, gB, gC]; exact rfl))
  rw [if_pos (by rfl)]
  refine wp_new (fun b => .slice (some ⟨b, 0, none⟩) 1 1) 55 #[.slice A2 n0 n0] (by rintro b rfl; first | rfl | kernel_rfl) ?_
  intro bn44 w3 hge hB hb
  refine hK.out _ _ (by (apply HRK.out; exact hb; exact hHeld)) (fun hHeld2 => ?_)
  have HEMkk := Lib.hid (MapFS.keep hb HEMk.out)
  clear HEMk
  have HErkk := Lib.hid (keep_own hb HErk.out)
  clear HErk
  have HITk := Lib.hid (keep_own hb HIT.out)
  clear HIT
  have HGn44 := Lib.hid (show w.heap.size ≤ bn44 by have := Upd.size hHeld.1; (try simp at this); (try simp at hge); omega)
  have HXn44 := Lib.hid hB
  clear hB
  clear hge
  clear hK K hHeld hb
  have hHeld := hHeld2
  clear hHeld2
  (try simp only [Act.put, sA, sB, sC])
  refine wpAnyH_ready (rs := [14]) (by kernel_rfl) (by simp) ?_
  refine AllReadyH.cons (o := ?o3_b10_14) ?h3_b10_14 (fun K hK => ?_) AllReadyH.nil
  case h3_b10_14 => (first | (simp only [gA, gB, gC]; done) | (simp only [gA, gB, gC]; exact rfl))
  rw [if_pos (by rfl)]
  refine wp_append_row (.tmp 41) (.tmp 44) 93 rfl lo 55 (.slice none 0 0) 1 24 Try.underlying93 (by kernel_rfl) rfl (by decide) (by decide) A its.length c (rowsOf itv its) rfl HErkk.out _ (some ⟨bn44, 0, none⟩) 1 1 (itv (⟨A2, n0, n0, zs⟩ : ItV)) rfl (reads_blk (cs := itv (⟨A2, n0, n0, zs⟩ : ItV)) HXn44.out rfl) (itv_one _) (by have := HL.out; omega) (by have q1 := HLO.out; have q3 := Upd.size hHeld.1; omega) ((its ++ [(⟨A2, n0, n0, zs⟩ : ItV)]).length) (rowsOf itv (its ++ [(⟨A2, n0, n0, zs⟩ : ItV)])) (by simp) (by rw [rowsOf_append, rowsOf_one]) ?_
  intro A_1 c_1 w4 hown hupd hfar
  have hHeld3 := HKS.out.at_ w4 ⟨Upd.comp hHeld.1 hupd (fun _ h => .inl (List.mem_cons_of_mem _ h)), Upd.blk hupd (hHeld.2.1) HIQ.out, bvS_upd hupd (hHeld.2.2) HVR.out⟩
  have HEMkkuw4 := Lib.hid (MapFS.upd hupd HEMkk.out HMR.out)
  have HDXM_r_1 := Lib.hid (dis_next hfar HMR.out (MapFS.lt HEMkk.out))
  clear HEMkk
  have HITkuw4 := Lib.hid (Upd.own hupd HITk.out HDIR.out)
  have HDXit_r_1 := Lib.hid (dis_next hfar HDIR.out (own_lt HITk.out))
  clear HITk
  have HOW_w4 := Lib.hid hown
  have HFAR := Lib.hid (show ∀ g ∈ blkOf A_1, g ∈ blkOf A ∨ w.heap.size ≤ g from fun g hg => by have q := hfar g hg; rcases q with q | q; exact .inl q; exact .inr (Nat.le_trans (Upd.size hHeld.1) q))
  refine hK.out _ _ hHeld3 (fun hHeld2 => ?_)
  clear hK K hHeld hHeld3 hupd hown hfar HErkk HXn44
  have hHeld := hHeld2
  clear hHeld2
  (try simp only [Act.put, sA, sB, sC])
  refine wpAnyH_ready (rs := [15]) (by kernel_rfl) (by simp) ?_
  refine AllReadyH.cons (o := ?o3_b10_15) ?h3_b10_15 (fun K hK => ?_) AllReadyH.nil
  case h3_b10_15 => (first | (simp only [gA, gB, gC]; done) | (simp only [gA, gB, gC]; exact rfl))
  rw [if_pos (by rfl)]
  refine wp_mapput (P := Try.prog) (k := 3) (e := 93) _ _ _ 90 rfl Try.underlying3 Try.underlying90 HEMkkuw4.out HNN.out rfl rfl HX.out (u := .slice A_1 (its ++ [(⟨A2, n0, n0, zs⟩ : ItV)]).length c_1) rfl ?_
  intro w5 hobj hupd
  have hfar : ∀ x ∈ [b], x ∈ [b] ∨ w4.heap.size ≤ x := fun _ h => .inl h
  have hHeld3 := HKS.out.at_ w5 ⟨Upd.comp hHeld.1 hupd (fun g hg => .inl (by rw [List.mem_singleton.1 hg]; exact List.mem_cons_self)), Upd.blk hupd (hHeld.2.1) HIM.out, bvS_upd hupd (hHeld.2.2) HVM.out⟩
  have HOW_w4uw5 := Lib.hid (Upd.own hupd HOW_w4.out (fun g hg h => HDXM_r_1.out g h hg))
  clear HOW_w4
  have HITkuw4uw5 := Lib.hid (Upd.own hupd HITkuw4.out HDIM.out)
  clear HITkuw4
  have HUM_w5 := Lib.hid hobj
  clear HEMkkuw4
  refine hK.out _ _ hHeld3 (fun hHeld2 => ?_)
  clear hK K hHeld hHeld3 hupd hobj hfar
  have hHeld := hHeld2
  clear hHeld2
  (try simp only [Act.put, sA, sB, sC])
  refine wpAnyH_done (by kernel_rfl) ?_ _
  have HSd3 := Lib.hid hHeld.1
  have HBQd3 := Lib.hid (hHeld.2.1)
  have HFvd3 := Lib.hid (hHeld.2.2)
  clear hHeld HRK HKS HSd1 HBQd1 HFvd1
  have HFMd3 := Lib.hid HUM_w5.out
  clear HUM_w5
  have HFrd3 := Lib.hid HOW_w4uw5.out
  clear HOW_w4uw5
  have HFitd3 := Lib.hid HITkuw4uw5.out
  clear HITkuw4uw5
  go_upto_region 4 with fail
  refine wp_region_lit ?_
  refine tkL (.bool true) (h := ?_)
  (try simp only [Act.put, sA, sB, sC])
  refine wpList_nil ?_
  (try go_wp2_with fail)
  go_ret
  exact ⟨rfl, A_1, c_1, A2, HBQd3.out, HFMd3.out, HFrd3.out, HFitd3.out, HSd3.out, HFAR.out⟩
 case g3__12b =>
  (try go_simp)
  refine (copiedT A0 n0 c0 zs _ (hHeld.2.2) HN.out).mono ?_
  rintro e w2 ⟨A2, rfl, hown, hb⟩
  (try go_wp2_with fail)
  have HIT := Lib.hid (own_base hown (Upd.size hHeld.1)); clear hown
  have HDIR := Lib.hid (show ∀ g ∈ blkOf A2, g ∉ blkOf A from fun g hg hm => by have q1 := own_low HIT.out g hg; have q2 := HAL.out g hm; omega)
  have HDIM := Lib.hid (show ∀ g ∈ blkOf A2, g ∉ [b] from fun g hg hm => by have q1 := own_low HIT.out g hg; have q2 := HBL.out; have q3 := List.mem_singleton.1 hm; omega)
  refine hK.out _ _ (by (apply HRK.out; exact hb; exact hHeld)) (fun hHeld2 => ?_)
  have HEMk := Lib.hid (MapFS.keep hb HEM.out)
  clear HEM
  have HErk := Lib.hid (keep_own hb HEr.out)
  clear HEr
  clear hK K hHeld hb
  have hHeld := hHeld2
  clear hHeld2
  (try simp only [Act.put, sA, sB, sC])
  refine wpAnyH_ready (rs := [10, 13]) (by kernel_rfl) (by simp) ?_
  refine AllReadyH.cons (o := ?o3_b12_10b) ?h3_b12_10b (fun K hK => ?g3_b12_10b) (AllReadyH.cons (o := ?o3_b12_13b) ?h3_b12_13b (fun K hK => ?g3_b12_13b) AllReadyH.nil)
  case h3_b12_10b => (first | (simp only [gA, gB, gC]; done) | (simp only [gA, gB, gC]; exact rfl))
  case h3_b12_13b => (first | (simp only [gA, gB, gC]; done) | (simp only [gA, gB, gC]; exact rfl))
  case g3_b12_10b =>
   rw [if_pos (by rfl)]
   refine wp_q (.slice A its.length c) ?e3_b12b10_10 ?_
   case e3_b12b10_10 => exact exec_look (k := 3) (e := 93) _ _ 90 rfl Try.underlying3 Try.underlying90 (z := .slice none 0 0) zero_row HEMk.out rfl rfl HX.out HV.out
   refine hK.out _ _ hHeld (fun hHeld2 => ?_)
   clear hK K hHeld2
   (try simp only [Act.put, sA, sB, sC])
   refine wpAnyH_ready (rs := [13]) (by kernel_rfl) (by simp) ?_
   refine AllReadyH.cons (o := ?o3_b12b10_13) ?h3_b12b10_13 (fun K hK => ?_) AllReadyH.nil
   case h3_b12b10_13 => (first | (simp only [gA, gB, gC]; done) | (simp only [gA, gB, gC]; exact rfl))
   rw [if_pos (by rfl)]
   refine wp_new (fun b => .slice (some ⟨b, 0, none⟩) 1 1) 55 #[.slice A2 n0 n0] (by rintro b rfl; first | rfl | kernel_rfl) ?_
   intro bn44 w3 hge hB hb
   refine hK.out _ _ (by (apply HRK.out; exact hb; exact hHeld)) (fun hHeld2 => ?_)
   have HEMkk := Lib.hid (MapFS.keep hb HEMk.out)
   clear HEMk
   have HErkk := Lib.hid (keep_own hb HErk.out)
   clear HErk
   have HITk := Lib.hid (keep_own hb HIT.out)
   clear HIT
   have HGn44 := Lib.hid (show w.heap.size ≤ bn44 by have := Upd.size hHeld.1; (try simp at this); (try simp at hge); omega)
   have HXn44 := Lib.hid hB
   clear hB
   clear hge
   clear hK K hHeld hb
   have hHeld := hHeld2
   clear hHeld2
   (try simp only [Act.put, sA, sB, sC])
   refine wpAnyH_ready (rs := [14]) (by kernel_rfl) (by simp) ?_
   refine AllReadyH.cons (o := ?o3_b12b10_14) ?h3_b12b10_14 (fun K hK => ?_) AllReadyH.nil
   case h3_b12b10_14 => (first | (simp only [gA, gB, gC]; done) | (simp only [gA, gB, gC]; exact rfl))
   rw [if_pos (by rfl)]
   refine wp_append_row (.tmp 41) (.tmp 44) 93 rfl lo 55 (.slice none 0 0) 1 24 Try.underlying93 (by kernel_rfl) rfl (by decide) (by decide) A its.length c (rowsOf itv its) rfl HErkk.out _ (some ⟨bn44, 0, none⟩) 1 1 (itv (⟨A2, n0, n0, zs⟩ : ItV)) rfl (reads_blk (cs := itv (⟨A2, n0, n0, zs⟩ : ItV)) HXn44.out rfl) (itv_one _) (by have := HL.out; omega) (by have q1 := HLO.out; have q3 := Upd.size hHeld.1; omega) ((its ++ [(⟨A2, n0, n0, zs⟩ : ItV)]).length) (rowsOf itv (its ++ [(⟨A2, n0, n0, zs⟩ : ItV)])) (by simp) (by rw [rowsOf_append, rowsOf_one]) ?_
   intro A_3 c_3 w4 hown hupd hfar
   have hHeld3 := HKS.out.at_ w4 ⟨Upd.comp hHeld.1 hupd (fun _ h => .inl (List.mem_cons_of_mem _ h)), Upd.blk hupd (hHeld.2.1) HIQ.out, bvS_upd hupd (hHeld.2.2) HVR.out⟩
   have HEMkkuw4 := Lib.hid (MapFS.upd hupd HEMkk.out HMR.out)
   have HDXM_r_3 := Lib.hid (dis_next hfar HMR.out (MapFS.lt HEMkk.out))
   clear HEMkk
   have HITkuw4 := Lib.hid (Upd.own hupd HITk.out HDIR.out)
   have HDXit_r_3 := Lib.hid (dis_next hfar HDIR.out (own_lt HITk.out))
   clear HITk
   have HOW_w4 := Lib.hid hown
   have HFAR := Lib.hid (show ∀ g ∈ blkOf A_3, g ∈ blkOf A ∨ w.heap.size ≤ g from fun g hg => by have q := hfar g hg; rcases q with q | q; exact .inl q; exact .inr (Nat.le_trans (Upd.size hHeld.1) q))
   refine hK.out _ _ hHeld3 (fun hHeld2 => ?_)
   clear hK K hHeld hHeld3 hupd hown hfar HErkk HXn44
   have hHeld := hHeld2
   clear hHeld2
   (try simp only [Act.put, sA, sB, sC])
   refine wpAnyH_ready (rs := [15]) (by kernel_rfl) (by simp) ?_
   refine AllReadyH.cons (o := ?o3_b12b10_15) ?h3_b12b10_15 (fun K hK => ?_) AllReadyH.nil
   case h3_b12b10_15 => (first | (simp only [gA, gB, gC]; done) | (simp only [gA, gB, gC]; exact rfl))
   rw [if_pos (by rfl)]
   refine wp_mapput (P := Try.prog) (k := 3) (e := 93) _ _ _ 90 rfl Try.underlying3 Try.underlying90 HEMkkuw4.out HNN.out rfl rfl HX.out (u := .slice A_3 (its ++ [(⟨A2, n0, n0, zs⟩ : ItV)]).length c_3) rfl ?_
   intro w5 hobj hupd
   have hfar : ∀ x ∈ [b], x ∈ [b] ∨ w4.heap.size ≤ x := fun _ h => .inl h
   have hHeld3 := HKS.out.at_ w5 ⟨Upd.comp hHeld.1 hupd (fun g hg => .inl (by rw [List.mem_singleton.1 hg]; exact List.mem_cons_self)), Upd.blk hupd (hHeld.2.1) HIM.out, bvS_upd hupd (hHeld.2.2) HVM.out⟩
   have HOW_w4uw5 := Lib.hid (Upd.own hupd HOW_w4.out (fun g hg h => HDXM_r_3.out g h hg))
   clear HOW_w4
   have HITkuw4uw5 := Lib.hid (Upd.own hupd HITkuw4.out HDIM.out)
   clear HITkuw4
   have HUM_w5 := Lib.hid hobj
   clear HEMkkuw4
   refine hK.out _ _ hHeld3 (fun hHeld2 => ?_)
   clear hK K hHeld hHeld3 hupd hobj hfar
   have hHeld := hHeld2
   clear hHeld2
   (try simp only [Act.put, sA, sB, sC])
   refine wpAnyH_done (by kernel_rfl) ?_ _
   have HSd3v2 := Lib.hid hHeld.1
   have HBQd3v2 := Lib.hid (hHeld.2.1)
   have HFvd3v2 := Lib.hid (hHeld.2.2)
   clear hHeld HRK HKS HSd1 HBQd1 HFvd1
   have HFMd3v2 := Lib.hid HUM_w5.out
   clear HUM_w5
   have HFrd3v2 := Lib.hid HOW_w4uw5.out
   clear HOW_w4uw5
   have HFitd3v2 := Lib.hid HITkuw4uw5.out
   clear HITkuw4uw5
   go_upto_region 4 with fail
   refine wp_region_lit ?_
   refine tkL (.bool true) (h := ?_)
   (try simp only [Act.put, sA, sB, sC])
   refine wpList_nil ?_
   (try go_wp2_with fail)
   go_ret
   exact ⟨rfl, A_3, c_3, A2, HBQd3v2.out, HFMd3v2.out, HFrd3v2.out, HFitd3v2.out, HSd3v2.out, HFAR.out⟩
  case g3_b12_13b =>
   rw [if_pos (by rfl)]
   refine wp_new (fun b => .slice (some ⟨b, 0, none⟩) 1 1) 55 #[.slice A2 n0 n0] (by rintro b rfl; first | rfl | kernel_rfl) ?_
   intro bn44 w3 hge hB hb
   refine hK.out _ _ (by (apply HRK.out; exact hb; exact hHeld)) (fun hHeld2 => ?_)
   have HEMkk := Lib.hid (MapFS.keep hb HEMk.out)
   clear HEMk
   have HErkk := Lib.hid (keep_own hb HErk.out)
   clear HErk
   have HITk := Lib.hid (keep_own hb HIT.out)
   clear HIT
   have HGn44 := Lib.hid (show w.heap.size ≤ bn44 by have := Upd.size hHeld.1; (try simp at this); (try simp at hge); omega)
   have HXn44 := Lib.hid hB
   clear hB
   clear hge
   clear hK K hHeld hb
   have hHeld := hHeld2
   clear hHeld2
   (try simp only [Act.put, sA, sB, sC])
   refine wpAnyH_ready (rs := [10]) (by kernel_rfl) (by simp) ?_
   refine AllReadyH.cons (o := ?o3_b12b13_10) ?h3_b12b13_10 (fun K hK => ?_) AllReadyH.nil
   case h3_b12b13_10 => (first | (simp only [gA, gB, gC]; done) | (simp only [gA, gB, gC]; exact rfl))
   rw [if_pos (by rfl)]
   refine wp_q (.slice A its.length c) ?e3_b12b13_10 ?_
   case e3_b12b13_10 => exact exec_look (k := 3) (e := 93) _ _ 90 rfl Try.underlying3 Try.underlying90 (z := .slice none 0 0) zero_row HEMkk.out rfl rfl HX.out HV.out
   refine hK.out _ _ hHeld (fun hHeld2 => ?_)
   clear hK K hHeld2
   (try simp only [Act.put, sA, sB, sC])
   refine wpAnyH_ready (rs := [14]) (by kernel_rfl) (by simp) ?_
   refine AllReadyH.cons (o := ?o3_b12b13_14) ?h3_b12b13_14 (fun K hK => ?_) AllReadyH.nil
   case h3_b12b13_14 => (first | (simp only [gA, gB, gC]; done) | (simp only [gA, gB, gC]; exact rfl))
   rw [if_pos (by rfl)]
   refine wp_append_row (.tmp 41) (.tmp 44) 93 rfl lo 55 (.slice none 0 0) 1 24 Try.underlying93 (by kernel_rfl) rfl (by decide) (by decide) A its.length c (rowsOf itv its) rfl HErkk.out _ (some ⟨bn44, 0, none⟩) 1 1 (itv (⟨A2, n0, n0, zs⟩ : ItV)) rfl (reads_blk (cs := itv (⟨A2, n0, n0, zs⟩ : ItV)) HXn44.out rfl) (itv_one _) (by have := HL.out; omega) (by have q1 := HLO.out; have q3 := Upd.size hHeld.1; omega) ((its ++ [(⟨A2, n0, n0, zs⟩ : ItV)]).length) (rowsOf itv (its ++ [(⟨A2, n0, n0, zs⟩ : ItV)])) (by simp) (by rw [rowsOf_append, rowsOf_one]) ?_
   intro A_5 c_5 w4 hown hupd hfar
   have hHeld3 := HKS.out.at_ w4 ⟨Upd.comp hHeld.1 hupd (fun _ h => .inl (List.mem_cons_of_mem _ h)), Upd.blk hupd (hHeld.2.1) HIQ.out, bvS_upd hupd (hHeld.2.2) HVR.out⟩
   have HEMkkuw4 := Lib.hid (MapFS.upd hupd HEMkk.out HMR.out)
   have HDXM_r_5 := Lib.hid (dis_next hfar HMR.out (MapFS.lt HEMkk.out))
   clear HEMkk
   have HITkuw4 := Lib.hid (Upd.own hupd HITk.out HDIR.out)
   have HDXit_r_5 := Lib.hid (dis_next hfar HDIR.out (own_lt HITk.out))
   clear HITk
   have HOW_w4 := Lib.hid hown
   have HFAR := Lib.hid (show ∀ g ∈ blkOf A_5, g ∈ blkOf A ∨ w.heap.size ≤ g from fun g hg => by have q := hfar g hg; rcases q with q | q; exact .inl q; exact .inr (Nat.le_trans (Upd.size hHeld.1) q))
   refine hK.out _ _ hHeld3 (fun hHeld2 => ?_)
   clear hK K hHeld hHeld3 hupd hown hfar HErkk HXn44
   have hHeld := hHeld2
   clear hHeld2
   (try simp only [Act.put, sA, sB, sC])
   refine wpAnyH_ready (rs := [15]) (by kernel_rfl) (by simp) ?_
   refine AllReadyH.cons (o := ?o3_b12b13_15) ?h3_b12b13_15 (fun K hK => ?_) AllReadyH.nil
   case h3_b12b13_15 => (first | (simp only [gA, gB, gC]; done) | (simp only [gA, gB, gC]; exact rfl))
   rw [if_pos (by rfl)]
   refine wp_mapput (P := Try.prog) (k := 3) (e := 93) _ _ _ 90 rfl Try.underlying3 Try.underlying90 HEMkkuw4.out HNN.out rfl rfl HX.out (u := .slice A_5 (its ++ [(⟨A2, n0, n0, zs⟩ : ItV)]).length c_5) rfl ?_
   intro w5 hobj hupd
   have hfar : ∀ x ∈ [b], x ∈ [b] ∨ w4.heap.size ≤ x := fun _ h => .inl h
   have hHeld3 := HKS.out.at_ w5 ⟨Upd.comp hHeld.1 hupd (fun g hg => .inl (by rw [List.mem_singleton.1 hg]; exact List.mem_cons_self)), Upd.blk hupd (hHeld.2.1) HIM.out, bvS_upd hupd (hHeld.2.2) HVM.out⟩
   have HOW_w4uw5 := Lib.hid (Upd.own hupd HOW_w4.out (fun g hg h => HDXM_r_5.out g h hg))
   clear HOW_w4
   have HITkuw4uw5 := Lib.hid (Upd.own hupd HITkuw4.out HDIM.out)
   clear HITkuw4
   have HUM_w5 := Lib.hid hobj
   clear HEMkkuw4
   refine hK.out _ _ hHeld3 (fun hHeld2 => ?_)
   clear hK K hHeld hHeld3 hupd hobj hfar
   have hHeld := hHeld2
   clear hHeld2
   (try simp only [Act.put, sA, sB, sC])
   refine wpAnyH_done (by kernel_rfl) ?_ _
   have HSd3v3 := Lib.hid hHeld.1
   have HBQd3v3 := Lib.hid (hHeld.2.1)
   have HFvd3v3 := Lib.hid (hHeld.2.2)
   clear hHeld HRK HKS HSd1 HBQd1 HFvd1
   have HFMd3v3 := Lib.hid HUM_w5.out
   clear HUM_w5
   have HFrd3v3 := Lib.hid HOW_w4uw5.out
   clear HOW_w4uw5
   have HFitd3v3 := Lib.hid HITkuw4uw5.out
   clear HITkuw4uw5
   go_upto_region 4 with fail
   refine wp_region_lit ?_
   refine tkL (.bool true) (h := ?_)
   (try simp only [Act.put, sA, sB, sC])
   refine wpList_nil ?_
   (try go_wp2_with fail)
   go_ret
   exact ⟨rfl, A_5, c_5, A2, HBQd3v3.out, HFMd3v3.out, HFrd3v3.out, HFitd3v3.out, HSd3v3.out, HFAR.out⟩
/-- What Put answers. -/
def putB (ws : Int → Option WayV) (ends room x : Int) : Bool := decide (0 ≤ x ∧ x < ends ∧ (lenW ws x : Int) < room)
def putC (cs : Int → List (List Int)) (ok : Bool) (x : Int) (zs : List Int) : Int → List (List Int) := fun y => if ok = true ∧ y = x then cs x ++ [zs] else cs y
theorem putC_f {cs : Int → List (List Int)} {x : Int} {zs : List Int} : putC cs false x zs = cs := by
  funext y; unfold putC; rw [if_neg (by simp)]
theorem NO.row {lo q b N : Nat} {ends room : Int} {ws : Int → Option WayV} {S : List Nat} {w : World} {x : Int} {W : WayV} (h : NO lo q b ends room N ws S w) (hx : ws x = some W) : W.its ≠ [] ∧ RowAt lo (some ⟨W.g, 0, none⟩) W.its.length W.c W.its w ∧ ItsAt lo W.its w := h.2.2.2.1 x W hx
theorem its_in {s : ItV} {its : List ItV} (h : s ∈ its) : ∀ g ∈ blkI s, g ∈ its.flatMap blkI := fun g hg => List.mem_flatMap.2 ⟨s, h, hg⟩
theorem putT (lo q b : Nat) (ends room : Int) (N : Nat) (ws : Int → Option WayV) (x : Int) (A0 : Option Addr) (n0 c0 : Nat) (zs : List Int) (S : List Nat) (w : World) (h : NO lo q b ends room N ws S w) (hx : (Lit.int .i64 x).wf = true) (hl : (lenW ws x : Int) ≤ 10000) (hb : BV w A0 n0 zs) (hn : n0 ≤ 1000000) (hN : N < 1000000) (hlo : lo ≤ w.heap.size) (hd : ∀ g ∈ blkOf A0, g ≠ b ∧ ∀ W, ws x = some W → g ≠ W.g) :
    Calls Try.prog 23 #[.pointer (some ⟨q, 0, none⟩), .int .i64 x, .slice A0 n0 c0] w fun e w' => ∃ ws' S', e = .returned (.bool (putB ws ends room x)) ∧ NO lo q b ends room (N + 1) ws' S' w' ∧ cont ws' = putC (cont ws) (putB ws ends room x) x zs ∧ Upd S w w' ∧ ∀ g ∈ S', g ∈ S ∨ w.heap.size ≤ g := by
  have hq := h.2.1
  have hm := h.2.2.1
  by_cases h0 : x < 0
  · refine (putNeg q b ends room N ws x A0 n0 c0 w hq hm hx h0).mono ?_
    rintro e w1 ⟨rfl, hb⟩
    have e1 : putB ws ends room x = false := decide_eq_false (fun hh => by omega)
    rw [e1, putC_f]
    exact ⟨ws, S, rfl, (h.keep hb).more (Nat.le_succ N), rfl, Upd.of_since hb, fun g hg => .inl hg⟩
  by_cases h1 : ends ≤ x
  · refine (putBig q b ends room N ws x A0 n0 c0 w hq hm hx h0 h1).mono ?_
    rintro e w1 ⟨rfl, hb⟩
    have e1 : putB ws ends room x = false := decide_eq_false (fun hh => by omega)
    rw [e1, putC_f]
    exact ⟨ws, S, rfl, (h.keep hb).more (Nat.le_succ N), rfl, Upd.of_since hb, fun g hg => .inl hg⟩
  by_cases h2 : room ≤ (lenW ws x : Int)
  · refine (putFull q b ends room N ws x A0 n0 c0 w hq hm hx h0 h1 h2).mono ?_
    rintro e w1 ⟨rfl, hb⟩
    have e1 : putB ws ends room x = false := decide_eq_false (fun hh => by omega)
    rw [e1, putC_f]
    exact ⟨ws, S, rfl, (h.keep hb).more (Nat.le_succ N), rfl, Upd.of_since hb, fun g hg => .inl hg⟩
  have e1 : putB ws ends room x = true := decide_eq_true ⟨by omega, by omega, by omega⟩
  rw [e1]
  -- the row that is there, if any
  obtain ⟨A, c, its, hr, hv, hits, hcont, hlen, hS, hnd, hap⟩ : ∃ A c its, RowAt lo A its.length c its w ∧ ((ws x).map wayv).getD (.slice none 0 0) = .slice A its.length c ∧ ItsAt lo its w ∧ cont ws x = its.map ItV.zs ∧ lenW ws x = its.length ∧ (∀ g, g ∈ blkOf A ∨ g ∈ its.flatMap blkI → g ∈ S) ∧ (its.flatMap blkI).Nodup ∧ (∀ y V, ws y = some V → y ≠ x → ∀ g, g ∈ blkOf A ∨ g ∈ its.flatMap blkI → g ∉ blkW V) := by
    cases hw : ws x with
    | none => exact ⟨none, 0, [], World.ownsRow_nil _ _ _ _, rfl, fun s hs => by simp at hs, by unfold cont; rw [hw]; rfl, by unfold lenW; rw [hw]; rfl, fun g hg => by simp [blkOf] at hg, List.nodup_nil, fun y V _ _ g hg => by simp [blkOf] at hg⟩
    | some W =>
      obtain ⟨h3, h4, h5⟩ := h.row hw
      have hin : ∀ g, g ∈ blkOf (some ⟨W.g, 0, none⟩) ∨ g ∈ W.its.flatMap blkI → g ∈ blkW W := fun g hg => by
        rcases hg with hg | hg
        · simp [blkOf] at hg; rw [hg]; exact List.mem_cons_self
        · exact List.mem_cons_of_mem _ hg
      exact ⟨_, W.c, W.its, h4, rfl, h5, by unfold cont; rw [hw], by unfold lenW; rw [hw], fun g hg => h.1.2.2.2 x W hw g (hin g hg), (List.nodup_cons.1 (h.2.2.2.2.2 x W hw)).2, fun y V hy hne g hg => h.2.2.2.2.1 x y W V hw hy (Ne.symm hne) g (hin g hg)⟩
  have hdA : ∀ g ∈ blkOf A0, g ≠ b ∧ g ∉ blkOf A := fun g hg => ⟨(hd g hg).1, fun hgA => by
    cases hw : ws x with
    | none =>
      rw [hw] at hv
      simp at hv
      rw [← hv.1] at hgA
      simp [blkOf] at hgA
    | some W =>
      rw [hw] at hv
      simp [wayv] at hv
      rw [← hv.1] at hgA
      simp [blkOf] at hgA
      exact (hd g hg).2 W hw hgA⟩
  refine (putOk lo q b ends room N ws x A0 n0 c0 zs A c its w hq hm hx h0 h1 h2 hr (by omega) hv hb hn hN hlo hdA).mono ?_
  rintro e w1 ⟨rfl, A1, c1, A2, hQ, hM, hR, hI, hu, hfar⟩
  obtain ⟨g1, rfl⟩ := own_addr hR (by simp)
  have hbS : b ∈ S := h.1.2.1
  have huS : Upd S w w1 := hu.mono (fun g hg _ => by
    rcases List.mem_cons.1 hg with rfl | hg
    · exact hbS
    · exact hS g (.inl hg))
  have hI2 := own_low hI
  have hI3 := own_lt hI
  have hg1 : g1 ∈ blkOf A ∨ w.heap.size ≤ g1 := hfar g1 (by simp [blkOf])
  have hits' : ItsAt lo its w1 := hits.upd hu (fun g hg => by
    rw [List.mem_cons, not_or]
    refine ⟨map_its hm hits g hg, fun hgA => ?_⟩
    obtain ⟨s, hs, h6⟩ := List.mem_flatMap.1 hg
    rcases own_at hr with ⟨rfl, _⟩ | ⟨g', cur, rfl, _, hB, _⟩
    · simp [blkOf] at hgA
    · simp [blkOf] at hgA
      subst hgA
      exact own_ne_ty (hits s hs).1 hB (by decide) h6)
  have hit : ItAt lo w1 ⟨A2, n0, n0, zs⟩ := ⟨own_base hI hlo, hb.2.2.1, hn⟩
  have hitsA : ItsAt lo (its ++ [(⟨A2, n0, n0, zs⟩ : ItV)]) w1 := fun s hs => by
    rcases List.mem_append.1 hs with hs | hs
    · exact hits' s hs
    · rw [List.mem_singleton.1 hs]; exact hit
  have hfm : (its ++ [(⟨A2, n0, n0, zs⟩ : ItV)]).flatMap blkI = its.flatMap blkI ++ blkOf A2 := by simp [blkI]
  have hblk : ∀ g ∈ blkW ⟨g1, c1, its ++ [(⟨A2, n0, n0, zs⟩ : ItV)]⟩, (g ∈ blkOf A ∨ g ∈ its.flatMap blkI) ∨ (w.heap.size ≤ g ∧ g < w1.heap.size) := fun g hg => by
    rcases List.mem_cons.1 hg with rfl | hg
    · rcases hg1 with hg1 | hg1
      · exact .inl (.inl hg1)
      · exact .inr ⟨hg1, own_lt hR _ (by simp [blkOf])⟩
    · rw [hfm] at hg
      rcases List.mem_append.1 hg with hg | hg
      · exact .inl (.inr hg)
      · exact .inr ⟨hI2 g hg, hI3 g hg⟩
  refine ⟨_, S ++ blkW ⟨g1, c1, its ++ [(⟨A2, n0, n0, zs⟩ : ItV)]⟩, rfl, NO.put (x := x) (W' := ⟨g1, c1, its ++ [(⟨A2, n0, n0, zs⟩ : ItV)]⟩) h (fun g hg => List.mem_append_left _ hg) (fun g hg => List.mem_append_right _ hg) (fun g hg => ?_) hQ hM ?_ (by simp) hR hitsA ?_ (fun y V hy hne g hg => ?_), ?_, huS, fun g hg => ?_⟩
  · rcases List.mem_append.1 hg with hg | hg
    · exact ⟨(h.1.2.2.1 g hg).1, Nat.lt_of_lt_of_le (h.1.2.2.1 g hg).2 hu.size⟩
    · rcases hblk g hg with hg | hg
      · exact ⟨(h.1.2.2.1 g (hS g hg)).1, Nat.lt_of_lt_of_le (h.1.2.2.1 g (hS g hg)).2 hu.size⟩
      · exact ⟨Nat.le_trans hlo hg.1, hg.2⟩
  · refine (h.2.2.2.1.but x).upd hu (fun y V hy g hg => ?_)
    obtain ⟨hne, hy⟩ := but_some hy
    rw [List.mem_cons, not_or]
    refine ⟨?_, fun hgA => hap y V hy hne g (.inl hgA) hg⟩
    obtain ⟨h6, h7, h8⟩ := h.row hy
    rcases List.mem_cons.1 hg with rfl | hg
    · exact fun e => map_own hm h7 (by rw [← e]; simp [blkOf])
    · exact map_its hm h8 g hg
  · show (g1 :: (its ++ [(⟨A2, n0, n0, zs⟩ : ItV)]).flatMap blkI).Nodup
    rw [List.nodup_cons, hfm]
    refine ⟨fun hg => ?_, List.nodup_append.2 ⟨hnd, ?_, fun a ha a' ha' e => ?_⟩⟩
    · obtain ⟨cur, hB⟩ : ∃ cur, Blk w1 g1 55 cur := by
        rcases own_at hR with ⟨h6, _⟩ | ⟨g', cur, h6, _, hB, _⟩
        · cases h6
        · cases h6; exact ⟨cur, hB⟩
      rw [← hfm] at hg
      exact its_ty hitsA hB (by decide) hg
    · rcases own_at hI with ⟨rfl, _⟩ | ⟨g', cur, rfl, _⟩ <;> simp [blkOf]
    · subst e
      have q1 := hits.lt a ha
      have q2 := hI2 a ha'
      omega
  · rcases hblk g hg with hg | hg
    · exact hap y V hy hne g hg
    · intro hgV
      have q := (h.1.2.2.1 g (h.1.2.2.2 y V hy g hgV)).2
      omega
  · funext y
    unfold putC
    by_cases hy : y = x
    · subst hy
      rw [if_pos ⟨rfl, rfl⟩, hcont]
      unfold cont
      simp
    · rw [if_neg (fun hh => hy hh.2)]
      unfold cont
      simp only [if_neg hy]
  · rcases List.mem_append.1 hg with hg | hg
    · exact .inl hg
    · rcases hblk g hg with hg | hg
      · exact .inl (hS g hg)
      · exact .inr hg.1
end Go.Proofs.Ytlihhjcneedgnaa.Nt
