/-
  What is wanted by the last of these texts, part 13.
  No condition.
-/
import Derived.Test.YtpacieocmogjeaaProg
import Derived.Test.YtpacieocmogjeaaKGv0
import Derived.Test.YtpacieocmogjeaaKGv12
import Derived.Test.YtpacieocmogjeaaKGv1
namespace Go.Proofs.Ytpacieocmogjeaa.Gr
set_option linter.unusedVariables false
set_option linter.unusedSimpArgs false
open Go.RowKit Go.Proofs.Ytpacieocmogjeaa.Ba Go.Proofs.Ytpacieocmogjeaa.Mem Go.Proofs.Ytpacieocmogjeaa.Ty Go.Proofs.Ytpacieocmogjeaa.Mo Go.Proofs.Ytpacieocmogjeaa.St Go.Proofs.Ytpacieocmogjeaa.Sc Go.Proofs.Ytpacieocmogjeaa.Pl
open Go.Proofs.Ytpacieocmogjeaa.Ct (cfgA carA m1 dwV bdX tkV tkF tkW tkS tickT)
set_option maxRecDepth 100000
attribute [local irreducible] Go.wpList
namespace C1
set_option maxHeartbeats 4000000 in
theorem cloneNil (w : World) : Calls Try.prog 43 #[.slice none 0 0] w fun e w' => e = .returned (.slice none 0 0) ∧ Since w w' := by
 go_enter Try.func43, Try.ntmps43
 go_upto_region 1 with fail
 have HS1 := Lib.hid (Since.refl w)
 refine wp_region_lit ?_
 refine tkL (.slice none 0 0) (h := ?_)
 (try simp only [Act.put, sA, sB, sC])
 refine tkL (.bool true) (h := ?_)
 (try simp only [Act.put, sA, sB, sC])
 refine wpList_nil ?_
 go_upto_region 2 with fail
 refine wp_region_lit ?_
 refine tkL (.slice none 0 0) (h := ?_)
 (try simp only [Act.put, sA, sB, sC])
 refine wpList_nil ?_
 (try go_wp2_with fail)
 go_ret
 exact ⟨rfl, HS1.out⟩
set_option maxHeartbeats 4000000 in
theorem cloneSome (ad : Addr) (n c : Nat) (ls : List CarV) (w : World) (hR : Reads w w.heap.size 15 (some ad) n (rowsOf carL ls)) (hN : n ≤ 1000000) : Calls Try.prog 43 #[.slice (some ad) n c] w fun e w' => ∃ A' c', e = .returned (.slice A' n c') ∧ w'.ownsRow w.heap.size 30 15 (.slice A' n c') n (rowsOf carL ls) ∧ Since w w' := by
 have HR := Lib.hid hR
 clear hR
 have HN := Lib.hid hN
 clear hN
 go_enter Try.func43, Try.ntmps43
 go_upto_region 1 with fail
 have HS1 := Lib.hid (Since.refl w)
 refine wp_region_lit ?_
 refine tkL (.slice (some ad) n c) (h := ?_)
 (try simp only [Act.put, sA, sB, sC])
 refine tkL (.bool false) (h := ?_)
 (try simp only [Act.put, sA, sB, sC])
 refine wpList_nil ?_
 go_upto_region 3 with fail
 refine wp_region_lit ?_
 refine wpList_wp (by rfl) (fun K hK => ?_)
 refine wp_new (fun b => .slice (some ⟨b, 0, none⟩) 0 0) 30 #[] (by rintro b rfl; first | rfl | kernel_rfl) ?_
 intro bn5 w2 hge hB hb
 refine hK.out _ _ ?_
 clear hK K
 (try simp only [Act.put, sA, sB, sC])
 have HGn5 := Lib.hid (show w.heap.size ≤ bn5 by have := Since.size HS1.out; omega)
 have HS2 := Lib.hid (Since.trans HS1.out hb)
 clear HS1 
 clear hb hge
 have HBn52 := Lib.hid hB
 clear hB
 refine tkL (.slice (some ad) n c) (h := ?_)
 (try simp only [Act.put, sA, sB, sC])
 refine wpList_wp (by rfl) (fun K hK => ?_)
 have HOE := Lib.hid (own_empty (e := 30) (size := 15) HBn52.out HGn5.out)
 clear HBn52
 refine wp_append_row (.tmp 5) (.tmp 6) 37 rfl w.heap.size 30 (Value.agg #[.int .i64 0, .int .i64 0, .int .i64 0, .int .i64 0, .int .i64 0, .int .i64 0, .int .i64 0, .bool false, .bool false, .int .i64 0, .int .i64 0, .bool false, .int .u64 0, .int .u64 0, .int .u64 0]) 15 112 Try.underlying37 (by kernel_rfl) rfl (by decide) (by decide) (some ⟨bn5, 0, none⟩) 0 0 ([]) rfl HOE.out _ (some ad) n c (rowsOf carL ls) rfl (own_reads_since HS2.out (Nat.le_refl _) HR.out) (cars_one ls) (by have := HN.out; omega) HS2.out.size n (rowsOf carL ls) (Nat.zero_add _) rfl ?_
 intro A_1 c_1 w3 hown hupd hfar
 refine hK.out _ _ ?_
 clear hK K
 (try simp only [Act.put, sA, sB, sC])
 have HS3 := Lib.hid (Since.upd HS2.out hupd (own_low HOE.out))
 have HFr3 := Lib.hid hown
 clear hupd hown hfar HS2 HOE
 refine tkL (.slice A_1 n c_1) (h := ?_)
 (try simp only [Act.put, sA, sB, sC])
 refine wpList_nil ?_
 (try go_wp2_with fail)
 go_ret
 exact ⟨A_1, c_1, rfl, HFr3.out, HS3.out⟩
theorem cloneT (lo : Nat) (A : Option Addr) (c : Nat) (ls : List CarV) (w : World) (hO : w.ownsRow lo 30 15 (.slice A ls.length c) ls.length (rowsOf carL ls)) (hl : ls.length ≤ 1000000) : Calls Try.prog 43 #[.slice A ls.length c] w fun e w' => ∃ A' c', e = .returned (.slice A' ls.length c') ∧ w'.ownsRow w.heap.size 30 15 (.slice A' ls.length c') ls.length (rowsOf carL ls) ∧ Since w w' := by
  rcases own_at hO with ⟨rfl, h0, hx⟩ | ⟨g, cur, rfl, _⟩
  · have hc : c = 0 := by
      rcases hO.2 with ⟨hv, _⟩ | ⟨_, _, _, hv, _⟩
      · simp at hv; exact hv.2
      · simp at hv
    subst hc
    rw [hx, h0]
    refine (cloneNil w).mono ?_
    rintro e w1 ⟨rfl, hb⟩
    exact ⟨none, 0, rfl, World.ownsRow_nil _ _ _ _, hb⟩
  · exact cloneSome _ _ c ls w (own_reads hO) hl
end C1
namespace C2
set_option maxHeartbeats 4000000 in
theorem cloneNil (w : World) : Calls Try.prog 49 #[.slice none 0 0] w fun e w' => e = .returned (.slice none 0 0) ∧ Since w w' := by
 go_enter Try.func49, Try.ntmps49
 go_upto_region 1 with fail
 have HS1 := Lib.hid (Since.refl w)
 refine wp_region_lit ?_
 refine tkL (.slice none 0 0) (h := ?_)
 (try simp only [Act.put, sA, sB, sC])
 refine tkL (.bool true) (h := ?_)
 (try simp only [Act.put, sA, sB, sC])
 refine wpList_nil ?_
 go_upto_region 2 with fail
 refine wp_region_lit ?_
 refine tkL (.slice none 0 0) (h := ?_)
 (try simp only [Act.put, sA, sB, sC])
 refine wpList_nil ?_
 (try go_wp2_with fail)
 go_ret
 exact ⟨rfl, HS1.out⟩
set_option maxHeartbeats 4000000 in
theorem cloneSome (ad : Addr) (n c : Nat) (ls : List WaitV) (w : World) (hR : Reads w w.heap.size 4 (some ad) n (rowsOf waitL ls)) (hN : n ≤ 1000000) : Calls Try.prog 49 #[.slice (some ad) n c] w fun e w' => ∃ A' c', e = .returned (.slice A' n c') ∧ w'.ownsRow w.heap.size 55 4 (.slice A' n c') n (rowsOf waitL ls) ∧ Since w w' := by
 have HR := Lib.hid hR
 clear hR
 have HN := Lib.hid hN
 clear hN
 go_enter Try.func49, Try.ntmps49
 go_upto_region 1 with fail
 have HS1 := Lib.hid (Since.refl w)
 refine wp_region_lit ?_
 refine tkL (.slice (some ad) n c) (h := ?_)
 (try simp only [Act.put, sA, sB, sC])
 refine tkL (.bool false) (h := ?_)
 (try simp only [Act.put, sA, sB, sC])
 refine wpList_nil ?_
 go_upto_region 3 with fail
 refine wp_region_lit ?_
 refine wpList_wp (by rfl) (fun K hK => ?_)
 refine wp_new (fun b => .slice (some ⟨b, 0, none⟩) 0 0) 55 #[] (by rintro b rfl; first | rfl | kernel_rfl) ?_
 intro bn5 w2 hge hB hb
 refine hK.out _ _ ?_
 clear hK K
 (try simp only [Act.put, sA, sB, sC])
 have HGn5 := Lib.hid (show w.heap.size ≤ bn5 by have := Since.size HS1.out; omega)
 have HS2 := Lib.hid (Since.trans HS1.out hb)
 clear HS1 
 clear hb hge
 have HBn52 := Lib.hid hB
 clear hB
 refine tkL (.slice (some ad) n c) (h := ?_)
 (try simp only [Act.put, sA, sB, sC])
 refine wpList_wp (by rfl) (fun K hK => ?_)
 have HOE := Lib.hid (own_empty (e := 55) (size := 4) HBn52.out HGn5.out)
 clear HBn52
 refine wp_append_row (.tmp 5) (.tmp 6) 50 rfl w.heap.size 55 (Value.agg #[.int .i64 0, .int .i64 0, .int .i64 0, .int .i64 0]) 4 32 Try.underlying50 (by kernel_rfl) rfl (by decide) (by decide) (some ⟨bn5, 0, none⟩) 0 0 ([]) rfl HOE.out _ (some ad) n c (rowsOf waitL ls) rfl (own_reads_since HS2.out (Nat.le_refl _) HR.out) (waits_one ls) (by have := HN.out; omega) HS2.out.size n (rowsOf waitL ls) (Nat.zero_add _) rfl ?_
 intro A_1 c_1 w3 hown hupd hfar
 refine hK.out _ _ ?_
 clear hK K
 (try simp only [Act.put, sA, sB, sC])
 have HS3 := Lib.hid (Since.upd HS2.out hupd (own_low HOE.out))
 have HFr3 := Lib.hid hown
 clear hupd hown hfar HS2 HOE
 refine tkL (.slice A_1 n c_1) (h := ?_)
 (try simp only [Act.put, sA, sB, sC])
 refine wpList_nil ?_
 (try go_wp2_with fail)
 go_ret
 exact ⟨A_1, c_1, rfl, HFr3.out, HS3.out⟩
theorem cloneT (lo : Nat) (A : Option Addr) (c : Nat) (ls : List WaitV) (w : World) (hO : w.ownsRow lo 55 4 (.slice A ls.length c) ls.length (rowsOf waitL ls)) (hl : ls.length ≤ 1000000) : Calls Try.prog 49 #[.slice A ls.length c] w fun e w' => ∃ A' c', e = .returned (.slice A' ls.length c') ∧ w'.ownsRow w.heap.size 55 4 (.slice A' ls.length c') ls.length (rowsOf waitL ls) ∧ Since w w' := by
  rcases own_at hO with ⟨rfl, h0, hx⟩ | ⟨g, cur, rfl, _⟩
  · have hc : c = 0 := by
      rcases hO.2 with ⟨hv, _⟩ | ⟨_, _, _, hv, _⟩
      · simp at hv; exact hv.2
      · simp at hv
    subst hc
    rw [hx, h0]
    refine (cloneNil w).mono ?_
    rintro e w1 ⟨rfl, hb⟩
    exact ⟨none, 0, rfl, World.ownsRow_nil _ _ _ _, hb⟩
  · exact cloneSome _ _ c ls w (own_reads hO) hl
set_option maxHeartbeats 4000000 in
theorem deleteT (lo g m c i : Nat) (ls : List WaitV) (w : World) (hO : w.ownsRow lo 55 4 (.slice (some ⟨g, 0, none⟩) (m + 1) c) (m + 1) (rowsOf waitL ls)) (hl : ls.length = m + 1) (hi : i ≤ m) (hc : m + 1 ≤ c) (hm : m + 1 ≤ 1000000) : Calls Try.prog 48 #[.slice (some ⟨g, 0, none⟩) (m + 1) c, .int .i64 (i : Int), .int .i64 ((i : Int) + 1)] w fun e w' => e = .returned (.slice (some ⟨g, 0, none⟩) m c) ∧ w'.ownsRow lo 55 4 (.slice (some ⟨g, 0, none⟩) m c) m (rowsOf waitL (ls.eraseIdx i)) ∧ Upd [g] w w' := by
 have HOW := Lib.hid hO
 clear hO
 have HL := Lib.hid hl
 clear hl
 have HI := Lib.hid hi
 clear hi
 have HC := Lib.hid hc
 clear hc
 have HM := Lib.hid hm
 clear hm
 go_enter Try.func48, Try.ntmps48
 go_upto_region 1 with fail
 have HS1 := Lib.hid (Upd.refl [g] w)
 refine wp_region_lit ?_
 refine tkL (.slice (some ⟨g, 0, none⟩) (m + 1) c) (h := ?_)
 (try simp only [Act.put, sA, sB, sC])
 refine tkL (.int .i64 (i : Int)) (h := ?_)
 (try simp only [Act.put, sA, sB, sC])
 refine tkL (.int .i64 ((i : Int) + 1)) (h := ?_)
 (try simp only [Act.put, sA, sB, sC])
 refine tkL (.slice (some ⟨g, 0, none⟩) (m + 1) c) (h := ?_)
 (try simp only [Act.put, sA, sB, sC])
 refine tkL (.int .i64 ((m + 1 : Nat) : Int)) (h := ?_)
 (try simp only [Act.put, sA, sB, sC])
 refine wpList_q (by rfl) (.slice (cutA (m + 1) i (some ⟨g, 0, none⟩ : Option Addr) 4) (i + 1 - i) (m + 1 - i)) ?he ?_
 case he => exact exec_slice (s := 4) 50 55 _ _ _ _ rfl rfl Try.underlying50 (by kernel_rfl) (sb_lhm _ _ _ _ (l := i) (h := i + 1) (m := m + 1) rfl (by push_cast; rfl) rfl (by omega) (by have q0 := HI.out; omega) HC.out) (by rfl) rfl rfl
 (try simp only [Act.put, sA, sB, sC])
 refine wpList_nil ?_
 go_upto_region 2 with fail
 refine wp_region_lit ?_
 refine tkL (.int .i64 (i : Int)) (h := ?_)
 (try simp only [Act.put, sA, sB, sC])
 refine tkL (.int .i64 ((i : Int) + 1)) (h := ?_)
 (try simp only [Act.put, sA, sB, sC])
 refine wpList_q (by rfl) (.bool false) ?he ?_
 case he => (go_simp; (first | done | rfl | omega))
 (try simp only [Act.put, sA, sB, sC])
 refine wpList_nil ?_
 go_upto_region 4 with fail
 refine wp_region_lit ?_
 refine tkL (.slice (some ⟨g, 0, none⟩) (m + 1) c) (h := ?_)
 (try simp only [Act.put, sA, sB, sC])
 refine tkL (.int .i64 ((m + 1 : Nat) : Int)) (h := ?_)
 (try simp only [Act.put, sA, sB, sC])
 refine tkL (.int .i64 ((m + 1 : Nat) : Int)) (h := ?_)
 (try simp only [Act.put, sA, sB, sC])
 refine wpList_nil ?_
 go_upto_region 5 with fail
 have HKS : Hid (KeepS (fun W : World => Upd [g] w W) w) := Lib.hid ⟨fun W W' k h => h.trans k, HS1.out⟩
 have HRK := Lib.hid HKS.out.1
 have HEr := Lib.hid (show ((World.drew w)).ownsRow lo 55 4 (.slice (some ⟨g, 0, none⟩) (m + 1) c) (m + 1) (rowsOf waitL ls) from HOW.out)
 clear HOW
 refine wp_held HKS.out (by kernel_rfl) (fun hHeld => ?_)
 refine tkQ 0 (.slice (some ⟨g, 0, none⟩) (m + 1) c) hHeld (h := ?_)
 (try simp only [Act.put, sA, sB, sC])
 refine tkQ 1 (.int .i64 (i : Int)) hHeld (h := ?_)
 (try simp only [Act.put, sA, sB, sC])
 refine tkQ 2 (.slice (some ⟨g, 0, none⟩) i c) hHeld (he := by intro w hSw; exact exec_slice (s := 4) 50 55 _ _ _ _ rfl rfl Try.underlying50 (by kernel_rfl) (sb_h _ _ (h := i) rfl (by have q0 := HI.out; have q1 := HC.out; omega)) (by split <;> simp [Addr.add]) rfl rfl) (h := ?_)
 (try simp only [Act.put, sA, sB, sC])
 refine tkQ 3 (.slice (some ⟨g, 0, none⟩) (m + 1) c) hHeld (h := ?_)
 (try simp only [Act.put, sA, sB, sC])
 refine tkQ 4 (.int .i64 ((i : Int) + 1)) hHeld (h := ?_)
 (try simp only [Act.put, sA, sB, sC])
 refine tkQ 5 (.slice (cutA c (i + 1) (some ⟨g, 0, none⟩ : Option Addr) 4) (m + 1 - (i + 1)) (c - (i + 1))) hHeld (he := by intro w hSw; exact exec_slice (s := 4) 50 55 _ _ _ _ rfl rfl Try.underlying50 (by kernel_rfl) (sb_l _ _ (l := i + 1) (by push_cast; rfl) (by have q0 := HI.out; omega)) (by rfl) rfl rfl) (h := ?_)
 (try simp only [Act.put, sA, sB, sC])
 refine wpAnyH_ready (rs := [6]) (by kernel_rfl) (by simp) ?_
 refine AllReadyH.cons (o := ?o5__6) ?h5__6 (fun K hK => ?_) AllReadyH.nil
 case h5__6 => (first | (simp only [gA, gB, gC]; done) | (simp only [gA, gB, gC]; exact rfl))
 rw [if_pos (by rfl)]
 refine wp_append_room (.tmp 22) (.tmp 25) 50 rfl lo 55 4 Try.underlying50 (by kernel_rfl) g i c ((rowsOf waitL ls).take (i * 4)) rfl (own_prefix HEr.out (by have q0 := HI.out; omega)) _ (cutA c (i + 1) (some ⟨g, 0, none⟩ : Option Addr) 4) (m + 1 - (i + 1)) (c - (i + 1)) ((rowsOf waitL ls).drop ((i + 1) * 4)) rfl (reads_cut (own_reads HEr.out) (by have q0 := HI.out; omega) HC.out) (fun u hu => waits_one ls u (List.mem_of_mem_drop hu)) (by have q0 := HI.out; have q1 := HC.out; omega) m (rowsOf waitL (ls.eraseIdx i)) (by have q0 := HI.out; omega) (erase_rows waitL_len (by have q0 := HI.out; have q2 := HL.out; omega)) ?_
 intro w2 hown hupd
 skip
 have hHeld3 := HKS.out.at_ w2 (Upd.comp hHeld hupd (fun _ h => .inl h))
 have HOW_w2 := Lib.hid hown
 refine hK.out _ _ hHeld3 (fun hHeld2 => ?_)
 clear hK K hHeld hHeld3 hupd hown  HEr 
 have hHeld := hHeld2
 clear hHeld2
 (try simp only [Act.put, sA, sB, sC])
 refine tkQ 7 (.slice (some ⟨g, 0, none⟩) m c) hHeld (h := ?_)
 (try simp only [Act.put, sA, sB, sC])
 refine wpAnyH_done (by kernel_rfl) ?_ _
 have HSd5 := Lib.hid hHeld
 clear hHeld HRK HKS HS1 
 have HFrd5 := Lib.hid HOW_w2.out
 clear HOW_w2
 go_upto_region 6 with fail
 refine wp_region_lit ?_
 refine tkL (.slice (some ⟨g, 0, none⟩) m c) (h := ?_)
 (try simp only [Act.put, sA, sB, sC])
 refine tkL (.slice (some ⟨g, 0, none⟩) m c) (h := ?_)
 (try simp only [Act.put, sA, sB, sC])
 refine tkL (.int .i64 (m : Int)) (h := ?_)
 (try simp only [Act.put, sA, sB, sC])
 refine tkL (.int .i64 ((m + 1 : Nat) : Int)) (h := ?_)
 (try simp only [Act.put, sA, sB, sC])
 refine wpList_q (by rfl) (.slice (some ⟨g, m * 4, none⟩) 1 (c - m)) ?he ?_
 case he => exact exec_slice (s := 4) 50 55 _ _ _ _ rfl rfl Try.underlying50 (by kernel_rfl) (sb_lh _ _ _ (l := m) (h := m + 1) rfl rfl (by omega) HC.out) (by have q1 := HC.out; rw [if_neg (by omega)]; simp [Go.WideShapes.add_plain]) (by omega) rfl
 (try simp only [Act.put, sA, sB, sC])
 refine wpList_wp (by rfl) (fun K hK => ?_)
 refine wp_clear_behind _ 50 rfl lo 55 (Value.agg #[.int .i64 0, .int .i64 0, .int .i64 0, .int .i64 0]) 4 32 Try.underlying50 (by kernel_rfl) rfl (by intro u hu; simp [Value.cells] at hu; (try rcases hu with rfl | rfl | rfl | rfl) <;> rfl) g m c _ HFrd5.out 1 (c - m) (by decide) HC.out rfl ?_
 intro w3 hown hupd
 refine hK.out _ _ ?_
 clear hK K
 (try simp only [Act.put, sA, sB, sC])
 have HSz := Lib.hid (Upd.comp HSd5.out hupd (fun _ h => .inl h))
 have HOWz := Lib.hid hown
 clear hown hupd HSd5 HFrd5
 refine wpList_nil ?_
 go_upto_region 7 with fail
 refine wp_region_lit ?_
 refine tkL (.slice (some ⟨g, 0, none⟩) m c) (h := ?_)
 (try simp only [Act.put, sA, sB, sC])
 refine tkL (.slice (some ⟨g, 0, none⟩) m c) (h := ?_)
 (try simp only [Act.put, sA, sB, sC])
 refine wpList_nil ?_
 (try go_wp2_with fail)
 go_ret
 exact ⟨rfl, HOWz.out, HSz.out⟩
end C2
def hasF (c : CfgV) (f : Int) : Bool := decide (0 ≤ f ∧ f < fl c.fl)
set_option maxHeartbeats 4000000 in
theorem hasF1 (q : Nat) (G : GrV) (v1 v2 : Value) (f : Int) (w : World) (hq : Blk w q 67 (grpA G v1 v2)) (hf : f < 0) : Calls Try.prog 56 #[.pointer (some ⟨q, 0, none⟩), .int .i64 f] w fun e w' => e = .returned (.bool false) ∧ w = w' := by
 have HQ := Lib.hid hq
 clear hq
 have HF := Lib.hid hf
 clear hf
 go_enter Try.func56, Try.ntmps56
 go_upto_region 1 with fail
 have HS1 := Lib.hid (Since.refl w)
 refine wp_region_lit ?_
 refine tkL (.pointer (some ⟨q, 0, none⟩)) (h := ?_)
 (try simp only [Act.put, sA, sB, sC])
 refine tkL (.bool true) (h := ?_)
 (try simp only [Act.put, sA, sB, sC])
 refine tkL (.bool true) (h := ?_)
 (try simp only [Act.put, sA, sB, sC])
 refine tkL (.int .i64 f) (h := ?_)
 (try simp only [Act.put, sA, sB, sC])
 refine wpList_q (by rfl) (.bool false) ?he ?_
 case he => (have q0 := HF.out; go_simp; (first | done | rfl | omega))
 (try simp only [Act.put, sA, sB, sC])
 refine tkL (.bool false) (h := ?_)
 (try simp only [Act.put, sA, sB, sC])
 refine tkL (.bool false) (h := ?_)
 (try simp only [Act.put, sA, sB, sC])
 refine wpList_no (by rfl) ?_
 (try simp only [Act.put, sA, sB, sC])
 refine wpList_no (by rfl) ?_
 (try simp only [Act.put, sA, sB, sC])
 refine wpList_no (by rfl) ?_
 (try simp only [Act.put, sA, sB, sC])
 refine wpList_no (by rfl) ?_
 (try simp only [Act.put, sA, sB, sC])
 refine wpList_no (by rfl) ?_
 (try simp only [Act.put, sA, sB, sC])
 refine wpList_no (by rfl) ?_
 (try simp only [Act.put, sA, sB, sC])
 refine wpList_no (by rfl) ?_
 (try simp only [Act.put, sA, sB, sC])
 refine wpList_no (by rfl) ?_
 (try simp only [Act.put, sA, sB, sC])
 refine tkL (.bool false) (h := ?_)
 (try simp only [Act.put, sA, sB, sC])
 refine tkL (.bool false) (h := ?_)
 (try simp only [Act.put, sA, sB, sC])
 refine wpList_nil ?_
 (try go_wp2_with fail)
 go_ret
 exact ⟨rfl, rfl⟩
set_option maxHeartbeats 4000000 in
theorem hasF2 (q : Nat) (G : GrV) (v1 v2 : Value) (f : Int) (w : World) (hq : Blk w q 67 (grpA G v1 v2)) (hf : 0 ≤ f) (hg : f < fl G.c.fl) : Calls Try.prog 56 #[.pointer (some ⟨q, 0, none⟩), .int .i64 f] w fun e w' => e = .returned (.bool true) ∧ w = w' := by
 have HQ := Lib.hid hq
 clear hq
 have HF := Lib.hid hf
 clear hf
 have HG := Lib.hid hg
 clear hg
 go_enter Try.func56, Try.ntmps56
 go_upto_region 1 with fail
 have HS1 := Lib.hid (Since.refl w)
 refine wp_region_lit ?_
 refine tkL (.pointer (some ⟨q, 0, none⟩)) (h := ?_)
 (try simp only [Act.put, sA, sB, sC])
 refine tkL (.bool true) (h := ?_)
 (try simp only [Act.put, sA, sB, sC])
 refine tkL (.bool true) (h := ?_)
 (try simp only [Act.put, sA, sB, sC])
 refine tkL (.int .i64 f) (h := ?_)
 (try simp only [Act.put, sA, sB, sC])
 refine wpList_q (by rfl) (.bool true) ?he ?_
 case he => (have q0 := HF.out; go_simp; (first | done | rfl | omega))
 (try simp only [Act.put, sA, sB, sC])
 refine tkL (.bool true) (h := ?_)
 (try simp only [Act.put, sA, sB, sC])
 refine tkL (.bool true) (h := ?_)
 (try simp only [Act.put, sA, sB, sC])
 refine tkL (.int .i64 f) (h := ?_)
 (try simp only [Act.put, sA, sB, sC])
 refine tkL (.pointer (some ⟨q, 0, none⟩)) (h := ?_)
 (try simp only [Act.put, sA, sB, sC])
 refine tkL (.pointer (some ⟨q, 0, none⟩)) (h := ?_)
 (try simp only [Act.put, sA, sB, sC])
 refine tkL (.pointer (some ⟨q, 0, none⟩)) (h := ?_)
 (try simp only [Act.put, sA, sB, sC])
 refine tkL (.pointer (some ⟨q, 1, none⟩)) (h := ?_)
 (try simp only [Act.put, sA, sB, sC])
 refine wpList_q (by rfl) (.int .i64 G.c.fl) ?he ?_
 case he => exact exec_cell 3 _ _ HQ.out rfl rfl rfl Try.underlying3 rfl
 (try simp only [Act.put, sA, sB, sC])
 refine wpList_wp (by rfl) (fun K hK => ?_)
 (try go_simp)
 refine (floorsT _ _).mono ?_
 rintro e w' ⟨rfl, rfl⟩
 (try go_wp2_with fail)
 refine hK.out _ _ ?_
 clear hK K
 (try simp only [Act.put, sA, sB, sC])
 refine wpList_q (by rfl) (.bool true) ?he ?_
 case he => (have q0 := HG.out; go_simp; (first | done | rfl | omega))
 (try simp only [Act.put, sA, sB, sC])
 refine tkL (.bool true) (h := ?_)
 (try simp only [Act.put, sA, sB, sC])
 refine tkL (.bool true) (h := ?_)
 (try simp only [Act.put, sA, sB, sC])
 refine wpList_nil ?_
 (try go_wp2_with fail)
 go_ret
 exact ⟨rfl, rfl⟩
set_option maxHeartbeats 4000000 in
theorem hasF3 (q : Nat) (G : GrV) (v1 v2 : Value) (f : Int) (w : World) (hq : Blk w q 67 (grpA G v1 v2)) (hf : 0 ≤ f) (hg : ¬ f < fl G.c.fl) : Calls Try.prog 56 #[.pointer (some ⟨q, 0, none⟩), .int .i64 f] w fun e w' => e = .returned (.bool false) ∧ w = w' := by
 have HQ := Lib.hid hq
 clear hq
 have HF := Lib.hid hf
 clear hf
 have HG := Lib.hid hg
 clear hg
 go_enter Try.func56, Try.ntmps56
 go_upto_region 1 with fail
 have HS1 := Lib.hid (Since.refl w)
 refine wp_region_lit ?_
 refine tkL (.pointer (some ⟨q, 0, none⟩)) (h := ?_)
 (try simp only [Act.put, sA, sB, sC])
 refine tkL (.bool true) (h := ?_)
 (try simp only [Act.put, sA, sB, sC])
 refine tkL (.bool true) (h := ?_)
 (try simp only [Act.put, sA, sB, sC])
 refine tkL (.int .i64 f) (h := ?_)
 (try simp only [Act.put, sA, sB, sC])
 refine wpList_q (by rfl) (.bool true) ?he ?_
 case he => (have q0 := HF.out; go_simp; (first | done | rfl | omega))
 (try simp only [Act.put, sA, sB, sC])
 refine tkL (.bool true) (h := ?_)
 (try simp only [Act.put, sA, sB, sC])
 refine tkL (.bool true) (h := ?_)
 (try simp only [Act.put, sA, sB, sC])
 refine tkL (.int .i64 f) (h := ?_)
 (try simp only [Act.put, sA, sB, sC])
 refine tkL (.pointer (some ⟨q, 0, none⟩)) (h := ?_)
 (try simp only [Act.put, sA, sB, sC])
 refine tkL (.pointer (some ⟨q, 0, none⟩)) (h := ?_)
 (try simp only [Act.put, sA, sB, sC])
 refine tkL (.pointer (some ⟨q, 0, none⟩)) (h := ?_)
 (try simp only [Act.put, sA, sB, sC])
 refine tkL (.pointer (some ⟨q, 1, none⟩)) (h := ?_)
 (try simp only [Act.put, sA, sB, sC])
 refine wpList_q (by rfl) (.int .i64 G.c.fl) ?he ?_
 case he => exact exec_cell 3 _ _ HQ.out rfl rfl rfl Try.underlying3 rfl
 (try simp only [Act.put, sA, sB, sC])
 refine wpList_wp (by rfl) (fun K hK => ?_)
 (try go_simp)
 refine (floorsT _ _).mono ?_
 rintro e w' ⟨rfl, rfl⟩
 (try go_wp2_with fail)
 refine hK.out _ _ ?_
 clear hK K
 (try simp only [Act.put, sA, sB, sC])
 refine wpList_q (by rfl) (.bool false) ?he ?_
 case he => (have q0 := HG.out; go_simp; (first | done | rfl | omega))
 (try simp only [Act.put, sA, sB, sC])
 refine tkL (.bool false) (h := ?_)
 (try simp only [Act.put, sA, sB, sC])
 refine tkL (.bool false) (h := ?_)
 (try simp only [Act.put, sA, sB, sC])
 refine wpList_nil ?_
 (try go_wp2_with fail)
 go_ret
 exact ⟨rfl, rfl⟩
theorem hasFT (q : Nat) (G : GrV) (v1 v2 : Value) (f : Int) (b : Bool) (w : World) (hq : Blk w q 67 (grpA G v1 v2)) (hb : hasF G.c f = b) : Calls Try.prog 56 #[.pointer (some ⟨q, 0, none⟩), .int .i64 f] w fun e w' => e = .returned (.bool b) ∧ w = w' := by
  subst hb
  unfold hasF
  by_cases h0 : 0 ≤ f
  · by_cases h1 : f < fl G.c.fl
    · rw [decide_eq_true ⟨h0, h1⟩]; exact hasF2 q G v1 v2 f w hq h0 h1
    · rw [decide_eq_false (fun h => h1 h.2)]; exact hasF3 q G v1 v2 f w hq h0 h1
  · rw [decide_eq_false (fun h => h0 h.1)]; exact hasF1 q G v1 v2 f w hq (by omega)
set_option maxHeartbeats 4000000 in
theorem hasC1A (q : Nat) (G : GrV) (v1 v2 : Value) (f wy : Int) (w : World) (hq : Blk w q 67 (grpA G v1 v2)) (h1 : wy = 1) (ha : hasF G.c f = false) : Calls Try.prog 51 #[.pointer (some ⟨q, 0, none⟩), .agg #[.int .i64 f, .int .i64 wy]] w fun e w' => e = .returned (.bool false) ∧ Since w w' := by
 have HQ := Lib.hid hq
 clear hq
 have H1 := Lib.hid h1
 clear h1
 have HA := Lib.hid ha
 clear ha
 go_enter Try.func51, Try.ntmps51
 go_upto_region 1 with fail
 obtain ⟨w1, hw1⟩ : ∃ w1, w1 = (w.alloc (.cells #[.int .i64 f, .int .i64 wy] 32)) := ⟨_, rfl⟩
 rw [← hw1]
 have HBK1 := Lib.hid (show Blk w1 (w.heap.size) 32 #[.int .i64 f, .int .i64 wy] by rw [hw1]; exact Blk.at_ (by (try simp only [size_alloc])) _ _)
 have HS1 := Lib.hid (show Since w w1 by rw [hw1]; exact Since.alloc (Since.refl w) _)
 have hNE : w.heap.size ≤ w.heap.size := by omega
 have HNE := Lib.hid hNE
 clear hNE hw1
 have HNE3 := Lib.hid (show w.heap.size ≤ w.heap.size from HNE.out)
 clear HNE
 have HQ1 := Lib.hid (keep_blk HS1.out HQ.out)
 refine wp_region_lit ?_
 refine tkL (.pointer (some ⟨w.heap.size, 1, none⟩)) (h := ?_)
 (try simp only [Act.put, sA, sB, sC])
 refine wpList_q (by rfl) (.int .i64 wy) ?he ?_
 case he => exact exec_cell 3 _ _ HBK1.out rfl rfl rfl Try.underlying3 rfl
 (try simp only [Act.put, sA, sB, sC])
 refine wpList_nil ?_
 go_upto_region 2 with fail
 refine wp_region_lit ?_
 refine wpList_q (by rfl) (.bool true) ?he ?_
 case he => (have q := H1.out; go_simp; (first | done | exact q | (simp [q]; done) | omega))
 (try simp only [Act.put, sA, sB, sC])
 refine tkL (.bool true) (h := ?_)
 (try simp only [Act.put, sA, sB, sC])
 refine wpList_nil ?_
 go_upto_region 3 with fail
 refine wp_region_lit ?_
 refine tkL (.pointer (some ⟨q, 0, none⟩)) (h := ?_)
 (try simp only [Act.put, sA, sB, sC])
 refine tkL (.pointer (some ⟨w.heap.size, 0, none⟩)) (h := ?_)
 (try simp only [Act.put, sA, sB, sC])
 refine wpList_q (by rfl) (.int .i64 f) ?he ?_
 case he => exact exec_cell 3 _ _ HBK1.out rfl rfl rfl Try.underlying3 rfl
 (try simp only [Act.put, sA, sB, sC])
 refine wpList_wp (by rfl) (fun K hK => ?_)
 (try go_simp)
 refine (hasFT q G v1 v2 f false _ HQ1.out HA.out).mono ?_
 rintro e w' ⟨rfl, rfl⟩
 (try go_wp2_with fail)
 refine hK.out _ _ ?_
 clear hK K
 (try simp only [Act.put, sA, sB, sC])
 refine tkL (.bool false) (h := ?_)
 (try simp only [Act.put, sA, sB, sC])
 refine wpList_no (by rfl) ?_
 (try simp only [Act.put, sA, sB, sC])
 refine wpList_no (by rfl) ?_
 (try simp only [Act.put, sA, sB, sC])
 refine wpList_no (by rfl) ?_
 (try simp only [Act.put, sA, sB, sC])
 refine wpList_no (by rfl) ?_
 (try simp only [Act.put, sA, sB, sC])
 refine wpList_no (by rfl) ?_
 (try simp only [Act.put, sA, sB, sC])
 refine tkL (.bool false) (h := ?_)
 (try simp only [Act.put, sA, sB, sC])
 refine tkL (.bool false) (h := ?_)
 (try simp only [Act.put, sA, sB, sC])
 refine wpList_nil ?_
 (try go_wp2_with fail)
 go_ret
 exact ⟨rfl, HS1.out⟩
set_option maxHeartbeats 4000000 in
theorem hasC1B (q : Nat) (G : GrV) (v1 v2 : Value) (f wy : Int) (w : World) (hq : Blk w q 67 (grpA G v1 v2)) (h1 : wy = 1) (ha : hasF G.c f = true) (hr : 0 ≤ f ∧ f ≤ 64) (hbb : hasF G.c (f + 1) = true) : Calls Try.prog 51 #[.pointer (some ⟨q, 0, none⟩), .agg #[.int .i64 f, .int .i64 wy]] w fun e w' => e = .returned (.bool true) ∧ Since w w' := by
 have HQ := Lib.hid hq
 clear hq
 have H1 := Lib.hid h1
 clear h1
 have HA := Lib.hid ha
 clear ha
 have HR := Lib.hid hr
 clear hr
 have HBB := Lib.hid hbb
 clear hbb
 go_enter Try.func51, Try.ntmps51
 go_upto_region 1 with fail
 obtain ⟨w1, hw1⟩ : ∃ w1, w1 = (w.alloc (.cells #[.int .i64 f, .int .i64 wy] 32)) := ⟨_, rfl⟩
 rw [← hw1]
 have HBK1 := Lib.hid (show Blk w1 (w.heap.size) 32 #[.int .i64 f, .int .i64 wy] by rw [hw1]; exact Blk.at_ (by (try simp only [size_alloc])) _ _)
 have HS1 := Lib.hid (show Since w w1 by rw [hw1]; exact Since.alloc (Since.refl w) _)
 have hNE : w.heap.size ≤ w.heap.size := by omega
 have HNE := Lib.hid hNE
 clear hNE hw1
 have HNE3 := Lib.hid (show w.heap.size ≤ w.heap.size from HNE.out)
 clear HNE
 have HQ1 := Lib.hid (keep_blk HS1.out HQ.out)
 refine wp_region_lit ?_
 refine tkL (.pointer (some ⟨w.heap.size, 1, none⟩)) (h := ?_)
 (try simp only [Act.put, sA, sB, sC])
 refine wpList_q (by rfl) (.int .i64 wy) ?he ?_
 case he => exact exec_cell 3 _ _ HBK1.out rfl rfl rfl Try.underlying3 rfl
 (try simp only [Act.put, sA, sB, sC])
 refine wpList_nil ?_
 go_upto_region 2 with fail
 refine wp_region_lit ?_
 refine wpList_q (by rfl) (.bool true) ?he ?_
 case he => (have q := H1.out; go_simp; (first | done | exact q | (simp [q]; done) | omega))
 (try simp only [Act.put, sA, sB, sC])
 refine tkL (.bool true) (h := ?_)
 (try simp only [Act.put, sA, sB, sC])
 refine wpList_nil ?_
 go_upto_region 3 with fail
 refine wp_region_lit ?_
 refine tkL (.pointer (some ⟨q, 0, none⟩)) (h := ?_)
 (try simp only [Act.put, sA, sB, sC])
 refine tkL (.pointer (some ⟨w.heap.size, 0, none⟩)) (h := ?_)
 (try simp only [Act.put, sA, sB, sC])
 refine wpList_q (by rfl) (.int .i64 f) ?he ?_
 case he => exact exec_cell 3 _ _ HBK1.out rfl rfl rfl Try.underlying3 rfl
 (try simp only [Act.put, sA, sB, sC])
 refine wpList_wp (by rfl) (fun K hK => ?_)
 (try go_simp)
 refine (hasFT q G v1 v2 f true _ HQ1.out HA.out).mono ?_
 rintro e w' ⟨rfl, rfl⟩
 (try go_wp2_with fail)
 refine hK.out _ _ ?_
 clear hK K
 (try simp only [Act.put, sA, sB, sC])
 refine tkL (.bool true) (h := ?_)
 (try simp only [Act.put, sA, sB, sC])
 refine tkL (.pointer (some ⟨q, 0, none⟩)) (h := ?_)
 (try simp only [Act.put, sA, sB, sC])
 refine tkL (.pointer (some ⟨w.heap.size, 0, none⟩)) (h := ?_)
 (try simp only [Act.put, sA, sB, sC])
 refine wpList_q (by rfl) (.int .i64 f) ?he ?_
 case he => exact exec_cell 3 _ _ HBK1.out rfl rfl rfl Try.underlying3 rfl
 (try simp only [Act.put, sA, sB, sC])
 refine wpList_q (by rfl) (.int .i64 (f + 1)) ?he ?_
 case he => (go_simp; (first | done | (refine wrG _ ?_ ?_ <;> (have q0 := HR.out; omega)) | (have q0 := HR.out; omega) | (have q0 := HR.out; split <;> omega) | (have q0 := HR.out; intro hh; omega)))
 (try simp only [Act.put, sA, sB, sC])
 refine wpList_wp (by rfl) (fun K hK => ?_)
 (try go_simp)
 refine (hasFT q G v1 v2 (f + 1) true _ HQ1.out HBB.out).mono ?_
 rintro e w' ⟨rfl, rfl⟩
 (try go_wp2_with fail)
 refine hK.out _ _ ?_
 clear hK K
 (try simp only [Act.put, sA, sB, sC])
 refine tkL (.bool true) (h := ?_)
 (try simp only [Act.put, sA, sB, sC])
 refine tkL (.bool true) (h := ?_)
 (try simp only [Act.put, sA, sB, sC])
 refine wpList_nil ?_
 (try go_wp2_with fail)
 go_ret
 exact ⟨rfl, HS1.out⟩
set_option maxHeartbeats 4000000 in
theorem hasC1C (q : Nat) (G : GrV) (v1 v2 : Value) (f wy : Int) (w : World) (hq : Blk w q 67 (grpA G v1 v2)) (h1 : wy = 1) (ha : hasF G.c f = true) (hr : 0 ≤ f ∧ f ≤ 64) (hbb : hasF G.c (f + 1) = false) : Calls Try.prog 51 #[.pointer (some ⟨q, 0, none⟩), .agg #[.int .i64 f, .int .i64 wy]] w fun e w' => e = .returned (.bool false) ∧ Since w w' := by
 have HQ := Lib.hid hq
 clear hq
 have H1 := Lib.hid h1
 clear h1
 have HA := Lib.hid ha
 clear ha
 have HR := Lib.hid hr
 clear hr
 have HBB := Lib.hid hbb
 clear hbb
 go_enter Try.func51, Try.ntmps51
 go_upto_region 1 with fail
 obtain ⟨w1, hw1⟩ : ∃ w1, w1 = (w.alloc (.cells #[.int .i64 f, .int .i64 wy] 32)) := ⟨_, rfl⟩
 rw [← hw1]
 have HBK1 := Lib.hid (show Blk w1 (w.heap.size) 32 #[.int .i64 f, .int .i64 wy] by rw [hw1]; exact Blk.at_ (by (try simp only [size_alloc])) _ _)
 have HS1 := Lib.hid (show Since w w1 by rw [hw1]; exact Since.alloc (Since.refl w) _)
 have hNE : w.heap.size ≤ w.heap.size := by omega
 have HNE := Lib.hid hNE
 clear hNE hw1
 have HNE3 := Lib.hid (show w.heap.size ≤ w.heap.size from HNE.out)
 clear HNE
 have HQ1 := Lib.hid (keep_blk HS1.out HQ.out)
 refine wp_region_lit ?_
 refine tkL (.pointer (some ⟨w.heap.size, 1, none⟩)) (h := ?_)
 (try simp only [Act.put, sA, sB, sC])
 refine wpList_q (by rfl) (.int .i64 wy) ?he ?_
 case he => exact exec_cell 3 _ _ HBK1.out rfl rfl rfl Try.underlying3 rfl
 (try simp only [Act.put, sA, sB, sC])
 refine wpList_nil ?_
 go_upto_region 2 with fail
 refine wp_region_lit ?_
 refine wpList_q (by rfl) (.bool true) ?he ?_
 case he => (have q := H1.out; go_simp; (first | done | exact q | (simp [q]; done) | omega))
 (try simp only [Act.put, sA, sB, sC])
 refine tkL (.bool true) (h := ?_)
 (try simp only [Act.put, sA, sB, sC])
 refine wpList_nil ?_
 go_upto_region 3 with fail
 refine wp_region_lit ?_
 refine tkL (.pointer (some ⟨q, 0, none⟩)) (h := ?_)
 (try simp only [Act.put, sA, sB, sC])
 refine tkL (.pointer (some ⟨w.heap.size, 0, none⟩)) (h := ?_)
 (try simp only [Act.put, sA, sB, sC])
 refine wpList_q (by rfl) (.int .i64 f) ?he ?_
 case he => exact exec_cell 3 _ _ HBK1.out rfl rfl rfl Try.underlying3 rfl
 (try simp only [Act.put, sA, sB, sC])
 refine wpList_wp (by rfl) (fun K hK => ?_)
 (try go_simp)
 refine (hasFT q G v1 v2 f true _ HQ1.out HA.out).mono ?_
 rintro e w' ⟨rfl, rfl⟩
 (try go_wp2_with fail)
 refine hK.out _ _ ?_
 clear hK K
 (try simp only [Act.put, sA, sB, sC])
 refine tkL (.bool true) (h := ?_)
 (try simp only [Act.put, sA, sB, sC])
 refine tkL (.pointer (some ⟨q, 0, none⟩)) (h := ?_)
 (try simp only [Act.put, sA, sB, sC])
 refine tkL (.pointer (some ⟨w.heap.size, 0, none⟩)) (h := ?_)
 (try simp only [Act.put, sA, sB, sC])
 refine wpList_q (by rfl) (.int .i64 f) ?he ?_
 case he => exact exec_cell 3 _ _ HBK1.out rfl rfl rfl Try.underlying3 rfl
 (try simp only [Act.put, sA, sB, sC])
 refine wpList_q (by rfl) (.int .i64 (f + 1)) ?he ?_
 case he => (go_simp; (first | done | (refine wrG _ ?_ ?_ <;> (have q0 := HR.out; omega)) | (have q0 := HR.out; omega) | (have q0 := HR.out; split <;> omega) | (have q0 := HR.out; intro hh; omega)))
 (try simp only [Act.put, sA, sB, sC])
 refine wpList_wp (by rfl) (fun K hK => ?_)
 (try go_simp)
 refine (hasFT q G v1 v2 (f + 1) false _ HQ1.out HBB.out).mono ?_
 rintro e w' ⟨rfl, rfl⟩
 (try go_wp2_with fail)
 refine hK.out _ _ ?_
 clear hK K
 (try simp only [Act.put, sA, sB, sC])
 refine tkL (.bool false) (h := ?_)
 (try simp only [Act.put, sA, sB, sC])
 refine tkL (.bool false) (h := ?_)
 (try simp only [Act.put, sA, sB, sC])
 refine wpList_nil ?_
 (try go_wp2_with fail)
 go_ret
 exact ⟨rfl, HS1.out⟩
set_option maxHeartbeats 4000000 in
theorem hasC2A (q : Nat) (G : GrV) (v1 v2 : Value) (f wy : Int) (w : World) (hq : Blk w q 67 (grpA G v1 v2)) (h1 : wy ≠ 1) (h2 : wy = 2) (ha : hasF G.c f = false) : Calls Try.prog 51 #[.pointer (some ⟨q, 0, none⟩), .agg #[.int .i64 f, .int .i64 wy]] w fun e w' => e = .returned (.bool false) ∧ Since w w' := by
 have HQ := Lib.hid hq
 clear hq
 have H1 := Lib.hid h1
 clear h1
 have H2 := Lib.hid h2
 clear h2
 have HA := Lib.hid ha
 clear ha
 go_enter Try.func51, Try.ntmps51
 go_upto_region 1 with fail
 obtain ⟨w1, hw1⟩ : ∃ w1, w1 = (w.alloc (.cells #[.int .i64 f, .int .i64 wy] 32)) := ⟨_, rfl⟩
 rw [← hw1]
 have HBK1 := Lib.hid (show Blk w1 (w.heap.size) 32 #[.int .i64 f, .int .i64 wy] by rw [hw1]; exact Blk.at_ (by (try simp only [size_alloc])) _ _)
 have HS1 := Lib.hid (show Since w w1 by rw [hw1]; exact Since.alloc (Since.refl w) _)
 have hNE : w.heap.size ≤ w.heap.size := by omega
 have HNE := Lib.hid hNE
 clear hNE hw1
 have HNE3 := Lib.hid (show w.heap.size ≤ w.heap.size from HNE.out)
 clear HNE
 have HQ1 := Lib.hid (keep_blk HS1.out HQ.out)
 refine wp_region_lit ?_
 refine tkL (.pointer (some ⟨w.heap.size, 1, none⟩)) (h := ?_)
 (try simp only [Act.put, sA, sB, sC])
 refine wpList_q (by rfl) (.int .i64 wy) ?he ?_
 case he => exact exec_cell 3 _ _ HBK1.out rfl rfl rfl Try.underlying3 rfl
 (try simp only [Act.put, sA, sB, sC])
 refine wpList_nil ?_
 go_upto_region 2 with fail
 refine wp_region_lit ?_
 refine wpList_q (by rfl) (.bool false) ?he ?_
 case he => (have q := H1.out; go_simp; (first | done | exact q | (simp [q]; done) | omega))
 (try simp only [Act.put, sA, sB, sC])
 refine tkL (.bool false) (h := ?_)
 (try simp only [Act.put, sA, sB, sC])
 refine wpList_nil ?_
 go_upto_region 4 with fail
 refine wp_region_lit ?_
 refine wpList_q (by rfl) (.bool true) ?he ?_
 case he => (have q := H2.out; go_simp; (first | done | exact q | (simp [q]; done) | omega))
 (try simp only [Act.put, sA, sB, sC])
 refine tkL (.bool true) (h := ?_)
 (try simp only [Act.put, sA, sB, sC])
 refine wpList_nil ?_
 go_upto_region 5 with fail
 refine wp_region_lit ?_
 refine tkL (.pointer (some ⟨q, 0, none⟩)) (h := ?_)
 (try simp only [Act.put, sA, sB, sC])
 refine tkL (.pointer (some ⟨w.heap.size, 0, none⟩)) (h := ?_)
 (try simp only [Act.put, sA, sB, sC])
 refine wpList_q (by rfl) (.int .i64 f) ?he ?_
 case he => exact exec_cell 3 _ _ HBK1.out rfl rfl rfl Try.underlying3 rfl
 (try simp only [Act.put, sA, sB, sC])
 refine wpList_wp (by rfl) (fun K hK => ?_)
 (try go_simp)
 refine (hasFT q G v1 v2 f false _ HQ1.out HA.out).mono ?_
 rintro e w' ⟨rfl, rfl⟩
 (try go_wp2_with fail)
 refine hK.out _ _ ?_
 clear hK K
 (try simp only [Act.put, sA, sB, sC])
 refine tkL (.bool false) (h := ?_)
 (try simp only [Act.put, sA, sB, sC])
 refine wpList_no (by rfl) ?_
 (try simp only [Act.put, sA, sB, sC])
 refine wpList_no (by rfl) ?_
 (try simp only [Act.put, sA, sB, sC])
 refine wpList_no (by rfl) ?_
 (try simp only [Act.put, sA, sB, sC])
 refine wpList_no (by rfl) ?_
 (try simp only [Act.put, sA, sB, sC])
 refine wpList_no (by rfl) ?_
 (try simp only [Act.put, sA, sB, sC])
 refine tkL (.bool false) (h := ?_)
 (try simp only [Act.put, sA, sB, sC])
 refine tkL (.bool false) (h := ?_)
 (try simp only [Act.put, sA, sB, sC])
 refine wpList_nil ?_
 (try go_wp2_with fail)
 go_ret
 exact ⟨rfl, HS1.out⟩
set_option maxHeartbeats 4000000 in
theorem hasC2B (q : Nat) (G : GrV) (v1 v2 : Value) (f wy : Int) (w : World) (hq : Blk w q 67 (grpA G v1 v2)) (h1 : wy ≠ 1) (h2 : wy = 2) (ha : hasF G.c f = true) (hr : 0 ≤ f ∧ f ≤ 64) (hbb : hasF G.c (f - 1) = true) : Calls Try.prog 51 #[.pointer (some ⟨q, 0, none⟩), .agg #[.int .i64 f, .int .i64 wy]] w fun e w' => e = .returned (.bool true) ∧ Since w w' := by
 have HQ := Lib.hid hq
 clear hq
 have H1 := Lib.hid h1
 clear h1
 have H2 := Lib.hid h2
 clear h2
 have HA := Lib.hid ha
 clear ha
 have HR := Lib.hid hr
 clear hr
 have HBB := Lib.hid hbb
 clear hbb
 go_enter Try.func51, Try.ntmps51
 go_upto_region 1 with fail
 obtain ⟨w1, hw1⟩ : ∃ w1, w1 = (w.alloc (.cells #[.int .i64 f, .int .i64 wy] 32)) := ⟨_, rfl⟩
 rw [← hw1]
 have HBK1 := Lib.hid (show Blk w1 (w.heap.size) 32 #[.int .i64 f, .int .i64 wy] by rw [hw1]; exact Blk.at_ (by (try simp only [size_alloc])) _ _)
 have HS1 := Lib.hid (show Since w w1 by rw [hw1]; exact Since.alloc (Since.refl w) _)
 have hNE : w.heap.size ≤ w.heap.size := by omega
 have HNE := Lib.hid hNE
 clear hNE hw1
 have HNE3 := Lib.hid (show w.heap.size ≤ w.heap.size from HNE.out)
 clear HNE
 have HQ1 := Lib.hid (keep_blk HS1.out HQ.out)
 refine wp_region_lit ?_
 refine tkL (.pointer (some ⟨w.heap.size, 1, none⟩)) (h := ?_)
 (try simp only [Act.put, sA, sB, sC])
 refine wpList_q (by rfl) (.int .i64 wy) ?he ?_
 case he => exact exec_cell 3 _ _ HBK1.out rfl rfl rfl Try.underlying3 rfl
 (try simp only [Act.put, sA, sB, sC])
 refine wpList_nil ?_
 go_upto_region 2 with fail
 refine wp_region_lit ?_
 refine wpList_q (by rfl) (.bool false) ?he ?_
 case he => (have q := H1.out; go_simp; (first | done | exact q | (simp [q]; done) | omega))
 (try simp only [Act.put, sA, sB, sC])
 refine tkL (.bool false) (h := ?_)
 (try simp only [Act.put, sA, sB, sC])
 refine wpList_nil ?_
 go_upto_region 4 with fail
 refine wp_region_lit ?_
 refine wpList_q (by rfl) (.bool true) ?he ?_
 case he => (have q := H2.out; go_simp; (first | done | exact q | (simp [q]; done) | omega))
 (try simp only [Act.put, sA, sB, sC])
 refine tkL (.bool true) (h := ?_)
 (try simp only [Act.put, sA, sB, sC])
 refine wpList_nil ?_
 go_upto_region 5 with fail
 refine wp_region_lit ?_
 refine tkL (.pointer (some ⟨q, 0, none⟩)) (h := ?_)
 (try simp only [Act.put, sA, sB, sC])
 refine tkL (.pointer (some ⟨w.heap.size, 0, none⟩)) (h := ?_)
 (try simp only [Act.put, sA, sB, sC])
 refine wpList_q (by rfl) (.int .i64 f) ?he ?_
 case he => exact exec_cell 3 _ _ HBK1.out rfl rfl rfl Try.underlying3 rfl
 (try simp only [Act.put, sA, sB, sC])
 refine wpList_wp (by rfl) (fun K hK => ?_)
 (try go_simp)
 refine (hasFT q G v1 v2 f true _ HQ1.out HA.out).mono ?_
 rintro e w' ⟨rfl, rfl⟩
 (try go_wp2_with fail)
 refine hK.out _ _ ?_
 clear hK K
 (try simp only [Act.put, sA, sB, sC])
 refine tkL (.bool true) (h := ?_)
 (try simp only [Act.put, sA, sB, sC])
 refine tkL (.pointer (some ⟨q, 0, none⟩)) (h := ?_)
 (try simp only [Act.put, sA, sB, sC])
 refine tkL (.pointer (some ⟨w.heap.size, 0, none⟩)) (h := ?_)
 (try simp only [Act.put, sA, sB, sC])
 refine wpList_q (by rfl) (.int .i64 f) ?he ?_
 case he => exact exec_cell 3 _ _ HBK1.out rfl rfl rfl Try.underlying3 rfl
 (try simp only [Act.put, sA, sB, sC])
 refine wpList_q (by rfl) (.int .i64 (f - 1)) ?he ?_
 case he => (go_simp; (first | done | (refine wrG _ ?_ ?_ <;> (have q0 := HR.out; omega)) | (have q0 := HR.out; omega) | (have q0 := HR.out; split <;> omega) | (have q0 := HR.out; intro hh; omega)))
 (try simp only [Act.put, sA, sB, sC])
 refine wpList_wp (by rfl) (fun K hK => ?_)
 (try go_simp)
 refine (hasFT q G v1 v2 (f - 1) true _ HQ1.out HBB.out).mono ?_
 rintro e w' ⟨rfl, rfl⟩
 (try go_wp2_with fail)
 refine hK.out _ _ ?_
 clear hK K
 (try simp only [Act.put, sA, sB, sC])
 refine tkL (.bool true) (h := ?_)
 (try simp only [Act.put, sA, sB, sC])
 refine tkL (.bool true) (h := ?_)
 (try simp only [Act.put, sA, sB, sC])
 refine wpList_nil ?_
 (try go_wp2_with fail)
 go_ret
 exact ⟨rfl, HS1.out⟩
set_option maxHeartbeats 4000000 in
theorem hasC2C (q : Nat) (G : GrV) (v1 v2 : Value) (f wy : Int) (w : World) (hq : Blk w q 67 (grpA G v1 v2)) (h1 : wy ≠ 1) (h2 : wy = 2) (ha : hasF G.c f = true) (hr : 0 ≤ f ∧ f ≤ 64) (hbb : hasF G.c (f - 1) = false) : Calls Try.prog 51 #[.pointer (some ⟨q, 0, none⟩), .agg #[.int .i64 f, .int .i64 wy]] w fun e w' => e = .returned (.bool false) ∧ Since w w' := by
 have HQ := Lib.hid hq
 clear hq
 have H1 := Lib.hid h1
 clear h1
 have H2 := Lib.hid h2
 clear h2
 have HA := Lib.hid ha
 clear ha
 have HR := Lib.hid hr
 clear hr
 have HBB := Lib.hid hbb
 clear hbb
 go_enter Try.func51, Try.ntmps51
 go_upto_region 1 with fail
 obtain ⟨w1, hw1⟩ : ∃ w1, w1 = (w.alloc (.cells #[.int .i64 f, .int .i64 wy] 32)) := ⟨_, rfl⟩
 rw [← hw1]
 have HBK1 := Lib.hid (show Blk w1 (w.heap.size) 32 #[.int .i64 f, .int .i64 wy] by rw [hw1]; exact Blk.at_ (by (try simp only [size_alloc])) _ _)
 have HS1 := Lib.hid (show Since w w1 by rw [hw1]; exact Since.alloc (Since.refl w) _)
 have hNE : w.heap.size ≤ w.heap.size := by omega
 have HNE := Lib.hid hNE
 clear hNE hw1
 have HNE3 := Lib.hid (show w.heap.size ≤ w.heap.size from HNE.out)
 clear HNE
 have HQ1 := Lib.hid (keep_blk HS1.out HQ.out)
 refine wp_region_lit ?_
 refine tkL (.pointer (some ⟨w.heap.size, 1, none⟩)) (h := ?_)
 (try simp only [Act.put, sA, sB, sC])
 refine wpList_q (by rfl) (.int .i64 wy) ?he ?_
 case he => exact exec_cell 3 _ _ HBK1.out rfl rfl rfl Try.underlying3 rfl
 (try simp only [Act.put, sA, sB, sC])
 refine wpList_nil ?_
 go_upto_region 2 with fail
 refine wp_region_lit ?_
 refine wpList_q (by rfl) (.bool false) ?he ?_
 case he => (have q := H1.out; go_simp; (first | done | exact q | (simp [q]; done) | omega))
 (try simp only [Act.put, sA, sB, sC])
 refine tkL (.bool false) (h := ?_)
 (try simp only [Act.put, sA, sB, sC])
 refine wpList_nil ?_
 go_upto_region 4 with fail
 refine wp_region_lit ?_
 refine wpList_q (by rfl) (.bool true) ?he ?_
 case he => (have q := H2.out; go_simp; (first | done | exact q | (simp [q]; done) | omega))
 (try simp only [Act.put, sA, sB, sC])
 refine tkL (.bool true) (h := ?_)
 (try simp only [Act.put, sA, sB, sC])
 refine wpList_nil ?_
 go_upto_region 5 with fail
 refine wp_region_lit ?_
 refine tkL (.pointer (some ⟨q, 0, none⟩)) (h := ?_)
 (try simp only [Act.put, sA, sB, sC])
 refine tkL (.pointer (some ⟨w.heap.size, 0, none⟩)) (h := ?_)
 (try simp only [Act.put, sA, sB, sC])
 refine wpList_q (by rfl) (.int .i64 f) ?he ?_
 case he => exact exec_cell 3 _ _ HBK1.out rfl rfl rfl Try.underlying3 rfl
 (try simp only [Act.put, sA, sB, sC])
 refine wpList_wp (by rfl) (fun K hK => ?_)
 (try go_simp)
 refine (hasFT q G v1 v2 f true _ HQ1.out HA.out).mono ?_
 rintro e w' ⟨rfl, rfl⟩
 (try go_wp2_with fail)
 refine hK.out _ _ ?_
 clear hK K
 (try simp only [Act.put, sA, sB, sC])
 refine tkL (.bool true) (h := ?_)
 (try simp only [Act.put, sA, sB, sC])
 refine tkL (.pointer (some ⟨q, 0, none⟩)) (h := ?_)
 (try simp only [Act.put, sA, sB, sC])
 refine tkL (.pointer (some ⟨w.heap.size, 0, none⟩)) (h := ?_)
 (try simp only [Act.put, sA, sB, sC])
 refine wpList_q (by rfl) (.int .i64 f) ?he ?_
 case he => exact exec_cell 3 _ _ HBK1.out rfl rfl rfl Try.underlying3 rfl
 (try simp only [Act.put, sA, sB, sC])
 refine wpList_q (by rfl) (.int .i64 (f - 1)) ?he ?_
 case he => (go_simp; (first | done | (refine wrG _ ?_ ?_ <;> (have q0 := HR.out; omega)) | (have q0 := HR.out; omega) | (have q0 := HR.out; split <;> omega) | (have q0 := HR.out; intro hh; omega)))
 (try simp only [Act.put, sA, sB, sC])
 refine wpList_wp (by rfl) (fun K hK => ?_)
 (try go_simp)
 refine (hasFT q G v1 v2 (f - 1) false _ HQ1.out HBB.out).mono ?_
 rintro e w' ⟨rfl, rfl⟩
 (try go_wp2_with fail)
 refine hK.out _ _ ?_
 clear hK K
 (try simp only [Act.put, sA, sB, sC])
 refine tkL (.bool false) (h := ?_)
 (try simp only [Act.put, sA, sB, sC])
 refine tkL (.bool false) (h := ?_)
 (try simp only [Act.put, sA, sB, sC])
 refine wpList_nil ?_
 (try go_wp2_with fail)
 go_ret
 exact ⟨rfl, HS1.out⟩
set_option maxHeartbeats 4000000 in
theorem hasC3 (q : Nat) (G : GrV) (v1 v2 : Value) (f wy : Int) (w : World) (hq : Blk w q 67 (grpA G v1 v2)) (h1 : wy ≠ 1) (h2 : wy ≠ 2) : Calls Try.prog 51 #[.pointer (some ⟨q, 0, none⟩), .agg #[.int .i64 f, .int .i64 wy]] w fun e w' => e = .returned (.bool false) ∧ Since w w' := by
 have HQ := Lib.hid hq
 clear hq
 have H1 := Lib.hid h1
 clear h1
 have H2 := Lib.hid h2
 clear h2
 go_enter Try.func51, Try.ntmps51
 go_upto_region 1 with fail
 obtain ⟨w1, hw1⟩ : ∃ w1, w1 = (w.alloc (.cells #[.int .i64 f, .int .i64 wy] 32)) := ⟨_, rfl⟩
 rw [← hw1]
 have HBK1 := Lib.hid (show Blk w1 (w.heap.size) 32 #[.int .i64 f, .int .i64 wy] by rw [hw1]; exact Blk.at_ (by (try simp only [size_alloc])) _ _)
 have HS1 := Lib.hid (show Since w w1 by rw [hw1]; exact Since.alloc (Since.refl w) _)
 have hNE : w.heap.size ≤ w.heap.size := by omega
 have HNE := Lib.hid hNE
 clear hNE hw1
 have HNE3 := Lib.hid (show w.heap.size ≤ w.heap.size from HNE.out)
 clear HNE
 have HQ1 := Lib.hid (keep_blk HS1.out HQ.out)
 refine wp_region_lit ?_
 refine tkL (.pointer (some ⟨w.heap.size, 1, none⟩)) (h := ?_)
 (try simp only [Act.put, sA, sB, sC])
 refine wpList_q (by rfl) (.int .i64 wy) ?he ?_
 case he => exact exec_cell 3 _ _ HBK1.out rfl rfl rfl Try.underlying3 rfl
 (try simp only [Act.put, sA, sB, sC])
 refine wpList_nil ?_
 go_upto_region 2 with fail
 refine wp_region_lit ?_
 refine wpList_q (by rfl) (.bool false) ?he ?_
 case he => (have q := H1.out; go_simp; (first | done | exact q | (simp [q]; done) | omega))
 (try simp only [Act.put, sA, sB, sC])
 refine tkL (.bool false) (h := ?_)
 (try simp only [Act.put, sA, sB, sC])
 refine wpList_nil ?_
 go_upto_region 4 with fail
 refine wp_region_lit ?_
 refine wpList_q (by rfl) (.bool false) ?he ?_
 case he => (have q := H2.out; go_simp; (first | done | exact q | (simp [q]; done) | omega))
 (try simp only [Act.put, sA, sB, sC])
 refine tkL (.bool false) (h := ?_)
 (try simp only [Act.put, sA, sB, sC])
 refine wpList_nil ?_
 go_upto_region 6 with fail
 refine wp_region_lit ?_
 refine tkL (.bool false) (h := ?_)
 (try simp only [Act.put, sA, sB, sC])
 refine wpList_nil ?_
 (try go_wp2_with fail)
 go_ret
 exact ⟨rfl, HS1.out⟩
def hasC (c : CfgV) (f wy : Int) : Bool := if wy = 1 then hasF c f && hasF c (f + 1) else if wy = 2 then hasF c f && hasF c (f - 1) else false
theorem hasCT (q : Nat) (G : GrV) (v1 v2 : Value) (f wy : Int) (w : World) (hq : Blk w q 67 (grpA G v1 v2)) : Calls Try.prog 51 #[.pointer (some ⟨q, 0, none⟩), .agg #[.int .i64 f, .int .i64 wy]] w fun e w' => e = .returned (.bool (hasC G.c f wy)) ∧ Since w w' := by
  have hr : hasF G.c f = true → 0 ≤ f ∧ f ≤ 64 := by
    intro h
    unfold hasF at h
    have := of_decide_eq_true h
    have := fl_hi G.c.fl
    omega
  by_cases h1 : wy = 1
  · rw [show hasC G.c f wy = (hasF G.c f && hasF G.c (f + 1)) by unfold hasC; rw [if_pos h1]]
    cases ha : hasF G.c f with
    | false => exact hasC1A q G v1 v2 f wy w hq h1 ha
    | true =>
      cases hb : hasF G.c (f + 1) with
      | true => exact hasC1B q G v1 v2 f wy w hq h1 ha (hr ha) hb
      | false => exact hasC1C q G v1 v2 f wy w hq h1 ha (hr ha) hb
  · by_cases h2 : wy = 2
    · rw [show hasC G.c f wy = (hasF G.c f && hasF G.c (f - 1)) by unfold hasC; rw [if_neg h1, if_pos h2]]
      cases ha : hasF G.c f with
      | false => exact hasC2A q G v1 v2 f wy w hq h1 h2 ha
      | true =>
        cases hb : hasF G.c (f - 1) with
        | true => exact hasC2B q G v1 v2 f wy w hq h1 h2 ha (hr ha) hb
        | false => exact hasC2C q G v1 v2 f wy w hq h1 h2 ha (hr ha) hb
    · rw [show hasC G.c f wy = false by unfold hasC; rw [if_neg h1, if_neg h2]]
      exact hasC3 q G v1 v2 f wy w hq h1 h2
def isW (f wy : Int) (a : WaitV) : Bool := a.fl == f && a.wy == wy
set_option maxHeartbeats 4000000 in
theorem find1A (cp : Nat) (f wy : Int) (a : WaitV) (w : World) (hb : Blk w cp 32 #[.int .i64 f, .int .i64 wy]) (h0 : a.fl = f) (h1 : a.wy = wy) : Calls Try.prog 77 #[.agg (waitA a), .pointer (some ⟨cp, 0, none⟩)] w fun e w' => e = .returned (.bool true) ∧ Since w w' := by
 have HB := Lib.hid hb
 clear hb
 have H0 := Lib.hid h0
 clear h0
 have H1 := Lib.hid h1
 clear h1
 go_enter Try.func77, Try.ntmps77
 go_upto_region 1 with fail
 obtain ⟨w1, hw1⟩ : ∃ w1, w1 = (w.alloc (.cells (waitA a) 55)) := ⟨_, rfl⟩
 rw [← hw1]
 have HBA1 := Lib.hid (show Blk w1 (w.heap.size) 55 (waitA a) by rw [hw1]; exact Blk.at_ (by (try simp only [size_alloc])) _ _)
 have HS1 := Lib.hid (show Since w w1 by rw [hw1]; exact Since.alloc (Since.refl w) _)
 have hNE : w.heap.size ≤ w.heap.size := by omega
 have HNE := Lib.hid hNE
 clear hNE hw1
 have HNE3 := Lib.hid (show w.heap.size ≤ w.heap.size from HNE.out)
 clear HNE
 have HBC := Lib.hid (keep_blk HS1.out HB.out)
 refine wp_region_lit ?_
 refine tkL (.pointer (some ⟨w.heap.size, 0, none⟩)) (h := ?_)
 (try simp only [Act.put, sA, sB, sC])
 refine wpList_q (by rfl) (.agg #[.int .i64 a.fl, .int .i64 a.wy]) ?he ?_
 case he => exact exec_part (n := 2) 32 _ _ HBA1.out rfl rfl rfl rfl Try.underlying32 rfl (by kernel_rfl)
 (try simp only [Act.put, sA, sB, sC])
 refine wpList_q (by rfl) (.agg #[.int .i64 f, .int .i64 wy]) ?he ?_
 case he => exact exec_load_row 32 _ _ HBC.out rfl rfl Try.underlying32 rfl (by kernel_rfl)
 (try simp only [Act.put, sA, sB, sC])
 refine wpList_q (by rfl) (.bool true) ?he ?_
 case he => (have q := H0.out; (try have q2 := H1.out); go_simp; (first | done | exact ⟨q, q2⟩ | (simp [q]; done) | (simp [q, q2]; done) | omega))
 (try simp only [Act.put, sA, sB, sC])
 refine tkL (.bool true) (h := ?_)
 (try simp only [Act.put, sA, sB, sC])
 refine wpList_nil ?_
 (try go_wp2_with fail)
 go_ret
 exact ⟨rfl, HS1.out⟩
set_option maxHeartbeats 4000000 in
theorem find1B (cp : Nat) (f wy : Int) (a : WaitV) (w : World) (hb : Blk w cp 32 #[.int .i64 f, .int .i64 wy]) (h0 : ¬ a.fl = f) : Calls Try.prog 77 #[.agg (waitA a), .pointer (some ⟨cp, 0, none⟩)] w fun e w' => e = .returned (.bool false) ∧ Since w w' := by
 have HB := Lib.hid hb
 clear hb
 have H0 := Lib.hid h0
 clear h0
 go_enter Try.func77, Try.ntmps77
 go_upto_region 1 with fail
 obtain ⟨w1, hw1⟩ : ∃ w1, w1 = (w.alloc (.cells (waitA a) 55)) := ⟨_, rfl⟩
 rw [← hw1]
 have HBA1 := Lib.hid (show Blk w1 (w.heap.size) 55 (waitA a) by rw [hw1]; exact Blk.at_ (by (try simp only [size_alloc])) _ _)
 have HS1 := Lib.hid (show Since w w1 by rw [hw1]; exact Since.alloc (Since.refl w) _)
 have hNE : w.heap.size ≤ w.heap.size := by omega
 have HNE := Lib.hid hNE
 clear hNE hw1
 have HNE3 := Lib.hid (show w.heap.size ≤ w.heap.size from HNE.out)
 clear HNE
 have HBC := Lib.hid (keep_blk HS1.out HB.out)
 refine wp_region_lit ?_
 refine tkL (.pointer (some ⟨w.heap.size, 0, none⟩)) (h := ?_)
 (try simp only [Act.put, sA, sB, sC])
 refine wpList_q (by rfl) (.agg #[.int .i64 a.fl, .int .i64 a.wy]) ?he ?_
 case he => exact exec_part (n := 2) 32 _ _ HBA1.out rfl rfl rfl rfl Try.underlying32 rfl (by kernel_rfl)
 (try simp only [Act.put, sA, sB, sC])
 refine wpList_q (by rfl) (.agg #[.int .i64 f, .int .i64 wy]) ?he ?_
 case he => exact exec_load_row 32 _ _ HBC.out rfl rfl Try.underlying32 rfl (by kernel_rfl)
 (try simp only [Act.put, sA, sB, sC])
 refine wpList_q (by rfl) (.bool false) ?he ?_
 case he => (have q := H0.out; (try have q2 := H1.out); go_simp; (first | done | exact ⟨q, q2⟩ | (simp [q]; done) | (simp [q, q2]; done) | omega))
 (try simp only [Act.put, sA, sB, sC])
 refine tkL (.bool false) (h := ?_)
 (try simp only [Act.put, sA, sB, sC])
 refine wpList_nil ?_
 (try go_wp2_with fail)
 go_ret
 exact ⟨rfl, HS1.out⟩
set_option maxHeartbeats 4000000 in
theorem find1C (cp : Nat) (f wy : Int) (a : WaitV) (w : World) (hb : Blk w cp 32 #[.int .i64 f, .int .i64 wy]) (h0 : a.fl = f) (h1 : ¬ a.wy = wy) : Calls Try.prog 77 #[.agg (waitA a), .pointer (some ⟨cp, 0, none⟩)] w fun e w' => e = .returned (.bool false) ∧ Since w w' := by
 have HB := Lib.hid hb
 clear hb
 have H0 := Lib.hid h0
 clear h0
 have H1 := Lib.hid h1
 clear h1
 go_enter Try.func77, Try.ntmps77
 go_upto_region 1 with fail
 obtain ⟨w1, hw1⟩ : ∃ w1, w1 = (w.alloc (.cells (waitA a) 55)) := ⟨_, rfl⟩
 rw [← hw1]
 have HBA1 := Lib.hid (show Blk w1 (w.heap.size) 55 (waitA a) by rw [hw1]; exact Blk.at_ (by (try simp only [size_alloc])) _ _)
 have HS1 := Lib.hid (show Since w w1 by rw [hw1]; exact Since.alloc (Since.refl w) _)
 have hNE : w.heap.size ≤ w.heap.size := by omega
 have HNE := Lib.hid hNE
 clear hNE hw1
 have HNE3 := Lib.hid (show w.heap.size ≤ w.heap.size from HNE.out)
 clear HNE
 have HBC := Lib.hid (keep_blk HS1.out HB.out)
 refine wp_region_lit ?_
 refine tkL (.pointer (some ⟨w.heap.size, 0, none⟩)) (h := ?_)
 (try simp only [Act.put, sA, sB, sC])
 refine wpList_q (by rfl) (.agg #[.int .i64 a.fl, .int .i64 a.wy]) ?he ?_
 case he => exact exec_part (n := 2) 32 _ _ HBA1.out rfl rfl rfl rfl Try.underlying32 rfl (by kernel_rfl)
 (try simp only [Act.put, sA, sB, sC])
 refine wpList_q (by rfl) (.agg #[.int .i64 f, .int .i64 wy]) ?he ?_
 case he => exact exec_load_row 32 _ _ HBC.out rfl rfl Try.underlying32 rfl (by kernel_rfl)
 (try simp only [Act.put, sA, sB, sC])
 refine wpList_q (by rfl) (.bool false) ?he ?_
 case he => (have q := H0.out; (try have q2 := H1.out); go_simp; (first | done | exact ⟨q, q2⟩ | (simp [q]; done) | (simp [q, q2]; done) | omega))
 (try simp only [Act.put, sA, sB, sC])
 refine tkL (.bool false) (h := ?_)
 (try simp only [Act.put, sA, sB, sC])
 refine wpList_nil ?_
 (try go_wp2_with fail)
 go_ret
 exact ⟨rfl, HS1.out⟩
theorem find1T (cp : Nat) (f wy : Int) (a : WaitV) (w : World) (hb : Blk w cp 32 #[.int .i64 f, .int .i64 wy]) : Calls Try.prog 77 #[.agg (waitA a), .pointer (some ⟨cp, 0, none⟩)] w fun e w' => e = .returned (.bool (isW f wy a)) ∧ Since w w' := by
  by_cases h0 : a.fl = f
  · by_cases h1 : a.wy = wy
    · rw [show isW f wy a = true by simp [isW, h0, h1]]; exact find1A cp f wy a w hb h0 h1
    · rw [show isW f wy a = false by simp [isW, h0, h1]]; exact find1C cp f wy a w hb h0 h1
  · rw [show isW f wy a = false by simp [isW, h0]]; exact find1B cp f wy a w hb h0
theorem enterF {P : Program} {f : FuncId} {fn : Func} {c : Code} (hf : P.funcs[f]? = some fn) (hname : (fn.name == "runtime.NumGoroutine") = false) (hb : fn.body = some c) (args : Array Value) (w : World) : (callFunc f args).run P w = .ok (.enter f args) w := by
  have h1 : fn.name ≠ "runtime.NumGoroutine" := by simpa using hname
  simp [callFunc, hf, h1, hb]
def oI (y : Option Nat) : Int := match y with | some k => (k : Int) | none => -1
def atP (ls : List WaitV) (p : WaitV → Bool) : Option Nat := ls.findIdx? p
theorem atP_some {ls : List WaitV} {p : WaitV → Bool} {k : Nat} (h : atP ls p = some k) : k < ls.length ∧ (∀ hk : k < ls.length, p ls[k] = true) ∧ ∀ j, j < k → ∀ hj : j < ls.length, p ls[j] = false := by
  obtain ⟨hk, h1, h2⟩ := List.findIdx?_eq_some_iff_getElem.1 h
  exact ⟨hk, fun _ => h1, fun j hj _ => by have := h2 j hj; simpa using this⟩
theorem atP_none {ls : List WaitV} {p : WaitV → Bool} (h : atP ls p = none) : ∀ j, ∀ hj : j < ls.length, p ls[j] = false := by
  intro j hj
  exact List.findIdx?_eq_none_iff.1 h ls[j] (List.getElem_mem hj)
theorem row_at {w : World} {g lo n c i : Nat} {ls : List WaitV} (h : w.ownsRow lo 55 4 (.slice (some ⟨g, 0, none⟩) n c) n (rowsOf waitL ls)) (hi : i < ls.length) :
    ∀ j v, (waitL ls[i])[j]? = some v → w.cell? ⟨g, 0 + i * 4 + j, none⟩ = some v := by have := own_rng h (rowsOf_at waitL_len hi); simpa only [Nat.zero_add] using this
theorem boolV {w : World} {F : FuncId} {cp : Value} {p : WaitV → Bool} (hp : ∀ (l : WaitV) (w1 : World), Since w w1 → Calls Try.prog F #[.agg (waitA l), cp] w1 fun e w2 => e = .returned (.bool (p l)) ∧ Since w1 w2) (l : WaitV) (b : Bool) (w1 : World) (hs : Since w w1) (hb : p l = b) :
    Calls Try.prog F #[.agg (waitA l), cp] w1 fun e w2 => e = .returned (.bool b) ∧ Since w1 w2 := by subst hb; exact hp l w1 hs
set_option maxHeartbeats 4000000 in
theorem indexHit (lo : Nat) (A : Option Addr) (c : Nat) (ls : List WaitV) (F : FuncId) (cp : Value) (p : WaitV → Bool) (k0 : Nat) (w : World) (ho : w.ownsRow lo 55 4 (.slice A ls.length c) ls.length (rowsOf waitL ls)) (hl : ls.length ≤ 10000) (hp : ∀ (l : WaitV) (w1 : World), Since w w1 → Calls Try.prog F #[.agg (waitA l), cp] w1 fun e w2 => e = .returned (.bool (p l)) ∧ Since w1 w2) (hcf : ∀ (args : Array Value) (w1 : World), (callFunc F args).run Try.prog w1 = .ok (.enter F args) w1) (hf : atP ls p = some k0) : Calls Try.prog 76 #[.slice A ls.length c, .func (.func F) #[] #[cp]] w fun e w' => e = .returned (.int .i64 k0) ∧ Since w w' := by
 have HOW := Lib.hid ho
 clear ho
 have HL := Lib.hid hl
 clear hl
 have HP := Lib.hid hp
 clear hp
 have HCF := Lib.hid hcf
 clear hcf
 have HF := Lib.hid hf
 clear hf
 go_enter Try.func76, Try.ntmps76
 go_upto_region 1 with fail
 have HS1 := Lib.hid (Since.refl w)
 refine wp_region_lit ?_
 refine tkL (.slice A ls.length c) (h := ?_)
 (try simp only [Act.put, sA, sB, sC])
 refine tkL (.int .i64 (ls.length : Int)) (h := ?_)
 (try simp only [Act.put, sA, sB, sC])
 refine tkL (.int .i64 0) (h := ?_)
 (try simp only [Act.put, sA, sB, sC])
 refine wpList_nil ?_
 go_wp2_with fail
 refine wp_uloop (ds := []) (fun n fr wr => ∃ k : Nat, k ≤ k0 ∧ (ls.length - k) = n ∧ Fits fr 19 [(0, .slice A ls.length c), (1, .func (.func F) #[] #[cp]), (4, .int .i64 0), (7, .int .i64 (ls.length : Int)), (8, .int .i64 (k : Int))] ∧ Hid (Since w wr ∧ (wr).ownsRow lo 55 4 (.slice A ls.length c) ls.length (rowsOf waitL ls))) (ls.length - 0) ?start1 ?round1
 case start1 => exact ⟨0, (by omega), rfl, ⟨rfl, rfl, rfl, rfl, rfl, rfl, trivial⟩, Lib.hid ⟨HS1.out, HOW.out⟩⟩
 case round1 =>
  intro n fr wr hR J1 K1 hJ1 hK1
  clear HS1 HOW
  obtain ⟨k, hk, hn, hF, HO⟩ := hR
  have HM := Lib.hid hn; clear hn
  obtain ⟨g0, g1⟩ := HO.out
  clear HO
  have HS51 := Lib.hid g0
  have HFr51 := Lib.hid g1
  clear g0 g1
  obtain ⟨u, hu⟩ := hF.open_
  have hu2 := hu.trans (show _ = #[.slice A ls.length c, .func (.func F) #[] #[cp], u 2, u 3, .int .i64 0, u 5, u 6, .int .i64 (ls.length : Int), .int .i64 (k : Int), u 9, u 10, u 11, u 12, u 13, u 14, u 15, u 16, u 17, u 18] by kernel_rfl)
  clear hu hF
  subst hu2
  have HK := Lib.hid hk; clear hk
  obtain ⟨hk0, hse, hne⟩ := atP_some HF.out
  have HLT := Lib.hid (show k < ls.length by have := HK.out; omega)
  have HSE := Lib.hid hse
  have HNE := Lib.hid hne
  have HK0 := Lib.hid hk0
  clear hse hne hk0
  by_cases hkk : k = k0
  · subst hkk
    obtain ⟨g, hg⟩ := own_addr HFr51.out (by have := HLT.out; omega)
    subst hg
    go_upto_region 2 with fail
    refine wp_region_lit ?_
    refine wpList_q (by rfl) (.bool true) ?he ?_
    case he => (have q0 := HLT.out; go_simp; (first | done | rfl | omega))
    (try simp only [Act.put, sA, sB, sC])
    refine wpList_nil ?_
    go_upto_region 3 with fail
    refine wp_region_lit ?_
    refine tkL (.int .i64 (k : Int)) (h := ?_)
    (try simp only [Act.put, sA, sB, sC])
    refine tkL (.int .i64 (k : Int)) (h := ?_)
    (try simp only [Act.put, sA, sB, sC])
    refine wpList_nil ?_
    go_upto_region 4 with fail
    refine wp_region_lit ?_
    refine tkL (.func (.func F) #[] #[cp]) (h := ?_)
    (try simp only [Act.put, sA, sB, sC])
    refine tkL (.slice (some ⟨g, 0, none⟩) ls.length c) (h := ?_)
    (try simp only [Act.put, sA, sB, sC])
    refine tkL (.int .i64 (k : Int)) (h := ?_)
    (try simp only [Act.put, sA, sB, sC])
    refine wpList_q (by rfl) (.pointer (some ⟨g, (0 + k * 4), none⟩)) ?he ?_
    case he => exact exec_index (i := k) (s := 4) 50 55 _ _ rfl rfl rfl rfl HLT.out Try.underlying50 (by kernel_rfl)
    (try simp only [Act.put, sA, sB, sC])
    refine wpList_q (by rfl) (.agg #[.int .i64 ((ls[k]'HLT.out).fl), .int .i64 ((ls[k]'HLT.out).wy), .int .i64 ((ls[k]'HLT.out).ca), .int .i64 ((ls[k]'HLT.out).si)]) ?he ?_
    case he => exact exec_rng (l := waitL (ls[k]'HLT.out)) 55 _ _ (row_at HFr51.out HLT.out) rfl rfl Try.underlying55 rfl (by kernel_rfl)
    (try simp only [Act.put, sA, sB, sC])
    refine wpList_wp (by rfl) (fun K hK => ?_)
    (try go_simp)
    rw [HCF.out, Oper.upon_enter]
    refine (boolV HP.out (ls[k]'HLT.out) true _ HS51.out (HSE.out HLT.out)).mono ?_
    rintro e w52 ⟨rfl, hb⟩
    (try go_wp2_with fail)
    refine hK.out _ _ ?_
    clear hK K
    (try simp only [Act.put, sA, sB, sC])
    have HS52 := Lib.hid (Since.trans HS51.out hb)
    have HFr52 := Lib.hid (keep_own hb HFr51.out)
    clear HS51 HFr51
    clear hb
    refine wpList_nil ?_
    go_upto_region 5 with fail
    refine wp_region_lit ?_
    refine tkL (.int .i64 (k : Int)) (h := ?_)
    (try simp only [Act.put, sA, sB, sC])
    refine tkL (.int .i64 (k : Int)) (h := ?_)
    (try simp only [Act.put, sA, sB, sC])
    refine wpList_nil ?_
    (try go_wp2_with fail)
    go_ret
    exact ⟨rfl, HS52.out⟩
  · have HKL := Lib.hid (show k < k0 by have := HK.out; omega)
    obtain ⟨g, hg⟩ := own_addr HFr51.out (by have := HLT.out; omega)
    subst hg
    go_upto_region 2 with fail
    refine wp_region_lit ?_
    refine wpList_q (by rfl) (.bool true) ?he ?_
    case he => (have q0 := HLT.out; go_simp; (first | done | rfl | omega))
    (try simp only [Act.put, sA, sB, sC])
    refine wpList_nil ?_
    go_upto_region 3 with fail
    refine wp_region_lit ?_
    refine tkL (.int .i64 (k : Int)) (h := ?_)
    (try simp only [Act.put, sA, sB, sC])
    refine tkL (.int .i64 (k : Int)) (h := ?_)
    (try simp only [Act.put, sA, sB, sC])
    refine wpList_nil ?_
    go_upto_region 4 with fail
    refine wp_region_lit ?_
    refine tkL (.func (.func F) #[] #[cp]) (h := ?_)
    (try simp only [Act.put, sA, sB, sC])
    refine tkL (.slice (some ⟨g, 0, none⟩) ls.length c) (h := ?_)
    (try simp only [Act.put, sA, sB, sC])
    refine tkL (.int .i64 (k : Int)) (h := ?_)
    (try simp only [Act.put, sA, sB, sC])
    refine wpList_q (by rfl) (.pointer (some ⟨g, (0 + k * 4), none⟩)) ?he ?_
    case he => exact exec_index (i := k) (s := 4) 50 55 _ _ rfl rfl rfl rfl HLT.out Try.underlying50 (by kernel_rfl)
    (try simp only [Act.put, sA, sB, sC])
    refine wpList_q (by rfl) (.agg #[.int .i64 ((ls[k]'HLT.out).fl), .int .i64 ((ls[k]'HLT.out).wy), .int .i64 ((ls[k]'HLT.out).ca), .int .i64 ((ls[k]'HLT.out).si)]) ?he ?_
    case he => exact exec_rng (l := waitL (ls[k]'HLT.out)) 55 _ _ (row_at HFr51.out HLT.out) rfl rfl Try.underlying55 rfl (by kernel_rfl)
    (try simp only [Act.put, sA, sB, sC])
    refine wpList_wp (by rfl) (fun K hK => ?_)
    (try go_simp)
    rw [HCF.out, Oper.upon_enter]
    refine (boolV HP.out (ls[k]'HLT.out) false _ HS51.out (HNE.out k HKL.out HLT.out)).mono ?_
    rintro e w52 ⟨rfl, hb⟩
    (try go_wp2_with fail)
    refine hK.out _ _ ?_
    clear hK K
    (try simp only [Act.put, sA, sB, sC])
    have HS52 := Lib.hid (Since.trans HS51.out hb)
    have HFr52 := Lib.hid (keep_own hb HFr51.out)
    clear HS51 HFr51
    clear hb
    refine wpList_nil ?_
    go_upto_region 6 with fail
    refine wp_region_lit ?_
    refine wpList_q (by rfl) (.int .i64 ((k : Int) + 1)) ?he ?_
    case he => (go_simp; (first | done | (refine wrG _ ?_ ?_ <;> (have q0 := HLT.out; have q1 := HL.out; omega)) | (have q0 := HLT.out; have q1 := HL.out; omega) | (have q0 := HLT.out; have q1 := HL.out; split <;> omega) | (have q0 := HLT.out; have q1 := HL.out; intro hh; omega)))
    (try simp only [Act.put, sA, sB, sC])
    refine tkL (.int .i64 ((k : Int) + 1)) (h := ?_)
    (try simp only [Act.put, sA, sB, sC])
    refine wpList_nil ?_
    go_wp2_with fail
    refine Met.intro ?_
    refine hJ1 _ _ _ ?less52 ⟨(k + 1), (by have := HKL.out; omega), rfl, ⟨rfl, rfl, rfl, rfl, rfl, rfl, trivial⟩, Lib.hid ⟨HS52.out, HFr52.out⟩⟩
    case less52 => exact (by have := HM.out; have := HLT.out; omega)
set_option maxHeartbeats 4000000 in
theorem indexMiss (lo : Nat) (A : Option Addr) (c : Nat) (ls : List WaitV) (F : FuncId) (cp : Value) (p : WaitV → Bool) (w : World) (ho : w.ownsRow lo 55 4 (.slice A ls.length c) ls.length (rowsOf waitL ls)) (hl : ls.length ≤ 10000) (hp : ∀ (l : WaitV) (w1 : World), Since w w1 → Calls Try.prog F #[.agg (waitA l), cp] w1 fun e w2 => e = .returned (.bool (p l)) ∧ Since w1 w2) (hcf : ∀ (args : Array Value) (w1 : World), (callFunc F args).run Try.prog w1 = .ok (.enter F args) w1) (hf : atP ls p = none) : Calls Try.prog 76 #[.slice A ls.length c, .func (.func F) #[] #[cp]] w fun e w' => e = .returned (.int .i64 (-1)) ∧ Since w w' := by
 have HOW := Lib.hid ho
 clear ho
 have HL := Lib.hid hl
 clear hl
 have HP := Lib.hid hp
 clear hp
 have HCF := Lib.hid hcf
 clear hcf
 have HF := Lib.hid hf
 clear hf
 go_enter Try.func76, Try.ntmps76
 go_upto_region 1 with fail
 have HS1 := Lib.hid (Since.refl w)
 refine wp_region_lit ?_
 refine tkL (.slice A ls.length c) (h := ?_)
 (try simp only [Act.put, sA, sB, sC])
 refine tkL (.int .i64 (ls.length : Int)) (h := ?_)
 (try simp only [Act.put, sA, sB, sC])
 refine tkL (.int .i64 0) (h := ?_)
 (try simp only [Act.put, sA, sB, sC])
 refine wpList_nil ?_
 go_wp2_with fail
 refine wp_uloop (ds := []) (fun n fr wr => ∃ k : Nat, k ≤ ls.length ∧ (ls.length - k) = n ∧ Fits fr 19 [(0, .slice A ls.length c), (1, .func (.func F) #[] #[cp]), (4, .int .i64 0), (7, .int .i64 (ls.length : Int)), (8, .int .i64 (k : Int))] ∧ Hid (Since w wr ∧ (wr).ownsRow lo 55 4 (.slice A ls.length c) ls.length (rowsOf waitL ls))) (ls.length - 0) ?start1 ?round1
 case start1 => exact ⟨0, (by omega), rfl, ⟨rfl, rfl, rfl, rfl, rfl, rfl, trivial⟩, Lib.hid ⟨HS1.out, HOW.out⟩⟩
 case round1 =>
  intro n fr wr hR J1 K1 hJ1 hK1
  clear HS1 HOW
  obtain ⟨k, hk, hn, hF, HO⟩ := hR
  have HM := Lib.hid hn; clear hn
  obtain ⟨g0, g1⟩ := HO.out
  clear HO
  have HS51 := Lib.hid g0
  have HFr51 := Lib.hid g1
  clear g0 g1
  obtain ⟨u, hu⟩ := hF.open_
  have hu2 := hu.trans (show _ = #[.slice A ls.length c, .func (.func F) #[] #[cp], u 2, u 3, .int .i64 0, u 5, u 6, .int .i64 (ls.length : Int), .int .i64 (k : Int), u 9, u 10, u 11, u 12, u 13, u 14, u 15, u 16, u 17, u 18] by kernel_rfl)
  clear hu hF
  subst hu2
  have HK := Lib.hid hk; clear hk
  by_cases hcs : k < ls.length
  rotate_left
  · have HLT := Lib.hid hcs; clear hcs
    go_upto_region 2 with fail
    refine wp_region_lit ?_
    refine wpList_q (by rfl) (.bool false) ?he ?_
    case he => (have q0 := HLT.out; go_simp; (first | done | rfl | omega))
    (try simp only [Act.put, sA, sB, sC])
    refine wpList_nil ?_
    go_upto_region 7 with fail
    refine wp_region_lit ?_
    refine tkL (.int .i64 (-1)) (h := ?_)
    (try simp only [Act.put, sA, sB, sC])
    refine wpList_nil ?_
    (try go_wp2_with fail)
    go_ret
    exact ⟨rfl, HS51.out⟩
  · have HLT := Lib.hid hcs; clear hcs
    obtain ⟨g, hg⟩ := own_addr HFr51.out (by have := HLT.out; omega)
    subst hg
    go_upto_region 2 with fail
    refine wp_region_lit ?_
    refine wpList_q (by rfl) (.bool true) ?he ?_
    case he => (have q0 := HLT.out; go_simp; (first | done | rfl | omega))
    (try simp only [Act.put, sA, sB, sC])
    refine wpList_nil ?_
    go_upto_region 3 with fail
    refine wp_region_lit ?_
    refine tkL (.int .i64 (k : Int)) (h := ?_)
    (try simp only [Act.put, sA, sB, sC])
    refine tkL (.int .i64 (k : Int)) (h := ?_)
    (try simp only [Act.put, sA, sB, sC])
    refine wpList_nil ?_
    go_upto_region 4 with fail
    refine wp_region_lit ?_
    refine tkL (.func (.func F) #[] #[cp]) (h := ?_)
    (try simp only [Act.put, sA, sB, sC])
    refine tkL (.slice (some ⟨g, 0, none⟩) ls.length c) (h := ?_)
    (try simp only [Act.put, sA, sB, sC])
    refine tkL (.int .i64 (k : Int)) (h := ?_)
    (try simp only [Act.put, sA, sB, sC])
    refine wpList_q (by rfl) (.pointer (some ⟨g, (0 + k * 4), none⟩)) ?he ?_
    case he => exact exec_index (i := k) (s := 4) 50 55 _ _ rfl rfl rfl rfl HLT.out Try.underlying50 (by kernel_rfl)
    (try simp only [Act.put, sA, sB, sC])
    refine wpList_q (by rfl) (.agg #[.int .i64 ((ls[k]'HLT.out).fl), .int .i64 ((ls[k]'HLT.out).wy), .int .i64 ((ls[k]'HLT.out).ca), .int .i64 ((ls[k]'HLT.out).si)]) ?he ?_
    case he => exact exec_rng (l := waitL (ls[k]'HLT.out)) 55 _ _ (row_at HFr51.out HLT.out) rfl rfl Try.underlying55 rfl (by kernel_rfl)
    (try simp only [Act.put, sA, sB, sC])
    refine wpList_wp (by rfl) (fun K hK => ?_)
    (try go_simp)
    rw [HCF.out, Oper.upon_enter]
    refine (boolV HP.out (ls[k]'HLT.out) false _ HS51.out (atP_none HF.out k HLT.out)).mono ?_
    rintro e w52 ⟨rfl, hb⟩
    (try go_wp2_with fail)
    refine hK.out _ _ ?_
    clear hK K
    (try simp only [Act.put, sA, sB, sC])
    have HS52 := Lib.hid (Since.trans HS51.out hb)
    have HFr52 := Lib.hid (keep_own hb HFr51.out)
    clear HS51 HFr51
    clear hb
    refine wpList_nil ?_
    go_upto_region 6 with fail
    refine wp_region_lit ?_
    refine wpList_q (by rfl) (.int .i64 ((k : Int) + 1)) ?he ?_
    case he => (go_simp; (first | done | (refine wrG _ ?_ ?_ <;> (have q0 := HLT.out; have q1 := HL.out; omega)) | (have q0 := HLT.out; have q1 := HL.out; omega) | (have q0 := HLT.out; have q1 := HL.out; split <;> omega) | (have q0 := HLT.out; have q1 := HL.out; intro hh; omega)))
    (try simp only [Act.put, sA, sB, sC])
    refine tkL (.int .i64 ((k : Int) + 1)) (h := ?_)
    (try simp only [Act.put, sA, sB, sC])
    refine wpList_nil ?_
    go_wp2_with fail
    refine Met.intro ?_
    refine hJ1 _ _ _ ?less52 ⟨(k + 1), (by have := HLT.out; omega), rfl, ⟨rfl, rfl, rfl, rfl, rfl, rfl, trivial⟩, Lib.hid ⟨HS52.out, HFr52.out⟩⟩
    case less52 => exact (by have := HM.out; have := HLT.out; omega)
theorem indexV (lo : Nat) (A : Option Addr) (c : Nat) (ls : List WaitV) (F : FuncId) (cp : Value) (p : WaitV → Bool) (w : World) (ho : w.ownsRow lo 55 4 (.slice A ls.length c) ls.length (rowsOf waitL ls)) (hl : ls.length ≤ 10000)
    (hp : ∀ (l : WaitV) (w1 : World), Since w w1 → Calls Try.prog F #[.agg (waitA l), cp] w1 fun e w2 => e = .returned (.bool (p l)) ∧ Since w1 w2) (hcf : ∀ (args : Array Value) (w1 : World), (callFunc F args).run Try.prog w1 = .ok (.enter F args) w1) :
    Calls Try.prog 76 #[.slice A ls.length c, .func (.func F) #[] #[cp]] w fun e w' => e = .returned (.int .i64 (oI (atP ls p))) ∧ Since w w' := by
  cases hf : atP ls p with
  | some k => exact indexHit lo A c ls F cp p k w ho hl hp hcf hf
  | none => exact indexMiss lo A c ls F cp p w ho hl hp hcf hf
set_option maxHeartbeats 4000000 in
theorem findT (lo q : Nat) (G : GrV) (v1 : Value) (A2 : Option Addr) (c2 : Nat) (f wy : Int) (w : World) (hq : Blk w q 67 (grpA G v1 (.slice A2 G.waits.length c2))) (ho : WaitsAt lo A2 G.waits.length c2 G.waits w) (hl : G.waits.length ≤ 10000) : Calls Try.prog 47 #[.pointer (some ⟨q, 0, none⟩), .agg #[.int .i64 f, .int .i64 wy]] w fun e w' => e = .returned (.int .i64 (oI (atP G.waits (isW f wy)))) ∧ Since w w' := by
 have HQ := Lib.hid hq
 clear hq
 have HOW := Lib.hid ho
 clear ho
 have HL := Lib.hid hl
 clear hl
 go_enter Try.func47, Try.ntmps47
 go_upto_region 1 with fail
 obtain ⟨w1, hw1⟩ : ∃ w1, w1 = (w.alloc (.cells #[.int .i64 f, .int .i64 wy] 32)) := ⟨_, rfl⟩
 rw [← hw1]
 have HBK1 := Lib.hid (show Blk w1 (w.heap.size) 32 #[.int .i64 f, .int .i64 wy] by rw [hw1]; exact Blk.at_ (by (try simp only [size_alloc])) _ _)
 have HS1 := Lib.hid (show Since w w1 by rw [hw1]; exact Since.alloc (Since.refl w) _)
 have hNE : w.heap.size ≤ w.heap.size := by omega
 have HNE := Lib.hid hNE
 clear hNE hw1
 have HNE3 := Lib.hid (show w.heap.size ≤ w.heap.size from HNE.out)
 clear HNE
 have HQ1 := Lib.hid (keep_blk HS1.out HQ.out)
 have HOW1 := Lib.hid (keep_own HS1.out HOW.out)
 refine wp_region_lit ?_
 refine tkL (.pointer (some ⟨q, 0, none⟩)) (h := ?_)
 (try simp only [Act.put, sA, sB, sC])
 refine tkL (.pointer (some ⟨q, 0, none⟩)) (h := ?_)
 (try simp only [Act.put, sA, sB, sC])
 refine tkL (.pointer (some ⟨q, 19, none⟩)) (h := ?_)
 (try simp only [Act.put, sA, sB, sC])
 refine wpList_q (by rfl) (.slice A2 G.waits.length c2) ?he ?_
 case he => exact exec_cell 50 _ _ HQ1.out rfl rfl rfl Try.underlying50 rfl
 (try simp only [Act.put, sA, sB, sC])
 refine wpList_q (by rfl) (.func (.func 77) #[] #[.pointer (some ⟨w.heap.size, 0, none⟩)]) ?he ?_
 case he => (first | rfl | (go_simp; (try rfl)))
 (try simp only [Act.put, sA, sB, sC])
 refine wpList_wp (by rfl) (fun K hK => ?_)
 (try go_simp)
 refine (indexV lo A2 c2 G.waits 77 (.pointer (some ⟨w.heap.size, 0, none⟩)) (isW f wy) _ HOW1.out HL.out (fun l w1 hs => find1T w.heap.size f wy l w1 (keep_blk hs HBK1.out)) (fun args w1 => enterF Try.func77 (by kernel_rfl) rfl args w1)).mono ?_
 rintro e w2 ⟨rfl, hb⟩
 (try go_wp2_with fail)
 refine hK.out _ _ ?_
 clear hK K
 (try simp only [Act.put, sA, sB, sC])
 have HS2 := Lib.hid (Since.trans HS1.out hb)
 have HBK2 := Lib.hid (keep_blk hb HBK1.out)
 have HBQ2 := Lib.hid (keep_blk hb HQ1.out)
 have HFr2 := Lib.hid (keep_own hb HOW1.out)
 clear HS1 HBK1 HQ1 HOW1
 clear hb
 refine tkL (.int .i64 (oI (atP G.waits (isW f wy)))) (h := ?_)
 (try simp only [Act.put, sA, sB, sC])
 refine wpList_nil ?_
 (try go_wp2_with fail)
 go_ret
 exact ⟨rfl, HS2.out⟩
set_option maxHeartbeats 4000000 in
theorem changeL (q : Nat) (G : GrV) (A : Option Addr) (n c1 : Nat) (v2 : Value) (i : Int) (F : Value) (w : World) (hq : Blk w q 67 (grpA G (.slice A n c1) v2)) (hi : i < 0) : Calls Try.prog 57 #[.pointer (some ⟨q, 0, none⟩), .int .i64 i, F] w fun e w' => e = .returned (.int .i64 1) ∧ w = w' := by
 have HQ := Lib.hid hq
 clear hq
 have HI := Lib.hid hi
 clear hi
 go_enter Try.func57, Try.ntmps57
 go_upto_region 1 with fail
 have HS1 := Lib.hid (Since.refl w)
 refine wp_region_lit ?_
 refine tkL (.pointer (some ⟨q, 0, none⟩)) (h := ?_)
 (try simp only [Act.put, sA, sB, sC])
 refine tkL (.bool false) (h := ?_)
 (try simp only [Act.put, sA, sB, sC])
 refine tkL (.bool false) (h := ?_)
 (try simp only [Act.put, sA, sB, sC])
 refine tkL (.int .i64 i) (h := ?_)
 (try simp only [Act.put, sA, sB, sC])
 refine wpList_q (by rfl) (.bool true) ?he ?_
 case he => (have q0 := HI.out; go_simp; (first | done | rfl | omega))
 (try simp only [Act.put, sA, sB, sC])
 refine tkL (.bool true) (h := ?_)
 (try simp only [Act.put, sA, sB, sC])
 refine tkL (.bool true) (h := ?_)
 (try simp only [Act.put, sA, sB, sC])
 refine wpList_no (by rfl) ?_
 (try simp only [Act.put, sA, sB, sC])
 refine wpList_no (by rfl) ?_
 (try simp only [Act.put, sA, sB, sC])
 refine wpList_no (by rfl) ?_
 (try simp only [Act.put, sA, sB, sC])
 refine wpList_no (by rfl) ?_
 (try simp only [Act.put, sA, sB, sC])
 refine wpList_no (by rfl) ?_
 (try simp only [Act.put, sA, sB, sC])
 refine wpList_no (by rfl) ?_
 (try simp only [Act.put, sA, sB, sC])
 refine wpList_no (by rfl) ?_
 (try simp only [Act.put, sA, sB, sC])
 refine tkL (.bool true) (h := ?_)
 (try simp only [Act.put, sA, sB, sC])
 refine wpList_nil ?_
 go_upto_region 2 with fail
 refine wp_region_lit ?_
 refine tkL (.int .i64 1) (h := ?_)
 (try simp only [Act.put, sA, sB, sC])
 refine wpList_nil ?_
 (try go_wp2_with fail)
 go_ret
 exact ⟨rfl, rfl⟩
set_option maxHeartbeats 4000000 in
theorem changeH (q : Nat) (G : GrV) (A : Option Addr) (n c1 : Nat) (v2 : Value) (i : Int) (F : Value) (w : World) (hq : Blk w q 67 (grpA G (.slice A n c1) v2)) (hi : 0 ≤ i) (hj : (n : Int) ≤ i) : Calls Try.prog 57 #[.pointer (some ⟨q, 0, none⟩), .int .i64 i, F] w fun e w' => e = .returned (.int .i64 1) ∧ w = w' := by
 have HQ := Lib.hid hq
 clear hq
 have HI := Lib.hid hi
 clear hi
 have HJ := Lib.hid hj
 clear hj
 go_enter Try.func57, Try.ntmps57
 go_upto_region 1 with fail
 have HS1 := Lib.hid (Since.refl w)
 refine wp_region_lit ?_
 refine tkL (.pointer (some ⟨q, 0, none⟩)) (h := ?_)
 (try simp only [Act.put, sA, sB, sC])
 refine tkL (.bool false) (h := ?_)
 (try simp only [Act.put, sA, sB, sC])
 refine tkL (.bool false) (h := ?_)
 (try simp only [Act.put, sA, sB, sC])
 refine tkL (.int .i64 i) (h := ?_)
 (try simp only [Act.put, sA, sB, sC])
 refine wpList_q (by rfl) (.bool false) ?he ?_
 case he => (have q0 := HI.out; go_simp; (first | done | rfl | omega))
 (try simp only [Act.put, sA, sB, sC])
 refine tkL (.bool false) (h := ?_)
 (try simp only [Act.put, sA, sB, sC])
 refine tkL (.bool false) (h := ?_)
 (try simp only [Act.put, sA, sB, sC])
 refine tkL (.int .i64 i) (h := ?_)
 (try simp only [Act.put, sA, sB, sC])
 refine tkL (.pointer (some ⟨q, 0, none⟩)) (h := ?_)
 (try simp only [Act.put, sA, sB, sC])
 refine tkL (.pointer (some ⟨q, 0, none⟩)) (h := ?_)
 (try simp only [Act.put, sA, sB, sC])
 refine tkL (.pointer (some ⟨q, 18, none⟩)) (h := ?_)
 (try simp only [Act.put, sA, sB, sC])
 refine wpList_q (by rfl) (.slice A n c1) ?he ?_
 case he => exact exec_cell 37 _ _ HQ.out rfl rfl rfl Try.underlying37 rfl
 (try simp only [Act.put, sA, sB, sC])
 refine tkL (.int .i64 (n : Int)) (h := ?_)
 (try simp only [Act.put, sA, sB, sC])
 refine wpList_q (by rfl) (.bool true) ?he ?_
 case he => (have q0 := HJ.out; go_simp; (first | done | rfl | omega))
 (try simp only [Act.put, sA, sB, sC])
 refine tkL (.bool true) (h := ?_)
 (try simp only [Act.put, sA, sB, sC])
 refine wpList_nil ?_
 go_upto_region 2 with fail
 refine wp_region_lit ?_
 refine tkL (.int .i64 1) (h := ?_)
 (try simp only [Act.put, sA, sB, sC])
 refine wpList_nil ?_
 (try go_wp2_with fail)
 go_ret
 exact ⟨rfl, rfl⟩
set_option maxHeartbeats 4000000 in
theorem change1 (q g : Nat) (G : GrV) (n c1 : Nat) (v2 : Value) (i : Nat) (F : FuncId) (p0 : Value) (r : Int) (Φ : World → Prop) (w : World) (hq : Blk w q 67 (grpA G (.slice (some ⟨g, 0, none⟩) n c1) v2)) (hi : i < n) (hcf : ∀ (args : Array Value) (w1 : World), (callFunc F args).run Try.prog w1 = .ok (.enter F args) w1) (hf : Calls Try.prog F #[.pointer (some ⟨g, i * 15, none⟩), p0] w fun e w' => e = .returned (.int .i64 r) ∧ Φ w') : Calls Try.prog 57 #[.pointer (some ⟨q, 0, none⟩), .int .i64 (i : Int), .func (.func F) #[] #[p0]] w fun e w' => e = .returned (.int .i64 r) ∧ Φ w' := by
 have HQ := Lib.hid hq
 clear hq
 have HI := Lib.hid hi
 clear hi
 have HCF := Lib.hid hcf
 clear hcf
 have HF := Lib.hid hf
 clear hf
 go_enter Try.func57, Try.ntmps57
 go_upto_region 1 with fail
 have HS1 := Lib.hid (Since.refl w)
 refine wp_region_lit ?_
 refine tkL (.pointer (some ⟨q, 0, none⟩)) (h := ?_)
 (try simp only [Act.put, sA, sB, sC])
 refine tkL (.bool false) (h := ?_)
 (try simp only [Act.put, sA, sB, sC])
 refine tkL (.bool false) (h := ?_)
 (try simp only [Act.put, sA, sB, sC])
 refine tkL (.int .i64 (i : Int)) (h := ?_)
 (try simp only [Act.put, sA, sB, sC])
 refine wpList_q (by rfl) (.bool false) ?he ?_
 case he => (go_simp; (first | done | rfl | omega))
 (try simp only [Act.put, sA, sB, sC])
 refine tkL (.bool false) (h := ?_)
 (try simp only [Act.put, sA, sB, sC])
 refine tkL (.bool false) (h := ?_)
 (try simp only [Act.put, sA, sB, sC])
 refine tkL (.int .i64 (i : Int)) (h := ?_)
 (try simp only [Act.put, sA, sB, sC])
 refine tkL (.pointer (some ⟨q, 0, none⟩)) (h := ?_)
 (try simp only [Act.put, sA, sB, sC])
 refine tkL (.pointer (some ⟨q, 0, none⟩)) (h := ?_)
 (try simp only [Act.put, sA, sB, sC])
 refine tkL (.pointer (some ⟨q, 18, none⟩)) (h := ?_)
 (try simp only [Act.put, sA, sB, sC])
 refine wpList_q (by rfl) (.slice (some ⟨g, 0, none⟩) n c1) ?he ?_
 case he => exact exec_cell 37 _ _ HQ.out rfl rfl rfl Try.underlying37 rfl
 (try simp only [Act.put, sA, sB, sC])
 refine tkL (.int .i64 (n : Int)) (h := ?_)
 (try simp only [Act.put, sA, sB, sC])
 refine wpList_q (by rfl) (.bool false) ?he ?_
 case he => (have q0 := HI.out; go_simp; (first | done | rfl | omega))
 (try simp only [Act.put, sA, sB, sC])
 refine tkL (.bool false) (h := ?_)
 (try simp only [Act.put, sA, sB, sC])
 refine wpList_nil ?_
 go_upto_region 3 with fail
 refine wp_region_lit ?_
 refine tkL (.func (.func F) #[] #[p0]) (h := ?_)
 (try simp only [Act.put, sA, sB, sC])
 refine tkL (.pointer (some ⟨q, 0, none⟩)) (h := ?_)
 (try simp only [Act.put, sA, sB, sC])
 refine tkL (.pointer (some ⟨q, 0, none⟩)) (h := ?_)
 (try simp only [Act.put, sA, sB, sC])
 refine tkL (.pointer (some ⟨q, 18, none⟩)) (h := ?_)
 (try simp only [Act.put, sA, sB, sC])
 refine wpList_q (by rfl) (.slice (some ⟨g, 0, none⟩) n c1) ?he ?_
 case he => exact exec_cell 37 _ _ HQ.out rfl rfl rfl Try.underlying37 rfl
 (try simp only [Act.put, sA, sB, sC])
 refine tkL (.int .i64 (i : Int)) (h := ?_)
 (try simp only [Act.put, sA, sB, sC])
 refine wpList_q (by rfl) (.pointer (some ⟨g, (0 + i * 15), none⟩)) ?he ?_
 case he => exact exec_index (i := i) (s := 15) 37 30 _ _ rfl rfl rfl rfl HI.out Try.underlying37 (by kernel_rfl)
 (try simp only [Act.put, sA, sB, sC])
 refine wpList_wp (by rfl) (fun K hK => ?_)
 (try go_simp)
 rw [HCF.out, Oper.upon_enter]
 refine (HF.out).mono ?_
 rintro e w9 ⟨rfl, hphi⟩
 (try go_wp2_with fail)
 refine hK.out _ _ ?_
 clear hK K
 (try simp only [Act.put, sA, sB, sC])
 refine tkL (.int .i64 r) (h := ?_)
 (try simp only [Act.put, sA, sB, sC])
 refine wpList_nil ?_
 (try go_wp2_with fail)
 go_ret
 exact ⟨rfl, hphi⟩
set_option maxHeartbeats 4000000 in
theorem change2 (q g : Nat) (G : GrV) (n c1 : Nat) (v2 : Value) (i : Nat) (F : FuncId) (p0 p1 : Value) (r : Int) (Φ : World → Prop) (w : World) (hq : Blk w q 67 (grpA G (.slice (some ⟨g, 0, none⟩) n c1) v2)) (hi : i < n) (hcf : ∀ (args : Array Value) (w1 : World), (callFunc F args).run Try.prog w1 = .ok (.enter F args) w1) (hf : Calls Try.prog F #[.pointer (some ⟨g, i * 15, none⟩), p0, p1] w fun e w' => e = .returned (.int .i64 r) ∧ Φ w') : Calls Try.prog 57 #[.pointer (some ⟨q, 0, none⟩), .int .i64 (i : Int), .func (.func F) #[] #[p0, p1]] w fun e w' => e = .returned (.int .i64 r) ∧ Φ w' := by
 have HQ := Lib.hid hq
 clear hq
 have HI := Lib.hid hi
 clear hi
 have HCF := Lib.hid hcf
 clear hcf
 have HF := Lib.hid hf
 clear hf
 go_enter Try.func57, Try.ntmps57
 go_upto_region 1 with fail
 have HS1 := Lib.hid (Since.refl w)
 refine wp_region_lit ?_
 refine tkL (.pointer (some ⟨q, 0, none⟩)) (h := ?_)
 (try simp only [Act.put, sA, sB, sC])
 refine tkL (.bool false) (h := ?_)
 (try simp only [Act.put, sA, sB, sC])
 refine tkL (.bool false) (h := ?_)
 (try simp only [Act.put, sA, sB, sC])
 refine tkL (.int .i64 (i : Int)) (h := ?_)
 (try simp only [Act.put, sA, sB, sC])
 refine wpList_q (by rfl) (.bool false) ?he ?_
 case he => (go_simp; (first | done | rfl | omega))
 (try simp only [Act.put, sA, sB, sC])
 refine tkL (.bool false) (h := ?_)
 (try simp only [Act.put, sA, sB, sC])
 refine tkL (.bool false) (h := ?_)
 (try simp only [Act.put, sA, sB, sC])
 refine tkL (.int .i64 (i : Int)) (h := ?_)
 (try simp only [Act.put, sA, sB, sC])
 refine tkL (.pointer (some ⟨q, 0, none⟩)) (h := ?_)
 (try simp only [Act.put, sA, sB, sC])
 refine tkL (.pointer (some ⟨q, 0, none⟩)) (h := ?_)
 (try simp only [Act.put, sA, sB, sC])
 refine tkL (.pointer (some ⟨q, 18, none⟩)) (h := ?_)
 (try simp only [Act.put, sA, sB, sC])
 refine wpList_q (by rfl) (.slice (some ⟨g, 0, none⟩) n c1) ?he ?_
 case he => exact exec_cell 37 _ _ HQ.out rfl rfl rfl Try.underlying37 rfl
 (try simp only [Act.put, sA, sB, sC])
 refine tkL (.int .i64 (n : Int)) (h := ?_)
 (try simp only [Act.put, sA, sB, sC])
 refine wpList_q (by rfl) (.bool false) ?he ?_
 case he => (have q0 := HI.out; go_simp; (first | done | rfl | omega))
 (try simp only [Act.put, sA, sB, sC])
 refine tkL (.bool false) (h := ?_)
 (try simp only [Act.put, sA, sB, sC])
 refine wpList_nil ?_
 go_upto_region 3 with fail
 refine wp_region_lit ?_
 refine tkL (.func (.func F) #[] #[p0, p1]) (h := ?_)
 (try simp only [Act.put, sA, sB, sC])
 refine tkL (.pointer (some ⟨q, 0, none⟩)) (h := ?_)
 (try simp only [Act.put, sA, sB, sC])
 refine tkL (.pointer (some ⟨q, 0, none⟩)) (h := ?_)
 (try simp only [Act.put, sA, sB, sC])
 refine tkL (.pointer (some ⟨q, 18, none⟩)) (h := ?_)
 (try simp only [Act.put, sA, sB, sC])
 refine wpList_q (by rfl) (.slice (some ⟨g, 0, none⟩) n c1) ?he ?_
 case he => exact exec_cell 37 _ _ HQ.out rfl rfl rfl Try.underlying37 rfl
 (try simp only [Act.put, sA, sB, sC])
 refine tkL (.int .i64 (i : Int)) (h := ?_)
 (try simp only [Act.put, sA, sB, sC])
 refine wpList_q (by rfl) (.pointer (some ⟨g, (0 + i * 15), none⟩)) ?he ?_
 case he => exact exec_index (i := i) (s := 15) 37 30 _ _ rfl rfl rfl rfl HI.out Try.underlying37 (by kernel_rfl)
 (try simp only [Act.put, sA, sB, sC])
 refine wpList_wp (by rfl) (fun K hK => ?_)
 (try go_simp)
 rw [HCF.out, Oper.upon_enter]
 refine (HF.out).mono ?_
 rintro e w9 ⟨rfl, hphi⟩
 (try go_wp2_with fail)
 refine hK.out _ _ ?_
 clear hK K
 (try simp only [Act.put, sA, sB, sC])
 refine tkL (.int .i64 r) (h := ?_)
 (try simp only [Act.put, sA, sB, sC])
 refine wpList_nil ?_
 (try go_wp2_with fail)
 go_ret
 exact ⟨rfl, hphi⟩
set_option maxHeartbeats 4000000 in
theorem change3 (q g : Nat) (G : GrV) (n c1 : Nat) (v2 : Value) (i : Nat) (F : FuncId) (p0 p1 p2 : Value) (r : Int) (Φ : World → Prop) (w : World) (hq : Blk w q 67 (grpA G (.slice (some ⟨g, 0, none⟩) n c1) v2)) (hi : i < n) (hcf : ∀ (args : Array Value) (w1 : World), (callFunc F args).run Try.prog w1 = .ok (.enter F args) w1) (hf : Calls Try.prog F #[.pointer (some ⟨g, i * 15, none⟩), p0, p1, p2] w fun e w' => e = .returned (.int .i64 r) ∧ Φ w') : Calls Try.prog 57 #[.pointer (some ⟨q, 0, none⟩), .int .i64 (i : Int), .func (.func F) #[] #[p0, p1, p2]] w fun e w' => e = .returned (.int .i64 r) ∧ Φ w' := by
 have HQ := Lib.hid hq
 clear hq
 have HI := Lib.hid hi
 clear hi
 have HCF := Lib.hid hcf
 clear hcf
 have HF := Lib.hid hf
 clear hf
 go_enter Try.func57, Try.ntmps57
 go_upto_region 1 with fail
 have HS1 := Lib.hid (Since.refl w)
 refine wp_region_lit ?_
 refine tkL (.pointer (some ⟨q, 0, none⟩)) (h := ?_)
 (try simp only [Act.put, sA, sB, sC])
 refine tkL (.bool false) (h := ?_)
 (try simp only [Act.put, sA, sB, sC])
 refine tkL (.bool false) (h := ?_)
 (try simp only [Act.put, sA, sB, sC])
 refine tkL (.int .i64 (i : Int)) (h := ?_)
 (try simp only [Act.put, sA, sB, sC])
 refine wpList_q (by rfl) (.bool false) ?he ?_
 case he => (go_simp; (first | done | rfl | omega))
 (try simp only [Act.put, sA, sB, sC])
 refine tkL (.bool false) (h := ?_)
 (try simp only [Act.put, sA, sB, sC])
 refine tkL (.bool false) (h := ?_)
 (try simp only [Act.put, sA, sB, sC])
 refine tkL (.int .i64 (i : Int)) (h := ?_)
 (try simp only [Act.put, sA, sB, sC])
 refine tkL (.pointer (some ⟨q, 0, none⟩)) (h := ?_)
 (try simp only [Act.put, sA, sB, sC])
 refine tkL (.pointer (some ⟨q, 0, none⟩)) (h := ?_)
 (try simp only [Act.put, sA, sB, sC])
 refine tkL (.pointer (some ⟨q, 18, none⟩)) (h := ?_)
 (try simp only [Act.put, sA, sB, sC])
 refine wpList_q (by rfl) (.slice (some ⟨g, 0, none⟩) n c1) ?he ?_
 case he => exact exec_cell 37 _ _ HQ.out rfl rfl rfl Try.underlying37 rfl
 (try simp only [Act.put, sA, sB, sC])
 refine tkL (.int .i64 (n : Int)) (h := ?_)
 (try simp only [Act.put, sA, sB, sC])
 refine wpList_q (by rfl) (.bool false) ?he ?_
 case he => (have q0 := HI.out; go_simp; (first | done | rfl | omega))
 (try simp only [Act.put, sA, sB, sC])
 refine tkL (.bool false) (h := ?_)
 (try simp only [Act.put, sA, sB, sC])
 refine wpList_nil ?_
 go_upto_region 3 with fail
 refine wp_region_lit ?_
 refine tkL (.func (.func F) #[] #[p0, p1, p2]) (h := ?_)
 (try simp only [Act.put, sA, sB, sC])
 refine tkL (.pointer (some ⟨q, 0, none⟩)) (h := ?_)
 (try simp only [Act.put, sA, sB, sC])
 refine tkL (.pointer (some ⟨q, 0, none⟩)) (h := ?_)
 (try simp only [Act.put, sA, sB, sC])
 refine tkL (.pointer (some ⟨q, 18, none⟩)) (h := ?_)
 (try simp only [Act.put, sA, sB, sC])
 refine wpList_q (by rfl) (.slice (some ⟨g, 0, none⟩) n c1) ?he ?_
 case he => exact exec_cell 37 _ _ HQ.out rfl rfl rfl Try.underlying37 rfl
 (try simp only [Act.put, sA, sB, sC])
 refine tkL (.int .i64 (i : Int)) (h := ?_)
 (try simp only [Act.put, sA, sB, sC])
 refine wpList_q (by rfl) (.pointer (some ⟨g, (0 + i * 15), none⟩)) ?he ?_
 case he => exact exec_index (i := i) (s := 15) 37 30 _ _ rfl rfl rfl rfl HI.out Try.underlying37 (by kernel_rfl)
 (try simp only [Act.put, sA, sB, sC])
 refine wpList_wp (by rfl) (fun K hK => ?_)
 (try go_simp)
 rw [HCF.out, Oper.upon_enter]
 refine (HF.out).mono ?_
 rintro e w9 ⟨rfl, hphi⟩
 (try go_wp2_with fail)
 refine hK.out _ _ ?_
 clear hK K
 (try simp only [Act.put, sA, sB, sC])
 refine tkL (.int .i64 r) (h := ?_)
 (try simp only [Act.put, sA, sB, sC])
 refine wpList_nil ?_
 (try go_wp2_with fail)
 go_ret
 exact ⟨rfl, hphi⟩
end Go.Proofs.Ytpacieocmogjeaa.Gr
