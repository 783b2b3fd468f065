/-
  slices.Clone and slices.Delete of asks, walked.
  Conditions: what stands ahead of each.
-/
import Derived.Test.YtggafipgfgbbiaaProg
import Derived.Test.YtggafipgfgbbiaaQue
namespace Go.Proofs.Ytggafipgfgbbiaa.Qu
set_option linter.unusedVariables false
set_option linter.unusedSimpArgs false
open Go.RowKit Go.Proofs.Ytggafipgfgbbiaa.Ba Go.Proofs.Ytggafipgfgbbiaa.Mem Go.Proofs.Ytggafipgfgbbiaa.Ty
set_option maxRecDepth 100000
attribute [local irreducible] Go.wpList
set_option maxHeartbeats 4000000 in
theorem cloneNil (w : World) : Calls Try.prog 71 #[.slice none 0 0] w fun e w' => e = .returned (.slice none 0 0) ∧ Since w w' := by
  go_enter Try.func71, Try.ntmps71
  go_upto_region 1 with fail
  have HS1 := Lib.hid (Since.refl w)
  refine wp_region_lit ?_
  refine wpList_q (by rfl) (.slice none 0 0) ?he ?_
  case he => (first | rfl | (go_simp; (try with_reducible rfl)))
  (try simp only [Act.put, sA, sB, sC])
  refine wpList_q (by rfl) (.bool true) ?he ?_
  case he => (first | rfl | (go_simp; (try with_reducible rfl)))
  (try simp only [Act.put, sA, sB, sC])
  refine wpList_nil ?_
  go_upto_region 2 with fail
  refine wp_region_lit ?_
  refine wpList_q (by rfl) (.slice none 0 0) ?he ?_
  case he => (first | rfl | (go_simp; (try with_reducible rfl)))
  (try simp only [Act.put, sA, sB, sC])
  refine wpList_nil ?_
  (try go_wp2_with fail)
  go_ret
  exact ⟨rfl, HS1.out⟩
set_option maxHeartbeats 4000000 in
theorem cloneSome (ad : Addr) (n c : Nat) (ls : List AskV) (w : World) (hR : Reads w w.heap.size 5 (some ad) n (rowsOf askC ls)) (hN : n ≤ 1000000) : Calls Try.prog 71 #[.slice (some ad) n c] w fun e w' => ∃ A' c', e = .returned (.slice A' n c') ∧ w'.ownsRow w.heap.size 30 5 (.slice A' n c') n (rowsOf askC ls) ∧ Since w w' := by
  have HR := Lib.hid hR
  clear hR
  have HN := Lib.hid hN
  clear hN
  go_enter Try.func71, Try.ntmps71
  go_upto_region 1 with fail
  have HS1 := Lib.hid (Since.refl w)
  refine wp_region_lit ?_
  refine wpList_q (by rfl) (.slice (some ad) n c) ?he ?_
  case he => (first | rfl | (go_simp; (try with_reducible rfl)))
  (try simp only [Act.put, sA, sB, sC])
  refine wpList_q (by rfl) (.bool false) ?he ?_
  case he => (first | rfl | (go_simp; (try with_reducible rfl)))
  (try simp only [Act.put, sA, sB, sC])
  refine wpList_nil ?_
  go_upto_region 3 with fail
  refine wp_region_lit ?_
  refine wpList_wp (by rfl) (fun K hK => ?_)
  refine wp_new (fun b => .slice (some ⟨b, 0, none⟩) 0 0) 30 #[] (by rintro b rfl; first | rfl | kernel_rfl) ?_
  intro bn5 w2 hge hB hb
  refine hK.out _ _ ?_
  clear hK K
  (try simp only [Act.put, sA, sB, sC])
  have HGn5 := Lib.hid (show w.heap.size ≤ bn5 by have := Since.size HS1.out; omega)
  have HS2 := Lib.hid (Since.trans HS1.out hb)
  clear HS1 
  clear hb hge
  have HBn52 := Lib.hid hB
  clear hB
  refine wpList_q (by rfl) (.slice (some ad) n c) ?he ?_
  case he => (first | rfl | (go_simp; (try with_reducible rfl)))
  (try simp only [Act.put, sA, sB, sC])
  refine wpList_wp (by rfl) (fun K hK => ?_)
  have HOE := Lib.hid (own_empty (e := 30) (size := 5) HBn52.out HGn5.out)
  clear HBn52
  refine wp_append_row (.tmp 5) (.tmp 6) 35 rfl w.heap.size 30 (Value.agg #[.int .i64 0, .int .i64 0, .int .i64 0, .int .i64 0, .int .i64 0]) 5 40 Try.underlying35 (by kernel_rfl) rfl (by decide) (by decide) (some ⟨bn5, 0, none⟩) 0 0 ([]) rfl HOE.out _ (some ad) n c (rowsOf askC ls) rfl (own_reads_since HS2.out (Nat.le_refl _) HR.out) (asks_one ls) (by have := HN.out; omega) HS2.out.size n (rowsOf askC ls) (Nat.zero_add _) rfl ?_
  intro A_1 c_1 w3 hown hupd hfar
  refine hK.out _ _ ?_
  clear hK K
  (try simp only [Act.put, sA, sB, sC])
  have HS3 := Lib.hid (Since.upd HS2.out hupd (own_low HOE.out))
  have HFr3 := Lib.hid hown
  clear hupd hown hfar HS2 HOE
  refine wpList_q (by rfl) (.slice A_1 n c_1) ?he ?_
  case he => (first | rfl | (go_simp; (try with_reducible rfl)))
  (try simp only [Act.put, sA, sB, sC])
  refine wpList_nil ?_
  (try go_wp2_with fail)
  go_ret
  exact ⟨A_1, c_1, rfl, HFr3.out, HS3.out⟩
theorem cloneT (lo : Nat) (A : Option Addr) (c : Nat) (ls : List AskV) (w : World) (hO : w.ownsRow lo 30 5 (.slice A ls.length c) ls.length (rowsOf askC ls)) (hl : ls.length ≤ 1000000) : Calls Try.prog 71 #[.slice A ls.length c] w fun e w' => ∃ A' c', e = .returned (.slice A' ls.length c') ∧ w'.ownsRow w.heap.size 30 5 (.slice A' ls.length c') ls.length (rowsOf askC ls) ∧ Since w w' := by
  rcases own_at hO with ⟨rfl, h0, hx⟩ | ⟨g, cur, rfl, _⟩
  · have hc : c = 0 := by
      rcases hO.2 with ⟨hv, _⟩ | ⟨_, _, _, hv, _⟩
      · simp at hv; exact hv.2
      · simp at hv
    subst hc
    rw [hx, h0]
    refine (cloneNil w).mono ?_
    rintro e w1 ⟨rfl, hb⟩
    exact ⟨none, 0, rfl, World.ownsRow_nil _ _ _ _, hb⟩
  · exact cloneSome _ _ c ls w (own_reads hO) hl
set_option maxHeartbeats 4000000 in
theorem deleteT (lo g m c i : Nat) (ls : List AskV) (w : World) (hO : w.ownsRow lo 30 5 (.slice (some ⟨g, 0, none⟩) (m + 1) c) (m + 1) (rowsOf askC ls)) (hl : ls.length = m + 1) (hi : i ≤ m) (hc : m + 1 ≤ c) (hm : m + 1 ≤ 1000000) : Calls Try.prog 69 #[.slice (some ⟨g, 0, none⟩) (m + 1) c, .int .i64 (i : Int), .int .i64 ((i : Int) + 1)] w fun e w' => e = .returned (.slice (some ⟨g, 0, none⟩) m c) ∧ w'.ownsRow lo 30 5 (.slice (some ⟨g, 0, none⟩) m c) m (rowsOf askC (ls.eraseIdx i)) ∧ Upd [g] w w' := by
  have HOW := Lib.hid hO
  clear hO
  have HL := Lib.hid hl
  clear hl
  have HI := Lib.hid hi
  clear hi
  have HC := Lib.hid hc
  clear hc
  have HM := Lib.hid hm
  clear hm
  go_enter Try.func69, Try.ntmps69
  go_upto_region 1 with fail
  have HS1 := Lib.hid (Upd.refl [g] w)
  refine wp_region_lit ?_
  refine wpList_q (by rfl) (.slice (some ⟨g, 0, none⟩) (m + 1) c) ?he ?_
  case he => (first | rfl | (go_simp; (try with_reducible rfl)))
  (try simp only [Act.put, sA, sB, sC])
  refine wpList_q (by rfl) (.int .i64 (i : Int)) ?he ?_
  case he => (first | rfl | (go_simp; (try with_reducible rfl)))
  (try simp only [Act.put, sA, sB, sC])
  refine wpList_q (by rfl) (.int .i64 ((i : Int) + 1)) ?he ?_
  case he => (first | rfl | (go_simp; (try with_reducible rfl)))
  (try simp only [Act.put, sA, sB, sC])
  refine wpList_q (by rfl) (.slice (some ⟨g, 0, none⟩) (m + 1) c) ?he ?_
  case he => (first | rfl | (go_simp; (try with_reducible rfl)))
  (try simp only [Act.put, sA, sB, sC])
  refine wpList_q (by rfl) (.int .i64 ((m + 1 : Nat) : Int)) ?he ?_
  case he => (first | rfl | (go_simp; (try with_reducible rfl)))
  (try simp only [Act.put, sA, sB, sC])
  refine wpList_q (by rfl) (.slice (cutA (m + 1) i (some ⟨g, 0, none⟩ : Option Addr) 5) (i + 1 - i) (m + 1 - i)) ?he ?_
  case he => exact exec_slice (s := 5) 35 30 _ _ _ _ rfl rfl Try.underlying35 (by kernel_rfl) (sb_lhm _ _ _ _ (l := i) (h := i + 1) (m := m + 1) rfl (by push_cast; rfl) rfl (by omega) (by have q0 := HI.out; omega) HC.out) (by rfl) rfl rfl
  (try simp only [Act.put, sA, sB, sC])
  refine wpList_nil ?_
  go_upto_region 2 with fail
  refine wp_region_lit ?_
  refine wpList_q (by rfl) (.int .i64 (i : Int)) ?he ?_
  case he => (first | rfl | (go_simp; (try with_reducible rfl)))
  (try simp only [Act.put, sA, sB, sC])
  refine wpList_q (by rfl) (.int .i64 ((i : Int) + 1)) ?he ?_
  case he => (first | rfl | (go_simp; (try with_reducible rfl)))
  (try simp only [Act.put, sA, sB, sC])
  refine wpList_q (by rfl) (.bool false) ?he ?_
  case he => (go_simp; (first | done | rfl | omega))
  (try simp only [Act.put, sA, sB, sC])
  refine wpList_nil ?_
  go_upto_region 4 with fail
  refine wp_region_lit ?_
  refine wpList_q (by rfl) (.slice (some ⟨g, 0, none⟩) (m + 1) c) ?he ?_
  case he => (first | rfl | (go_simp; (try with_reducible rfl)))
  (try simp only [Act.put, sA, sB, sC])
  refine wpList_q (by rfl) (.int .i64 ((m + 1 : Nat) : Int)) ?he ?_
  case he => (first | rfl | (go_simp; (try with_reducible rfl)))
  (try simp only [Act.put, sA, sB, sC])
  refine wpList_q (by rfl) (.int .i64 ((m + 1 : Nat) : Int)) ?he ?_
  case he => (first | rfl | (go_simp; (try with_reducible rfl)))
  (try simp only [Act.put, sA, sB, sC])
  refine wpList_nil ?_
  go_upto_region 5 with fail
  have hrK : ∀ W W' : World, Since W W' → (Upd [g] w W) → (Upd [g] w W') := fun W W' k h => h.trans k
  have hrS : (fun W : World => Upd [g] w W) w := HS1.out
  have HRK := Lib.hid hrK
  have HRD := Lib.hid (show (fun W : World => Upd [g] w W) (World.drew w) from Upd.drew hrS)
  clear hrK hrS
  have HEr := Lib.hid (show ((World.drew w)).ownsRow lo 30 5 (.slice (some ⟨g, 0, none⟩) (m + 1) c) (m + 1) (rowsOf askC ls) from HOW.out)
  clear HOW
  refine wp_region_held_drew (S := fun W : World => Upd [g] w W) (by kernel_rfl) HRD.out (fun hHeld => ?_)
  refine wpAnyH_take (i := 0) (oi := ?o5__0) (v := .slice (some ⟨g, 0, none⟩) (m + 1) c) ?h5__0 (by kernel_rfl) (by kernel_rfl) (by kernel_rfl) ?q5__0 ?y5__0 (by assumption) ?_
  case h5__0 => (first | (simp only [gA, gB, gC]; done) | (simp only [gA, gB, gC]; exact rfl))
  case q5__0 => exact fun _ _ _ h => h
  case y5__0 => (refine Or.inl ⟨rfl, ?_⟩; intro w hSw; (first | rfl | (go_simp; (try with_reducible rfl))))
  (try simp only [Act.put, sA, sB, sC])
  refine wpAnyH_take (i := 1) (oi := ?o5__1) (v := .int .i64 (i : Int)) ?h5__1 (by kernel_rfl) (by kernel_rfl) (by kernel_rfl) ?q5__1 ?y5__1 (by assumption) ?_
  case h5__1 => (first | (simp only [gA, gB, gC]; done) | (simp only [gA, gB, gC]; exact rfl))
  case q5__1 => exact fun _ _ _ h => h
  case y5__1 => (refine Or.inl ⟨rfl, ?_⟩; intro w hSw; (first | rfl | (go_simp; (try with_reducible rfl))))
  (try simp only [Act.put, sA, sB, sC])
  refine wpAnyH_take (i := 2) (oi := ?o5__2) (v := .slice (some ⟨g, 0, none⟩) i c) ?h5__2 (by kernel_rfl) (by kernel_rfl) (by kernel_rfl) ?q5__2 ?y5__2 (by assumption) ?_
  case h5__2 => (first | (simp only [gA, gB, gC]; done) | (simp only [gA, gB, gC]; exact rfl))
  case q5__2 => exact fun _ _ _ h => h
  case y5__2 => (refine Or.inl ⟨rfl, ?_⟩; intro w hSw; exact exec_slice (s := 5) 35 30 _ _ _ _ rfl rfl Try.underlying35 (by kernel_rfl) (sb_h _ _ (h := i) rfl (by have q0 := HI.out; have q1 := HC.out; omega)) (by split <;> simp [Addr.add]) rfl rfl)
  (try simp only [Act.put, sA, sB, sC])
  refine wpAnyH_take (i := 3) (oi := ?o5__3) (v := .slice (some ⟨g, 0, none⟩) (m + 1) c) ?h5__3 (by kernel_rfl) (by kernel_rfl) (by kernel_rfl) ?q5__3 ?y5__3 (by assumption) ?_
  case h5__3 => (first | (simp only [gA, gB, gC]; done) | (simp only [gA, gB, gC]; exact rfl))
  case q5__3 => exact fun _ _ _ h => h
  case y5__3 => (refine Or.inl ⟨rfl, ?_⟩; intro w hSw; (first | rfl | (go_simp; (try with_reducible rfl))))
  (try simp only [Act.put, sA, sB, sC])
  refine wpAnyH_take (i := 4) (oi := ?o5__4) (v := .int .i64 ((i : Int) + 1)) ?h5__4 (by kernel_rfl) (by kernel_rfl) (by kernel_rfl) ?q5__4 ?y5__4 (by assumption) ?_
  case h5__4 => (first | (simp only [gA, gB, gC]; done) | (simp only [gA, gB, gC]; exact rfl))
  case q5__4 => exact fun _ _ _ h => h
  case y5__4 => (refine Or.inl ⟨rfl, ?_⟩; intro w hSw; (first | rfl | (go_simp; (try with_reducible rfl))))
  (try simp only [Act.put, sA, sB, sC])
  refine wpAnyH_take (i := 5) (oi := ?o5__5) (v := .slice (cutA c (i + 1) (some ⟨g, 0, none⟩ : Option Addr) 5) (m + 1 - (i + 1)) (c - (i + 1))) ?h5__5 (by kernel_rfl) (by kernel_rfl) (by kernel_rfl) ?q5__5 ?y5__5 (by assumption) ?_
  case h5__5 => (first | (simp only [gA, gB, gC]; done) | (simp only [gA, gB, gC]; exact rfl))
  case q5__5 => exact fun _ _ _ h => h
  case y5__5 => (refine Or.inl ⟨rfl, ?_⟩; intro w hSw; exact exec_slice (s := 5) 35 30 _ _ _ _ rfl rfl Try.underlying35 (by kernel_rfl) (sb_l _ _ (l := i + 1) (by push_cast; rfl) (by have q0 := HI.out; omega)) (by rfl) rfl rfl)
  (try simp only [Act.put, sA, sB, sC])
  refine wpAnyH_ready (rs := [6]) (by kernel_rfl) (by simp) ?_
  refine AllReadyH.cons (o := ?o5__6) ?h5__6 (fun K hK => ?_) AllReadyH.nil
  case h5__6 => (first | (simp only [gA, gB, gC]; done) | (simp only [gA, gB, gC]; exact rfl))
  rw [if_pos (by rfl)]
  refine wp_append_room (.tmp 22) (.tmp 25) 35 rfl lo 30 5 Try.underlying35 (by kernel_rfl) g i c ((rowsOf askC ls).take (i * 5)) rfl (own_prefix HEr.out (by have q0 := HI.out; omega)) _ (cutA c (i + 1) (some ⟨g, 0, none⟩ : Option Addr) 5) (m + 1 - (i + 1)) (c - (i + 1)) ((rowsOf askC ls).drop ((i + 1) * 5)) rfl (reads_cut (own_reads HEr.out) (by have q0 := HI.out; omega) HC.out) (fun u hu => asks_one ls u (List.mem_of_mem_drop hu)) (by have q0 := HI.out; have q1 := HC.out; omega) m (rowsOf askC (ls.eraseIdx i)) (by have q0 := HI.out; omega) (erase_rows askC_len (by have q0 := HI.out; have q2 := HL.out; omega)) ?_
  intro w2 hown hupd
  skip
  have hHeld3 : (fun W : World => Upd [g] w W) w2 := Upd.comp hHeld hupd (fun _ h => .inl h)
  have HOW_w2 := Lib.hid hown
  refine hK.out _ _ hHeld3 (fun hHeld2 => ?_)
  clear hK K hHeld hHeld3 hupd hown  HEr 
  have hHeld := hHeld2
  clear hHeld2
  (try simp only [Act.put, sA, sB, sC])
  refine wpAnyH_take (i := 7) (oi := ?o5__7) (v := .slice (some ⟨g, 0, none⟩) m c) ?h5__7 (by kernel_rfl) (by kernel_rfl) (by kernel_rfl) ?q5__7 ?y5__7 (by assumption) ?_
  case h5__7 => (first | (simp only [gA, gB, gC]; done) | (simp only [gA, gB, gC]; exact rfl))
  case q5__7 => exact fun _ _ _ h => h
  case y5__7 => (refine Or.inl ⟨rfl, ?_⟩; intro w hSw; (first | rfl | (go_simp; (try with_reducible rfl))))
  (try simp only [Act.put, sA, sB, sC])
  refine wpAnyH_done (by kernel_rfl) ?_ _
  have HSd5 := Lib.hid hHeld
  clear hHeld HRK HRD HS1 
  have HFrd5 := Lib.hid HOW_w2.out
  clear HOW_w2
  go_upto_region 6 with fail
  refine wp_region_lit ?_
  refine wpList_q (by rfl) (.slice (some ⟨g, 0, none⟩) m c) ?he ?_
  case he => (first | rfl | (go_simp; (try with_reducible rfl)))
  (try simp only [Act.put, sA, sB, sC])
  refine wpList_q (by rfl) (.slice (some ⟨g, 0, none⟩) m c) ?he ?_
  case he => (first | rfl | (go_simp; (try with_reducible rfl)))
  (try simp only [Act.put, sA, sB, sC])
  refine wpList_q (by rfl) (.int .i64 (m : Int)) ?he ?_
  case he => (first | rfl | (go_simp; (try with_reducible rfl)))
  (try simp only [Act.put, sA, sB, sC])
  refine wpList_q (by rfl) (.int .i64 ((m + 1 : Nat) : Int)) ?he ?_
  case he => (first | rfl | (go_simp; (try with_reducible rfl)))
  (try simp only [Act.put, sA, sB, sC])
  refine wpList_q (by rfl) (.slice (some ⟨g, m * 5, none⟩) 1 (c - m)) ?he ?_
  case he => exact exec_slice (s := 5) 35 30 _ _ _ _ rfl rfl Try.underlying35 (by kernel_rfl) (sb_lh _ _ _ (l := m) (h := m + 1) rfl rfl (by omega) HC.out) (by have q1 := HC.out; rw [if_neg (by omega)]; simp [Go.WideShapes.add_plain]) (by omega) rfl
  (try simp only [Act.put, sA, sB, sC])
  refine wpList_wp (by rfl) (fun K hK => ?_)
  refine wp_clear_behind _ 35 rfl lo 30 (Value.agg #[.int .i64 0, .int .i64 0, .int .i64 0, .int .i64 0, .int .i64 0]) 5 40 Try.underlying35 (by kernel_rfl) rfl (by intro u hu; simp [Value.cells] at hu; (try rcases hu with rfl | rfl | rfl | rfl | rfl) <;> rfl) g m c _ HFrd5.out 1 (c - m) (by decide) HC.out rfl ?_
  intro w3 hown hupd
  refine hK.out _ _ ?_
  clear hK K
  (try simp only [Act.put, sA, sB, sC])
  have HSz := Lib.hid (Upd.comp HSd5.out hupd (fun _ h => .inl h))
  have HOWz := Lib.hid hown
  clear hown hupd HSd5 HFrd5
  refine wpList_nil ?_
  go_upto_region 7 with fail
  refine wp_region_lit ?_
  refine wpList_q (by rfl) (.slice (some ⟨g, 0, none⟩) m c) ?he ?_
  case he => (first | rfl | (go_simp; (try with_reducible rfl)))
  (try simp only [Act.put, sA, sB, sC])
  refine wpList_q (by rfl) (.slice (some ⟨g, 0, none⟩) m c) ?he ?_
  case he => (first | rfl | (go_simp; (try with_reducible rfl)))
  (try simp only [Act.put, sA, sB, sC])
  refine wpList_nil ?_
  (try go_wp2_with fail)
  go_ret
  exact ⟨rfl, HOWz.out, HSz.out⟩
end Go.Proofs.Ytggafipgfgbbiaa.Qu
